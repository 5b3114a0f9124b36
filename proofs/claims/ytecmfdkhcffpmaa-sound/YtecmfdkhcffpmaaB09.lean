/- KwC, KwD, KwE. -/
import Derived.Test.YtecmfdkhcffpmaaB08
import Derived.OwnWalk
import Derived.BigQuiet
import Derived.Deep.QuietTactic
/- Contract of the weaver of sources: a token. -/
namespace Go.Proofs.Ytecmfdkhcffpmaa
open Go.RowKit
set_option linter.unusedSimpArgs false
set_option linter.unusedVariables false
set_option maxHeartbeats 8000000
open Wd

def TokPost (w : World) (r : List UInt8 × List UInt8 × Bool) (e : Ending) (w' : World) : Prop :=
  e = .returned (.tuple #[.string (Wd.mkS r.1), .string (Wd.mkS r.2.1), .bool r.2.2]) ∧ Below w.heap.size w w'
theorem tok_plain (k : Nat) (o : List UInt8) (w : World) (hk : k < 23) (ho : o.length ≤ 1000) :
    Calls Try.prog 104 #[.int .i64 k, .string (Wd.mkS o)] w fun e w' => TokPost w (plainT k, o, true) e w' := by
  have A1 := hide (plain_any k w hk)
  generalize plainT k = t at *
  go_enter Try.func104, Try.ntmps104
  go_wp2_with (first | (go_at_call 132; refine (A1.out).mono ?_; rintro e w1 ⟨rfl, hb1⟩; have HB1 := hide hb1; clear hb1))
  go_ret3
  exact ⟨rfl, HB1.out⟩
theorem mkS_at (o : List UInt8) (j : Nat) (h2 : j < (Wd.mkS o).size) : (((((Wd.mkS o)[j]'h2).toNat : Nat)) : Int) = at_ o j := at_str (Wd.mkS o) j h2
theorem tok_ret {a : Value} {s t : ByteArray} {b : Value} (h : s = t) : Ending.returned (.tuple #[a, .string s, b]) = .returned (.tuple #[a, .string t, b]) := by rw [h]
theorem mkS_take (o : List UInt8) (n : Nat) : (Wd.mkS o).extract 0 n = Wd.mkS (o.take n) := by
  apply ByteArray.ext
  simp [Wd.mkS, ByteArray.data_extract]
theorem tok_open (k : Nat) (o : List UInt8) (w : World) (hk : ¬ k < 23) (hk2 : k < 25) (ho : o.length ≤ 1000) :
    Calls Try.prog 104 #[.int .i64 k, .string (Wd.mkS o)] w fun e w' => TokPost w ([40], o ++ [40], true) e w' := by
  have HR := hide (Below.refl w.heap.size w)
  have hsz := Wd.mkS_size o
  go_enter Try.func104, Try.ntmps104
  by_cases h0 : o.length = 0
  · obtain rfl := List.eq_nil_of_length_eq_zero h0
    go_wp2_with (first | (refine wpList_cat rfl 9 9 _ _ rfl _ _ rfl rfl ?_ ?_; (simp; try omega)))
    go_ret3
    exact ⟨rfl, HR.out⟩
  · go_wp2_with (first | (refine wpList_cat rfl 9 9 _ _ rfl _ _ rfl rfl ?_ ?_; (simp; try omega)))
    go_ret3
    exact ⟨rfl, HR.out⟩
theorem tok_star (k : Nat) (o : List UInt8) (w : World) (hk : ¬ k < 28) (hk2 : k < 30) (ho : o.length ≤ 1000) :
    Calls Try.prog 104 #[.int .i64 k, .string (Wd.mkS o)] w fun e w' => TokPost w ([91], o ++ [91], true) e w' := by
  have HR := hide (Below.refl w.heap.size w)
  have hsz := Wd.mkS_size o
  have d27 : ((k : Int) == 27) = false := by simp; omega
  go_enter Try.func104, Try.ntmps104
  by_cases h0 : o.length = 0
  · obtain rfl := List.eq_nil_of_length_eq_zero h0
    go_wp2_with (first | (refine wpList_cat rfl 9 9 _ _ rfl _ _ rfl rfl ?_ ?_; (simp; try omega)))
    go_ret3
    exact ⟨rfl, HR.out⟩
  · go_wp2_with (first | (refine wpList_cat rfl 9 9 _ _ rfl _ _ rfl rfl ?_ ?_; (simp; try omega)))
    go_ret3
    exact ⟨rfl, HR.out⟩
theorem tok_bar (k : Nat) (o : List UInt8) (w : World) (hk : ¬ k < 25) (hk2 : k < 27) (ho : o.length ≤ 1000) (h0 : 0 < o.length) (hc : at_ o (o.length - 1) = 40) :
    Calls Try.prog 104 #[.int .i64 k, .string (Wd.mkS o)] w fun e w' => TokPost w ([124], o.take (o.length - 1) ++ [124], true) e w' := by
  have HR := hide (Below.refl w.heap.size w)
  have hsz := Wd.mkS_size o
  have hix : (((((Wd.mkS o)[o.length - 1]'(by rw [hsz]; omega)).toNat : Nat)) : Int) = 40 := by rw [mkS_at, hc]
  go_enter Try.func104, Try.ntmps104
  go_wp2
  go_quiet (fail)
  go_wp2
  go_ret3
  exact ⟨tok_ret (by rw [mkS_take]; exact mkS_app _ [124]), below_drewN HR.out nq⟩
theorem tok_shut (k : Nat) (o : List UInt8) (w : World) (hk : k = 27) (ho : o.length ≤ 1000) (h0 : 0 < o.length) (hc : at_ o (o.length - 1) = 124) :
    Calls Try.prog 104 #[.int .i64 k, .string (Wd.mkS o)] w fun e w' => TokPost w ([41], o.take (o.length - 1), true) e w' := by
  have HR := hide (Below.refl w.heap.size w)
  have hsz := Wd.mkS_size o
  have hix : (((((Wd.mkS o)[o.length - 1]'(by rw [hsz]; omega)).toNat : Nat)) : Int) = 124 := by rw [mkS_at, hc]
  subst hk
  go_enter Try.func104, Try.ntmps104
  go_wp2
  go_quiet (fail)
  go_wp2
  go_ret3
  exact ⟨tok_ret (mkS_take _ _), below_drewN HR.out nq⟩
theorem tok_back (k : Nat) (o : List UInt8) (w : World) (hk : ¬ k < 30) (hk2 : k < 32) (ho : o.length ≤ 1000) (h0 : 0 < o.length) (hc : at_ o (o.length - 1) = 91) :
    Calls Try.prog 104 #[.int .i64 k, .string (Wd.mkS o)] w fun e w' => TokPost w ([93], o.take (o.length - 1), true) e w' := by
  have HR := hide (Below.refl w.heap.size w)
  have hsz := Wd.mkS_size o
  have hix : (((((Wd.mkS o)[o.length - 1]'(by rw [hsz]; omega)).toNat : Nat)) : Int) = 91 := by rw [mkS_at, hc]
  have d27 : ((k : Int) == 27) = false := by simp; omega
  go_enter Try.func104, Try.ntmps104
  go_wp2
  go_quiet (fail)
  go_wp2
  go_ret3
  exact ⟨tok_ret (mkS_take _ _), below_drewN HR.out nq⟩
theorem no_bar (k : Nat) (o : List UInt8) (w : World) (hk : ¬ k < 25) (hk2 : k < 27) (ho : o.length ≤ 1000) (hc : ¬ (0 < o.length ∧ at_ o (o.length - 1) = 40)) :
    Calls Try.prog 104 #[.int .i64 k, .string (Wd.mkS o)] w fun e w' => TokPost w ([], o, false) e w' := by
  have HR := hide (Below.refl w.heap.size w)
  have hsz := Wd.mkS_size o
  by_cases h0 : 0 < o.length
  · have hix : (((((Wd.mkS o)[o.length - 1]'(by rw [hsz]; omega)).toNat : Nat)) : Int) = at_ o (o.length - 1) := by rw [mkS_at]
    have hcc : (at_ o (o.length - 1) == 40) = false := by simp; exact fun e => hc ⟨h0, e⟩
    clear hc
    generalize at_ o (o.length - 1) = x at *
    go_enter Try.func104, Try.ntmps104
    go_wp2
    go_ret3
    exact ⟨rfl, HR.out⟩
  · obtain rfl : o = [] := List.eq_nil_of_length_eq_zero (by omega)
    clear hc
    go_enter Try.func104, Try.ntmps104
    go_wp2
    go_ret3
    exact ⟨rfl, HR.out⟩
theorem no_shut (k : Nat) (o : List UInt8) (w : World) (hk : k = 27) (ho : o.length ≤ 1000) (hc : ¬ (0 < o.length ∧ at_ o (o.length - 1) = 124)) :
    Calls Try.prog 104 #[.int .i64 k, .string (Wd.mkS o)] w fun e w' => TokPost w ([], o, false) e w' := by
  have HR := hide (Below.refl w.heap.size w)
  have hsz := Wd.mkS_size o
  subst hk
  by_cases h0 : 0 < o.length
  · have hix : (((((Wd.mkS o)[o.length - 1]'(by rw [hsz]; omega)).toNat : Nat)) : Int) = at_ o (o.length - 1) := by rw [mkS_at]
    have hcc : (at_ o (o.length - 1) == 124) = false := by simp; exact fun e => hc ⟨h0, e⟩
    clear hc
    generalize at_ o (o.length - 1) = x at *
    go_enter Try.func104, Try.ntmps104
    go_wp2
    go_ret3
    exact ⟨rfl, HR.out⟩
  · obtain rfl : o = [] := List.eq_nil_of_length_eq_zero (by omega)
    clear hc
    go_enter Try.func104, Try.ntmps104
    go_wp2
    go_ret3
    exact ⟨rfl, HR.out⟩
theorem no_back (k : Nat) (o : List UInt8) (w : World) (hk : ¬ k < 30) (hk2 : k < 32) (ho : o.length ≤ 1000) (hc : ¬ (0 < o.length ∧ at_ o (o.length - 1) = 91)) :
    Calls Try.prog 104 #[.int .i64 k, .string (Wd.mkS o)] w fun e w' => TokPost w ([], o, false) e w' := by
  have HR := hide (Below.refl w.heap.size w)
  have hsz := Wd.mkS_size o
  have d27 : ((k : Int) == 27) = false := by simp; omega
  by_cases h0 : 0 < o.length
  · have hix : (((((Wd.mkS o)[o.length - 1]'(by rw [hsz]; omega)).toNat : Nat)) : Int) = at_ o (o.length - 1) := by rw [mkS_at]
    have hcc : (at_ o (o.length - 1) == 91) = false := by simp; exact fun e => hc ⟨h0, e⟩
    clear hc
    generalize at_ o (o.length - 1) = x at *
    go_enter Try.func104, Try.ntmps104
    go_wp2
    go_ret3
    exact ⟨rfl, HR.out⟩
  · obtain rfl : o = [] := List.eq_nil_of_length_eq_zero (by omega)
    clear hc
    go_enter Try.func104, Try.ntmps104
    go_wp2
    go_ret3
    exact ⟨rfl, HR.out⟩
theorem token_any (k : Nat) (o : List UInt8) (w : World) (hk : k < 32) (ho : o.length ≤ 1000) :
    Calls Try.prog 104 #[.int .i64 k, .string (Wd.mkS o)] w fun e w' => TokPost w (tokT k o) e w' := by
  unfold tokT
  by_cases c1 : k < 23
  · rw [if_pos c1]; exact tok_plain k o w c1 ho
  rw [if_neg c1]
  by_cases c2 : k < 25
  · rw [if_pos c2]; exact tok_open k o w c1 c2 ho
  rw [if_neg c2]
  by_cases c3 : k < 27
  · rw [if_pos c3]
    unfold shut
    by_cases h : 0 < o.length ∧ at_ o (o.length - 1) = 40
    · rw [if_pos h]; exact tok_bar k o w c2 c3 ho h.1 h.2
    · rw [if_neg h]; exact no_bar k o w c2 c3 ho h
  rw [if_neg c3]
  by_cases c4 : k = 27
  · rw [if_pos c4]
    unfold shut
    by_cases h : 0 < o.length ∧ at_ o (o.length - 1) = 124
    · rw [if_pos h]; exact tok_shut k o w c4 ho h.1 h.2
    · rw [if_neg h]; exact no_shut k o w c4 ho h
  rw [if_neg c4]
  by_cases c5 : k < 30
  · rw [if_pos c5]; exact tok_star k o w (by omega) c5 ho
  rw [if_neg c5]
  unfold shut
  by_cases h : 0 < o.length ∧ at_ o (o.length - 1) = 91
  · rw [if_pos h]; exact tok_back k o w c5 hk ho h.1 h.2
  · rw [if_neg h]; exact no_back k o w c5 hk ho h
end Go.Proofs.Ytecmfdkhcffpmaa
/- Contract of the weaver of sources: what closes all that is open. -/
namespace Go.Proofs.Ytecmfdkhcffpmaa
open Go.RowKit
set_option linter.unusedSimpArgs false
set_option linter.unusedVariables false
set_option maxHeartbeats 8000000
open Wd

theorem clos_app (a b : List UInt8) : clos (a ++ b) = clos a ++ clos b := by
  induction a with
  | nil => rfl
  | cons c r ih => simp [clos, ih]
theorem clos_step (o : List UInt8) (k : Nat) (hk : k < o.length) : clos ((o.drop k).reverse) = clos ((o.drop (k + 1)).reverse) ++ clos [o[k]] := by
  rw [List.drop_eq_getElem_cons hk, List.reverse_cons, clos_app]
theorem clos_bd (o : List UInt8) (k : Nat) : (clos ((o.drop k).reverse)).length ≤ 2 * o.length := by
  have := clos_len ((o.drop k).reverse)
  simp at this
  omega
theorem closing_any (o : List UInt8) (w : World) (ho : o.length ≤ 1000) :
    Calls Try.prog 105 #[.string (Wd.mkS o)] w fun e w' => e = .returned (.string (Wd.mkS (clos o.reverse))) ∧ w' = w := by
  have hsz := Wd.mkS_size o
  go_enter Try.func105, Try.ntmps105
  go_wp2
  go_loop [3, 4] (fun out i => ∃ k : Nat, k ≤ o.length ∧ i = .int .i64 ((k : Int) - 1) ∧ ∃ r : List UInt8, out = .string (Wd.mkS r) ∧ r = clos ((o.drop k).reverse)) (fun out i => (intOf i + 1).toNat)
  case atStart => exact ⟨o.length, Nat.le_refl _, rfl, [], rfl, by simp [clos]⟩
  case round =>
    obtain ⟨k, hk, rfl, r, rfl, hr⟩ := hrel
    have HR := hide hr
    have hl : r.length ≤ 2 * o.length := by rw [hr]; exact clos_bd o k
    clear hr
    cases k with
    | zero =>
      go_wp2
      go_ret
      exact ⟨ret_strB (by rw [HR.out]; simp), rfl⟩
    | succ k =>
      have hs := clos_step o k (by omega)
      rw [← HR.out] at hs
      have HS := hide hs
      clear hs HR
      have hix : (((((Wd.mkS o)[k]'(by rw [hsz]; omega)).toNat : Nat)) : Int) = bt o[k] := by rw [mkS_at]; simp [at_, bt, show k < o.length from by omega]
      have ek : ((k + 1 : Nat) : Int) - 1 = (k : Int) := by omega
      rw [ek]
      generalize hc : o[k] = c at *
      by_cases h1 : c = 40
      · have hb : bt c = 40 := by rw [h1]; rfl
        rw [hb] at hix
        go_wp2_with (first | (refine wpList_cat rfl 9 9 _ _ rfl _ _ rfl rfl ?_ ?_; (simp; omega)))
        go_round
        case rel => exact ⟨k, by omega, rfl, _, rfl, by rw [HS.out, h1]; rfl⟩
        case measure => simp [intOf]
      by_cases h2 : c = 124
      · have hb : bt c = 124 := by rw [h2]; rfl
        rw [hb] at hix
        go_wp2_with (first | (refine wpList_cat rfl 9 9 _ _ rfl _ _ rfl rfl ?_ ?_; (simp; omega)))
        go_round
        case rel => exact ⟨k, by omega, rfl, _, rfl, by rw [HS.out, h2]; rfl⟩
        case measure => simp [intOf]
      · have b1 : (bt c == 40) = false := by simp; exact fun e => h1 (bt_inj (by rw [e]; rfl))
        have b2 : (bt c == 124) = false := by simp; exact fun e => h2 (bt_inj (by rw [e]; rfl))
        have HC := hide (show clos [c] = [93] by simp [clos, h1, h2])
        generalize bt c = x at *
        go_wp2_with (first | (refine wpList_cat rfl 9 9 _ _ rfl _ _ rfl rfl ?_ ?_; (simp; omega)))
        go_round
        case rel => exact ⟨k, by omega, rfl, _, rfl, by rw [HS.out, HC.out]⟩
        case measure => simp [intOf]
end Go.Proofs.Ytecmfdkhcffpmaa
/- Contract of the weaver of sources: a body. -/
namespace Go.Proofs.Ytecmfdkhcffpmaa
open Go.RowKit
set_option linter.unusedSimpArgs false
set_option linter.unusedVariables false
set_option maxHeartbeats 8000000
open Wd

/-- Raw numbers in memory. -/
def IntsIn (w : World) (v : Value) (zs : List Int) : Prop :=
  ∃ (ao : Option Addr) (cap : Nat), v = .slice ao zs.length cap ∧ zs.length ≤ maxLen ∧ (∀ z ∈ zs, -9223372036854775808 ≤ z ∧ z ≤ 9223372036854775807) ∧
    ∀ i (h : i < zs.length), ∃ b, ao = some b ∧ b.block < w.heap.size ∧ w.cell? (b.add i) = some (.int .i64 zs[i])
theorem add_blk (b : Addr) (i : Nat) : (b.add i).block = b.block := by unfold Addr.add; split <;> rfl
theorem IntsIn.below {w w' : World} {v : Value} {zs : List Int} (h : IntsIn w v zs) {B : Nat} (hb : Below B w w') (hB : w.heap.size ≤ B) : IntsIn w' v zs := by
  obtain ⟨ao, cap, h1, h2, h3, h4⟩ := h
  refine ⟨ao, cap, h1, h2, h3, fun i hi => ?_⟩
  obtain ⟨b, e1, e2, e3⟩ := h4 i hi
  exact ⟨b, e1, Nat.lt_of_lt_of_le e2 hb.size, by rw [hb.cell (by rw [add_blk]; omega)]; exact e3⟩
theorem tokT_len (k : Nat) (o : List UInt8) : (tokT k o).1.length ≤ 2 ∧ (tokT k o).2.1.length ≤ o.length + 1 := by
  have hp : (plainT k).length ≤ 2 := by
    unfold plainT
    repeat' split
    all_goals simp
  have hs : ∀ c q, shut o c = some q → q.length + 1 ≤ o.length := by
    intro c q h
    unfold shut at h
    split at h
    · rename_i hh; cases h; simp; omega
    · cases h
  unfold tokT
  repeat' split
  all_goals (try simp only [List.length_append, List.length_cons, List.length_nil])
  all_goals first | exact ⟨hp, by omega⟩ | (constructor <;> omega) | (rename_i q hq; have := hs _ _ hq; constructor <;> omega)
theorem weave_step (most : Nat) (zs : List Int) (k : Nat) (hk : k < zs.length) (out o : List UInt8) : weaveFrom most (zs.drop k) out o =
    if (tokT (pickP zs[k] 32).toNat o).2.2 = true ∧ out.length + (tokT (pickP zs[k] 32).toNat o).1.length + 2 * (tokT (pickP zs[k] 32).toNat o).2.1.length ≤ most then
      weaveFrom most (zs.drop (k + 1)) (out ++ (tokT (pickP zs[k] 32).toNat o).1) (tokT (pickP zs[k] 32).toNat o).2.1
    else weaveFrom most (zs.drop (k + 1)) out o := by
  rw [List.drop_eq_getElem_cons hk, weaveFrom]
theorem weave_any (v : Value) (zs : List Int) (most : Nat) (w : World) (hv : IntsIn w v zs) (hm : most ≤ 300) :
    Calls Try.prog 68 #[v, .int .i64 most] w fun e w' => e = .returned (.string (Wd.mkS (weaveP zs most))) ∧ Below w.heap.size w w' := by
  obtain ⟨ao, cap, rfl, hlen, hran, hcell⟩ := hv
  have HC := hide hcell
  have HR := hide hran
  clear hcell hran
  have hmax : zs.length ≤ 9223372036854775807 := by unfold maxLen at hlen; omega
  generalize hT : weaveP zs most = T
  have HT := hide hT
  clear hT
  go_enter Try.func68, Try.ntmps68
  go_wp2
  go_loopw [5, 6, 7] (fun a c i wr => ∃ (k : Nat) (out o : List UInt8), k ≤ zs.length ∧ i = .int .i64 k ∧ a = .string (Wd.mkS out) ∧ c = .string (Wd.mkS o) ∧ out.length + 2 * o.length ≤ most ∧ T = weaveFrom most (zs.drop k) out o ∧ Below w.heap.size w wr) (fun _ _ i _ => zs.length - (intOf i).toNat)
  case atStart => exact ⟨0, [], [], by omega, rfl, rfl, rfl, by simp, by rw [← HT.out]; rfl, Below.refl _ _⟩
  case round =>
    obtain ⟨k, out, o, hk, rfl, rfl, rfl, hlo, hTk, hb⟩ := hrel
    have HB := hide hb
    have HTK := hide hTk
    clear hb hTk
    have s1 := Wd.mkS_size out
    have s2 := Wd.mkS_size o
    by_cases hlt : k < zs.length
    · obtain ⟨b, rfl, hbb, hcl⟩ := HC.out k hlt
      have hcl' : wr.cell? (b.add k) = some (.int .i64 zs[k]) := by rw [HB.out.cell (by rw [add_blk]; exact hbb)]; exact hcl
      have hrz := HR.out zs[k] (List.getElem_mem hlt)
      have hst := weave_step most zs k hlt out o
      have hpb := Wd.pickP_bd zs[k] 32 (by decide)
      have A1 := hide (fun W => pick_any zs[k] 32 W hrz.1 hrz.2 (by decide) (by decide))
      generalize zs[k] = z at *
      obtain ⟨j, hj⟩ : ∃ j : Nat, pickP z 32 = j := ⟨(pickP z 32).toNat, by omega⟩
      rw [hj] at hst hpb A1
      clear hj hcl
      have hj32 : j < 32 := by omega
      have htl := tokT_len j o
      have A2 := hide (fun W => token_any j o W hj32 (by omega))
      rw [show ((j : Int)).toNat = j from by omega] at hst
      generalize tokT j o = r at *
      obtain ⟨t, o2, ok⟩ := r
      simp only at hst htl
      have s3 := Wd.mkS_size t
      have s4 := Wd.mkS_size o2
      have HTK2 := hide (HTK.out.trans hst)
      clear hst HTK
      cases ok
      · go_wp2_with (first | (go_at_call 104; refine (A2.out _).mono ?_; rintro e w1 ⟨rfl, hb1⟩; have HB1 := hide (HB.out.trans (hb1.mono HB.out.size)); clear hb1) | (go_at_call 32; refine (A1.out _).mono ?_; rintro e w' ⟨rfl, rfl⟩))
        go_round
        case rel => exact ⟨k + 1, out, o, by omega, by go_num, rfl, rfl, hlo, by rw [HTK2.out, if_neg (by simp)], HB1.out⟩
        case measure => simp [intOf]; omega
      · by_cases hmm : out.length + t.length + 2 * o2.length ≤ most
        · go_wp2_with (first | (refine wpList_cat rfl 9 9 _ _ rfl _ _ rfl rfl ?_ ?_; (omega)) | (go_at_call 104; refine (A2.out _).mono ?_; rintro e w1 ⟨rfl, hb1⟩; have HB1 := hide (HB.out.trans (hb1.mono HB.out.size)); clear hb1) | (go_at_call 32; refine (A1.out _).mono ?_; rintro e w' ⟨rfl, rfl⟩))
          go_round
          case rel => exact ⟨k + 1, out ++ t, o2, by omega, by go_num, rfl, rfl, by rw [List.length_append]; omega, by rw [HTK2.out, if_pos ⟨(by first | rfl | trivial), hmm⟩], HB1.out⟩
          case measure => simp [intOf]; omega
        · go_wp2_with (first | (refine wpList_cat rfl 9 9 _ _ rfl _ _ rfl rfl ?_ ?_; (omega)) | (go_at_call 104; refine (A2.out _).mono ?_; rintro e w1 ⟨rfl, hb1⟩; have HB1 := hide (HB.out.trans (hb1.mono HB.out.size)); clear hb1) | (go_at_call 32; refine (A1.out _).mono ?_; rintro e w' ⟨rfl, rfl⟩))
          go_round
          case rel => exact ⟨k + 1, out, o, by omega, by go_num, rfl, rfl, hlo, by rw [HTK2.out, if_neg (fun h => hmm h.2)], HB1.out⟩
          case measure => simp [intOf]; omega
    · have A3 := hide (fun W => closing_any o W (by omega))
      have hcl := clos_len o.reverse
      rw [List.length_reverse] at hcl
      have HF : Hid (T = out ++ clos o.reverse) := hide (by rw [HTK.out, List.drop_of_length_le (by omega), weaveFrom])
      generalize clos o.reverse = q at *
      clear HTK
      go_wp2_with (first | (refine wpList_cat rfl 9 9 _ _ rfl _ _ rfl rfl ?_ ?_; (omega)) | (go_at_call 105; refine (A3.out _).mono ?_; rintro e w' ⟨rfl, rfl⟩))
      go_ret
      exact ⟨ret_strB (by rw [HF.out]), HB.out⟩
end Go.Proofs.Ytecmfdkhcffpmaa
