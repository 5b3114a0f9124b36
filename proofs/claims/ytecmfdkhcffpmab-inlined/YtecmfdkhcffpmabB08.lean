/- KwD, KwE, KwF, PureM3. -/
import Derived.Test.YtecmfdkhcffpmabB07
import Derived.Test.YtecmfdkhcffpmabB02
/- Contract of the weaver of sources: what closes all that is open. -/
namespace Go.Proofs.Ytecmfdkhcffpmab
open Go.RowKit
set_option linter.unusedSimpArgs false
set_option linter.unusedVariables false
set_option maxHeartbeats 8000000
open Wd

theorem clos_app (a b : List UInt8) : clos (a ++ b) = clos a ++ clos b := by
  induction a with
  | nil => rfl
  | cons c r ih => simp [clos, ih]
theorem clos_step (o : List UInt8) (k : Nat) (hk : k < o.length) : clos ((o.drop k).reverse) = clos ((o.drop (k + 1)).reverse) ++ clos [o[k]] := by
  rw [List.drop_eq_getElem_cons hk, List.reverse_cons, clos_app]
theorem clos_bd (o : List UInt8) (k : Nat) : (clos ((o.drop k).reverse)).length ≤ 2 * o.length := by
  have := clos_len ((o.drop k).reverse)
  simp at this
  omega
theorem closing_any (o : List UInt8) (w : World) (ho : o.length ≤ 1000) :
    Calls Try.prog 37 #[.string (Wd.mkS o)] w fun e w' => e = .returned (.string (Wd.mkS (clos o.reverse))) ∧ w' = w := by
  have hsz := Wd.mkS_size o
  go_enter Try.func37, Try.ntmps37
  go_wp2
  go_loop [3, 4] (fun out i => ∃ k : Nat, k ≤ o.length ∧ i = .int .i64 ((k : Int) - 1) ∧ ∃ r : List UInt8, out = .string (Wd.mkS r) ∧ r = clos ((o.drop k).reverse)) (fun out i => (intOf i + 1).toNat)
  case atStart => exact ⟨o.length, Nat.le_refl _, rfl, [], rfl, by simp [clos]⟩
  case round =>
    obtain ⟨k, hk, rfl, r, rfl, hr⟩ := hrel
    have HR := hide hr
    have hl : r.length ≤ 2 * o.length := by rw [hr]; exact clos_bd o k
    clear hr
    cases k with
    | zero =>
      go_wp2
      go_ret
      exact ⟨ret_strB (by rw [HR.out]; simp), rfl⟩
    | succ k =>
      have hs := clos_step o k (by omega)
      rw [← HR.out] at hs
      have HS := hide hs
      clear hs HR
      have hix : (((((Wd.mkS o)[k]'(by rw [hsz]; omega)).toNat : Nat)) : Int) = bt o[k] := by rw [mkS_at]; simp [at_, bt, show k < o.length from by omega]
      have ek : ((k + 1 : Nat) : Int) - 1 = (k : Int) := by omega
      rw [ek]
      generalize hc : o[k] = c at *
      by_cases h1 : c = 40
      · have hb : bt c = 40 := by rw [h1]; rfl
        rw [hb] at hix
        go_wp2_with (first | (refine wpList_cat rfl 9 9 _ _ rfl _ _ rfl rfl ?_ ?_; (simp; omega)))
        go_round
        case rel => exact ⟨k, by omega, rfl, _, rfl, by rw [HS.out, h1]; rfl⟩
        case measure => simp [intOf]
      by_cases h2 : c = 124
      · have hb : bt c = 124 := by rw [h2]; rfl
        rw [hb] at hix
        go_wp2_with (first | (refine wpList_cat rfl 9 9 _ _ rfl _ _ rfl rfl ?_ ?_; (simp; omega)))
        go_round
        case rel => exact ⟨k, by omega, rfl, _, rfl, by rw [HS.out, h2]; rfl⟩
        case measure => simp [intOf]
      · have b1 : (bt c == 40) = false := by simp; exact fun e => h1 (bt_inj (by rw [e]; rfl))
        have b2 : (bt c == 124) = false := by simp; exact fun e => h2 (bt_inj (by rw [e]; rfl))
        have HC := hide (show clos [c] = [93] by simp [clos, h1, h2])
        generalize bt c = x at *
        go_wp2_with (first | (refine wpList_cat rfl 9 9 _ _ rfl _ _ rfl rfl ?_ ?_; (simp; omega)))
        go_round
        case rel => exact ⟨k, by omega, rfl, _, rfl, by rw [HS.out, HC.out]⟩
        case measure => simp [intOf]
end Go.Proofs.Ytecmfdkhcffpmab
/- Contract of the weaver of sources: a body. -/
namespace Go.Proofs.Ytecmfdkhcffpmab
open Go.RowKit
set_option linter.unusedSimpArgs false
set_option linter.unusedVariables false
set_option maxHeartbeats 8000000
open Wd

/-- Raw numbers in memory. -/
def IntsIn (w : World) (v : Value) (zs : List Int) : Prop :=
  ∃ (ao : Option Addr) (cap : Nat), v = .slice ao zs.length cap ∧ zs.length ≤ maxLen ∧ (∀ z ∈ zs, -9223372036854775808 ≤ z ∧ z ≤ 9223372036854775807) ∧
    ∀ i (h : i < zs.length), ∃ b, ao = some b ∧ b.block < w.heap.size ∧ w.cell? (b.add i) = some (.int .i64 zs[i])
theorem add_blk (b : Addr) (i : Nat) : (b.add i).block = b.block := by unfold Addr.add; split <;> rfl
theorem IntsIn.below {w w' : World} {v : Value} {zs : List Int} (h : IntsIn w v zs) {B : Nat} (hb : Below B w w') (hB : w.heap.size ≤ B) : IntsIn w' v zs := by
  obtain ⟨ao, cap, h1, h2, h3, h4⟩ := h
  refine ⟨ao, cap, h1, h2, h3, fun i hi => ?_⟩
  obtain ⟨b, e1, e2, e3⟩ := h4 i hi
  exact ⟨b, e1, Nat.lt_of_lt_of_le e2 hb.size, by rw [hb.cell (by rw [add_blk]; omega)]; exact e3⟩
theorem tokT_len (k : Nat) (o : List UInt8) : (tokT k o).1.length ≤ 2 ∧ (tokT k o).2.1.length ≤ o.length + 1 := by
  have hp : (plainT k).length ≤ 2 := by
    unfold plainT
    repeat' split
    all_goals simp
  have hs : ∀ c q, shut o c = some q → q.length + 1 ≤ o.length := by
    intro c q h
    unfold shut at h
    split at h
    · rename_i hh; cases h; simp; omega
    · cases h
  unfold tokT
  repeat' split
  all_goals (try simp only [List.length_append, List.length_cons, List.length_nil])
  all_goals first | exact ⟨hp, by omega⟩ | (constructor <;> omega) | (rename_i q hq; have := hs _ _ hq; constructor <;> omega)
theorem weave_step (most : Nat) (zs : List Int) (k : Nat) (hk : k < zs.length) (out o : List UInt8) : weaveFrom most (zs.drop k) out o =
    if (tokT (pickP zs[k] 32).toNat o).2.2 = true ∧ out.length + (tokT (pickP zs[k] 32).toNat o).1.length + 2 * (tokT (pickP zs[k] 32).toNat o).2.1.length ≤ most then
      weaveFrom most (zs.drop (k + 1)) (out ++ (tokT (pickP zs[k] 32).toNat o).1) (tokT (pickP zs[k] 32).toNat o).2.1
    else weaveFrom most (zs.drop (k + 1)) out o := by
  rw [List.drop_eq_getElem_cons hk, weaveFrom]
theorem weave_any (v : Value) (zs : List Int) (most : Nat) (w : World) (hv : IntsIn w v zs) (hm : most ≤ 300) :
    Calls Try.prog 23 #[v, .int .i64 most] w fun e w' => e = .returned (.string (Wd.mkS (weaveP zs most))) ∧ Below w.heap.size w w' := by
  obtain ⟨ao, cap, rfl, hlen, hran, hcell⟩ := hv
  have HC := hide hcell
  have HR := hide hran
  clear hcell hran
  have hmax : zs.length ≤ 9223372036854775807 := by unfold maxLen at hlen; omega
  generalize hT : weaveP zs most = T
  have HT := hide hT
  clear hT
  go_enter Try.func23, Try.ntmps23
  go_wp2
  go_loopw [5, 6, 7] (fun a c i wr => ∃ (k : Nat) (out o : List UInt8), k ≤ zs.length ∧ i = .int .i64 k ∧ a = .string (Wd.mkS out) ∧ c = .string (Wd.mkS o) ∧ out.length + 2 * o.length ≤ most ∧ T = weaveFrom most (zs.drop k) out o ∧ Below w.heap.size w wr) (fun _ _ i _ => zs.length - (intOf i).toNat)
  case atStart => exact ⟨0, [], [], by omega, rfl, rfl, rfl, by simp, by rw [← HT.out]; rfl, Below.refl _ _⟩
  case round =>
    obtain ⟨k, out, o, hk, rfl, rfl, rfl, hlo, hTk, hb⟩ := hrel
    have HB := hide hb
    have HTK := hide hTk
    clear hb hTk
    have s1 := Wd.mkS_size out
    have s2 := Wd.mkS_size o
    by_cases hlt : k < zs.length
    · obtain ⟨b, rfl, hbb, hcl⟩ := HC.out k hlt
      have hcl' : wr.cell? (b.add k) = some (.int .i64 zs[k]) := by rw [HB.out.cell (by rw [add_blk]; exact hbb)]; exact hcl
      have hrz := HR.out zs[k] (List.getElem_mem hlt)
      have hst := weave_step most zs k hlt out o
      have hpb := Wd.pickP_bd zs[k] 32 (by decide)
      have A1 := hide (fun W => pick_any zs[k] 32 W hrz.1 hrz.2 (by decide) (by decide))
      generalize zs[k] = z at *
      obtain ⟨j, hj⟩ : ∃ j : Nat, pickP z 32 = j := ⟨(pickP z 32).toNat, by omega⟩
      rw [hj] at hst hpb A1
      clear hj hcl
      have hj32 : j < 32 := by omega
      have htl := tokT_len j o
      have A2 := hide (fun W => token_any j o W hj32 (by omega))
      rw [show ((j : Int)).toNat = j from by omega] at hst
      generalize tokT j o = r at *
      obtain ⟨t, o2, ok⟩ := r
      simp only at hst htl
      have s3 := Wd.mkS_size t
      have s4 := Wd.mkS_size o2
      have HTK2 := hide (HTK.out.trans hst)
      clear hst HTK
      cases ok
      · go_wp2_with (first | (go_at_call 36; refine (A2.out _).mono ?_; rintro e w1 ⟨rfl, hb1⟩; have HB1 := hide (HB.out.trans (hb1.mono HB.out.size)); clear hb1) | (go_at_call 10; refine (A1.out _).mono ?_; rintro e w' ⟨rfl, rfl⟩))
        go_round
        case rel => exact ⟨k + 1, out, o, by omega, by go_num, rfl, rfl, hlo, by rw [HTK2.out, if_neg (by simp)], HB1.out⟩
        case measure => simp [intOf]; omega
      · by_cases hmm : out.length + t.length + 2 * o2.length ≤ most
        · go_wp2_with (first | (refine wpList_cat rfl 9 9 _ _ rfl _ _ rfl rfl ?_ ?_; (omega)) | (go_at_call 36; refine (A2.out _).mono ?_; rintro e w1 ⟨rfl, hb1⟩; have HB1 := hide (HB.out.trans (hb1.mono HB.out.size)); clear hb1) | (go_at_call 10; refine (A1.out _).mono ?_; rintro e w' ⟨rfl, rfl⟩))
          go_round
          case rel => exact ⟨k + 1, out ++ t, o2, by omega, by go_num, rfl, rfl, by rw [List.length_append]; omega, by rw [HTK2.out, if_pos ⟨(by first | rfl | trivial), hmm⟩], HB1.out⟩
          case measure => simp [intOf]; omega
        · go_wp2_with (first | (refine wpList_cat rfl 9 9 _ _ rfl _ _ rfl rfl ?_ ?_; (omega)) | (go_at_call 36; refine (A2.out _).mono ?_; rintro e w1 ⟨rfl, hb1⟩; have HB1 := hide (HB.out.trans (hb1.mono HB.out.size)); clear hb1) | (go_at_call 10; refine (A1.out _).mono ?_; rintro e w' ⟨rfl, rfl⟩))
          go_round
          case rel => exact ⟨k + 1, out, o, by omega, by go_num, rfl, rfl, hlo, by rw [HTK2.out, if_neg (fun h => hmm h.2)], HB1.out⟩
          case measure => simp [intOf]; omega
    · have A3 := hide (fun W => closing_any o W (by omega))
      have hcl := clos_len o.reverse
      rw [List.length_reverse] at hcl
      have HF : Hid (T = out ++ clos o.reverse) := hide (by rw [HTK.out, List.drop_of_length_le (by omega), weaveFrom])
      generalize clos o.reverse = q at *
      clear HTK
      go_wp2_with (first | (refine wpList_cat rfl 9 9 _ _ rfl _ _ rfl rfl ?_ ?_; (omega)) | (go_at_call 37; refine (A3.out _).mono ?_; rintro e w' ⟨rfl, rfl⟩))
      go_ret
      exact ⟨ret_strB (by rw [HF.out]), HB.out⟩
end Go.Proofs.Ytecmfdkhcffpmab
/- Contract of the weaver of sources: a program. -/
namespace Go.Proofs.Ytecmfdkhcffpmab
open Go.RowKit
set_option linter.unusedSimpArgs false
set_option linter.unusedVariables false
set_option maxHeartbeats 8000000
open Wd

/-- The parts of a program in memory. -/
def PartsIn (w : World) (v : Value) (ps : List Pt) : Prop :=
  ∃ (ao : Option Addr) (cap : Nat), v = .slice ao ps.length cap ∧ ps.length ≤ maxLen ∧
    ∀ i (h : i < ps.length), ∃ b, ao = some b ∧ b.block < w.heap.size ∧ w.cell? (b.add (i * 2)) = some (.bool ps[i].handler) ∧ ∃ u, w.cell? (b.add (i * 2 + 1)) = some u ∧ IntsIn w u ps[i].steps
theorem add_fld (b : Addr) (k : Nat) : b.add (k * 2 + 1) = { block := (b.add (k * 2)).block, off := (b.add (k * 2)).off + 1 } := by
  unfold Addr.add
  rw [if_neg (by omega)]
  split
  · rename_i h; rw [h]
  · rfl
theorem PartsIn.below {w w' : World} {v : Value} {ps : List Pt} (h : PartsIn w v ps) {B : Nat} (hb : Below B w w') (hB : w.heap.size ≤ B) : PartsIn w' v ps := by
  obtain ⟨ao, cap, h1, h2, h4⟩ := h
  refine ⟨ao, cap, h1, h2, fun i hi => ?_⟩
  obtain ⟨b, e1, e2, e3, u, e4, e5⟩ := h4 i hi
  exact ⟨b, e1, Nat.lt_of_lt_of_le e2 hb.size, by rw [hb.cell (by rw [add_blk]; omega)]; exact e3, u, by rw [hb.cell (by rw [add_blk]; omega)]; exact e4, e5.below hb hB⟩
theorem mkS_toList (l : List UInt8) : (Wd.mkS l).toList = l := by unfold Wd.mkS; exact ByteArray.toList_mk l
theorem prog_step (most : Nat) (ps : List Pt) (n k : Nat) (hk : k < ps.length) (hn : k < n) (rs : List (UInt8 × List UInt8)) : progFrom most ((ps.take n).drop k) rs =
    if (flat rs).length + 3 ≤ most then progFrom most ((ps.take n).drop (k + 1)) (rs ++ [(letterOf ps[k].handler, weaveP ps[k].steps (most - (flat rs).length - 3))]) else progFrom most ((ps.take n).drop (k + 1)) rs := by
  have hl : k < (ps.take n).length := by simp; omega
  rw [List.drop_eq_getElem_cons hl, progFrom]
  simp only [List.getElem_take]
theorem flat_snocR (rs : List (UInt8 × List UInt8)) (c : UInt8) (b : List UInt8) : flat (rs ++ [(c, b)]) = flat rs ++ (c :: 123 :: (b ++ [125])) := by
  rw [flat_app]; rfl
theorem program_any (v : Value) (ps : List Pt) (n most : Nat) (w : World) (hv : PartsIn w v ps) (hn : n ≤ 8) (hm : most ≤ 300) (hm0 : 3 ≤ most) :
    Calls Try.prog 9 #[v, .int .i64 n, .int .i64 most] w fun e w' => e = .returned (.string (Wd.mkS (flat (progR ps n most)))) ∧ Below w.heap.size w w' := by
  obtain ⟨ao, cap, rfl, hlen, hcell⟩ := hv
  have HC := hide hcell
  clear hcell
  have hmax : ps.length ≤ 9223372036854775807 := by unfold maxLen at hlen; omega
  generalize hT : progFrom most (ps.take n) [] = T
  have HT := hide hT
  have HQ : Hid (progR ps n most = orOne T) := hide (by unfold progR; rw [hT])
  clear hT
  go_enter Try.func9, Try.ntmps9
  go_wp2
  go_loopw [7, 8] (fun a i wr => ∃ (k : Nat) (rs : List (UInt8 × List UInt8)), k ≤ ps.length ∧ k ≤ n ∧ i = .int .i64 k ∧ a = .string (Wd.mkS (flat rs)) ∧ (flat rs).length ≤ most ∧ T = progFrom most ((ps.take n).drop k) rs ∧ Below w.heap.size w wr) (fun _ i _ => ps.length - (intOf i).toNat)
  case atStart => exact ⟨0, [], by omega, by omega, rfl, rfl, by simp [flat], by rw [← HT.out]; rfl, Below.refl _ _⟩
  case round =>
    obtain ⟨k, rs, hk, hkn, rfl, rfl, hlo, hTk, hb⟩ := hrel
    have HB := hide hb
    have HTK := hide hTk
    clear hb hTk
    have s1 := Wd.mkS_size (flat rs)
    by_cases hlt : k < ps.length ∧ k < n
    · obtain ⟨b, rfl, hbb, hc0, u, hc1, hin⟩ := HC.out k hlt.1
      have hc0' : wr.cell? (b.add (k * 2)) = some (.bool ps[k].handler) := by rw [HB.out.cell (by rw [add_blk]; exact hbb)]; exact hc0
      have hc1' : wr.cell? (b.add (k * 2 + 1)) = some u := by rw [HB.out.cell (by rw [add_blk]; exact hbb)]; exact hc1
      rw [add_fld] at hc1'
      have hst := prog_step most ps n k hlt.1 hlt.2 rs
      have HIN := hide (hin.below HB.out (Nat.le_refl _))
      clear hin hc0 hc1
      generalize ps[k] = p at *
      obtain ⟨hd, st⟩ := p
      simp only at hst hc0' HIN
      have HTK2 := hide (HTK.out.trans hst)
      clear hst HTK
      obtain ⟨hl1, hl2⟩ := hlt
      by_cases hle : (flat rs).length + 3 ≤ most
      · have hwl := (weaveP_ok st (most - (flat rs).length - 3)).2
        have A1 := hide (weave_any u st (most - (flat rs).length - 3) wr HIN.out (by omega))
        have HS := hide (flat_snocR rs (letterOf hd) (weaveP st (most - (flat rs).length - 3)))
        have ec : ((most : Int) - ((flat rs).length : Nat) - 3) = ((most - (flat rs).length - 3 : Nat) : Int) := by omega
        generalize weaveP st (most - (flat rs).length - 3) = bb at *
        have A2 := hide (fun W => item_any hd bb W (by omega))
        have lbb : (letterOf hd :: 123 :: (bb ++ [125])).length = bb.length + 3 := by simp
        generalize letterOf hd :: 123 :: (bb ++ [125]) = q at *
        generalize hF : flat rs = F at *
        go_wp2_with (first | (refine wpList_cat rfl 9 9 _ _ rfl _ _ rfl rfl ?_ ?_; (omega)) | (go_at_call 26; refine (A2.out _).mono ?_; rintro e w' ⟨rfl, hww⟩; obtain rfl := hww.symm; clear hww) | (go_at_call 23; refine (A1.out).mono ?_; rintro e w1 ⟨rfl, hb1⟩; have HB1 := hide (HB.out.trans (hb1.mono HB.out.size)); have hc0'' : w1.cell? (b.add (k * 2)) = some (.bool hd) := (by rw [hb1.cell (by rw [add_blk]; exact Nat.lt_of_lt_of_le hbb HB.out.size)]; exact hc0'); clear hb1))
        go_round
        case rel => exact ⟨k + 1, rs ++ [(letterOf hd, bb)], by omega, by omega, by go_num, by rw [HS.out], by rw [HS.out, List.length_append]; omega, by rw [HTK2.out, if_pos hle], HB1.out⟩
        case measure => simp [intOf]; omega
      · go_wp2
        go_round
        case rel => exact ⟨k + 1, rs, by omega, by omega, by go_num, rfl, hlo, by rw [HTK2.out, if_neg hle], HB.out⟩
        case measure => simp [intOf]; omega
    · have HF : Hid (T = rs) := hide (by rw [HTK.out, List.drop_of_length_le (by simp; omega), progFrom])
      clear HTK
      by_cases h0 : flat rs = []
      · have HG : Hid (flat (progR ps n most) = [116, 123, 125]) := hide (by rw [HQ.out, HF.out, orOne, if_pos h0]; rfl)
        have hem : (Wd.mkS (flat rs)).toList.isEmpty = true := by rw [mkS_toList, h0]; rfl
        clear h0
        generalize flat rs = F at *
        by_cases h1 : k < ps.length
        · have h2 : ¬ k < n := fun h => hlt ⟨h1, h⟩
          clear hlt
          go_wp2
          go_ret
          exact ⟨ret_strB (by rw [HG.out]), HB.out⟩
        · clear hlt
          go_wp2
          go_ret
          exact ⟨ret_strB (by rw [HG.out]), HB.out⟩
      · have HG : Hid (flat (progR ps n most) = flat rs) := hide (by rw [HQ.out, HF.out, orOne, if_neg h0])
        have hem : (Wd.mkS (flat rs)).toList.isEmpty = false := by rw [mkS_toList]; cases hq : flat rs with | nil => exact absurd hq h0 | cons a r => rfl
        clear h0
        generalize flat rs = F at *
        by_cases h1 : k < ps.length
        · have h2 : ¬ k < n := fun h => hlt ⟨h1, h⟩
          clear hlt
          go_wp2
          go_ret
          exact ⟨ret_strB (by rw [HG.out]), HB.out⟩
        · clear hlt
          go_wp2
          go_ret
          exact ⟨ret_strB (by rw [HG.out]), HB.out⟩
end Go.Proofs.Ytecmfdkhcffpmab
/- The document's machine, plain: what holds of it goes on holding. -/
namespace Go.Proofs.Ytecmfdkhcffpmab
open Go.RowKit
set_option linter.unusedSimpArgs false
set_option linter.unusedVariables false
namespace Mc
open Wd

theorem Inv.setCp {its : List It} {n : Nat} {S : Ma} (h : Inv its n S) (c : Nat) (x : Cp) (ht : FrOK its false x.t) (hh : FrOK its true x.h) (ho : x.off = true → x.t.there = true) : Inv its n (setCp S c x) := by
  refine ⟨fun d hd => ?_, fun d hd => ?_, fun d hd => ?_, h.pl⟩ <;> unfold Mc.setCp <;> by_cases e : d = c <;> simp only [e, if_true, if_false]
  · exact ht
  · exact h.t d hd
  · exact hh
  · exact h.h d hd
  · exact ho
  · exact h.off d hd
theorem frOK_no (its : List It) (hd : Bool) : FrOK its hd noFr := ⟨by simp [noFr], by simp [noFr], by simp [noFr], by simp [noFr], fun _ => rfl⟩
theorem Inv.setRd {its : List It} {n : Nat} {S : Ma} (h : Inv its n S) (i : Nat) (b : Bool) : Inv its n (setRd S i b) := ⟨h.t, h.h, h.off, h.pl⟩
theorem Inv.setPl {its : List It} {n : Nat} {S : Ma} (h : Inv its n S) (i p : Nat) (hp : p ≤ (bodyOf its i).length + 1) : Inv its n (setPl S i p) := by
  refine ⟨h.t, h.h, h.off, fun j hj => ?_⟩
  unfold Mc.setPl
  by_cases e : j = i
  · subst e; simp only [if_true]; exact hp
  · simp only [e, if_false]; exact h.pl j hj
theorem Inv.begin_ (its : List It) (n : Nat) : Inv its n (begin_ its) :=
  ⟨fun _ _ => frOK_no its false, fun _ _ => frOK_no its true, fun _ _ h => by simp [Mc.begin_, noCp] at h, fun _ _ => by simp [Mc.begin_]⟩
theorem atB_lt {b : List UInt8} {p : Nat} (h : atB b p ≠ 101) : p < b.length := by
  by_cases e : p < b.length
  · exact e
  · simp [atB, e] at h
theorem behind_le (b : List UInt8) (p : Nat) (second : Bool) (h : p < b.length) : behind b p second ≤ b.length + 1 := by
  unfold behind
  have h1 := ahead_bd b p 124 h
  have h2 := ahead_bd b p 41 h
  have h3 := ahead_bd b p 93 h
  have h4 : back b p ≤ p := backN_le b p 0
  repeat' split
  all_goals omega
theorem bits_add : ∀ h, h < 64 → ∀ l, l < 6 → Nat.testBit h l = false → h + 2 ^ l < 64 := by decide
theorem holderFrom_none (S : Ma) (l : Nat) : ∀ m k, holderFrom S l k m = none → ∀ d, k ≤ d → d < k + m → cpHolds (S.cp d) l = false
  | 0, k, _, d, h1, h2 => by omega
  | m + 1, k, h, d, h1, h2 => by
    unfold holderFrom at h
    split at h
    · cases h
    · by_cases e : d = k
      · subst e; rename_i hh; simpa using hh
      · exact holderFrom_none S l m (k + 1) h d (by omega) (by omega)
theorem holder_none {S : Ma} {n l : Nat} (h : holder S n l = none) (d : Nat) (hd : d < n) : cpHolds (S.cp d) l = false := holderFrom_none S l n 0 h d (by omega) (by omega)
theorem works_nohold {S : Ma} {n l c : Nat} (h : holder S n l = none) (hc : c < n) : holds (works S c).held l = false := by
  have := holder_none h c hc
  unfold cpHolds at this
  rw [Bool.or_eq_false_iff] at this
  unfold works
  split
  · exact this.2
  · exact this.1
theorem works_fr {its : List It} {n : Nat} {S : Ma} (h : Inv its n S) (c : Nat) (hc : c < n) : FrOK its (S.cp c).h.there (works S c) := by
  unfold works
  cases e : (S.cp c).h.there
  · simp; exact h.t c hc
  · simp; exact h.h c hc
theorem Inv.put {its : List It} {n : Nat} {S : Ma} (h : Inv its n S) (c : Nat) (hc : c < n) (f : Fr) (hf : FrOK its (S.cp c).h.there f) (ho : (S.cp c).h.there = false → (S.cp c).off = true → f.there = true) : Inv its n (put S c f) := by
  unfold Mc.put
  refine h.setCp c _ ?_ ?_ ?_ <;> unfold putCp <;> cases e : (S.cp c).h.there <;> simp only [if_true, if_false, Bool.false_eq_true]
  · rw [e] at hf; exact hf
  · exact h.t c hc
  · exact h.h c hc
  · rw [e] at hf; exact hf
  · exact ho e
  · exact h.off c hc
theorem Inv.leaves {its : List It} {n : Nat} {S : Ma} (h : Inv its n S) (c : Nat) (hc : c < n) (p : Nat) (hp : p ≤ (bodyOf its (S.cp c).t.item).length + 1) (ho : (S.cp c).off = false) : Inv its n (leaves S c p) := by
  unfold Mc.leaves
  exact ((h.setRd _ _).setPl _ p hp).setCp c _ (frOK_no its false) (h.h c hc) (fun e => by rw [ho] at e; cases e)

theorem takes_fr {its : List It} {n : Nat} {S : Ma} (hi : Inv its n S) (ho : ItsOK its) (c : Nat) (hc : c < n) (hth : (works S c).there = true) (h43 : atB (bodyOf its (works S c).item) (works S c).pos = 43) (hl : (num (bodyOf its (works S c).item) (works S c).pos).toNat < 6) :
    FrOK its (S.cp c).h.there (takes its S n c (works S c) (num (bodyOf its (works S c).item) (works S c).pos).toNat).2 ∧ (takes its S n c (works S c) (num (bodyOf its (works S c).item) (works S c).pos).toNat).2.there = true := by
  have hf := works_fr hi c hc
  unfold takes
  cases e : holder S n (num (bodyOf its (works S c).item) (works S c).pos).toNat with
  | none =>
    simp only
    have hp : (works S c).pos < (bodyOf its (works S c).item).length := atB_lt (by rw [h43]; decide)
    refine ⟨⟨hf.item, hf.kind, fun _ => by simp only; omega, ?_, fun h => by simp only at h; rw [hth] at h; cases h⟩, hth⟩
    exact bits_add _ hf.held _ hl (works_nohold e hc)
  | some d =>
    simp only
    split
    · exact ⟨hf, hth⟩
    · split
      · exact ⟨hf, hth⟩
      · exact ⟨hf, hth⟩
theorem alone_fr {its : List It} {f : Fr} {hd off second : Bool} (hf : FrOK its hd f) (hth : f.there = true) (hp : f.pos < (bodyOf its f.item).length) :
    FrOK its hd (alone (bodyOf its f.item) f hd off second).2.1 ∧ (alone (bodyOf its f.item) f hd off second).2.1.there = true ∧ ((alone (bodyOf its f.item) f hd off second).2.2 = true → off = true ∨ hd = false) := by
  have hb := behind_le (bodyOf its f.item) f.pos second hp
  unfold alone
  split
  · split
    · refine ⟨⟨hf.item, hf.kind, fun _ => hb, ?_, fun h => by simp only at h; rw [hth] at h; cases h⟩, hth, fun h => Or.inl h⟩
      exact Nat.lt_of_le_of_lt (Nat.sub_le _ _) hf.held
    · exact ⟨hf, hth, fun h => Or.inl h⟩
  · split
    · split
      · exact ⟨hf, hth, fun h => Or.inl h⟩
      · rename_i hn
        refine ⟨⟨hf.item, hf.kind, fun _ => hb, hf.held, fun h => by simp only at h; rw [hth] at h; cases h⟩, hth, fun _ => Or.inr (by simpa using hn)⟩
    · exact ⟨⟨hf.item, hf.kind, fun _ => hb, hf.held, fun h => by simp only at h; rw [hth] at h; cases h⟩, hth, fun h => Or.inl h⟩
theorem put_cp (S : Ma) (c : Nat) (f : Fr) : (put S c f).cp c = putCp (S.cp c) f := by simp [Mc.put, Mc.setCp]
theorem num_lock' {its : List It} (ho : ItsOK its) {i p : Nat} (hi : i < its.length) (h : atB (bodyOf its i) p = 43 ∨ atB (bodyOf its i) p = 45) : (num (bodyOf its i) p).toNat < 6 := by
  have hp : p < (bodyOf its i).length := atB_lt (by rcases h with h | h <;> rw [h] <;> decide)
  simp only [atB, hp, if_true] at h
  obtain ⟨h1, h2, h3⟩ := (ho.pair i hi p hp).1 h
  rw [num, if_pos h1, if_pos h2]; omega
theorem Inv.lone {its : List It} {n : Nat} {S : Ma} (h : Inv its n S) (c : Nat) (hc : c < n) (second : Bool) (hth : (works S c).there = true) (hp : (works S c).pos < (bodyOf its (works S c).item).length) : Inv its n (lone its S c second).2 := by
  obtain ⟨h1, h2, h3⟩ := alone_fr (off := (S.cp c).off) (second := second) (works_fr h c hc) hth hp
  unfold Mc.lone setOff
  simp only
  have hput := h.put c hc _ h1 (fun _ _ => h2)
  refine hput.setCp c _ (hput.t c hc) (hput.h c hc) ?_
  simp only
  intro ho
  rw [put_cp]
  unfold putCp
  cases e : (S.cp c).h.there
  · simp only [if_false, Bool.false_eq_true]; rw [← e]; exact h2
  · simp only [if_true]
    rcases h3 ho with h3 | h3
    · exact h.off c hc h3
    · rw [e] at h3; cases h3
theorem Inv.step {its : List It} {n : Nat} {S : Ma} (h : Inv its n S) (ho : ItsOK its) (c : Nat) (hc : c < n) (second : Bool) : Inv its n (step its S n c second).2 := by
  have hf := works_fr h c hc
  unfold Mc.step
  simp only
  split
  · exact h
  rename_i hth
  have hth : (works S c).there = true := by simpa using hth
  split
  · split
    · exact h
    · rename_i hb
      refine h.put c hc _ (frOK_no its _) fun e1 e2 => ?_
      simp [e1, e2] at hb
  rename_i h101
  have hp := atB_lt h101
  split
  · rename_i h43
    obtain ⟨a1, a2⟩ := takes_fr h ho c hc hth h43 (num_lock' ho (hf.item hth) (Or.inl h43))
    exact h.put c hc _ a1 (fun _ _ => a2)
  split
  · split
    · exact h
    · rename_i h122 hb
      simp only [not_or] at hb
      obtain ⟨b1, b2, b3⟩ := hb
      have e : works S c = (S.cp c).t := by unfold works; rw [if_neg b1]
      refine h.leaves c hc _ ?_ ?_
      · rw [e] at hp ⊢; omega
      · cases e1 : (S.cp c).off
        · rfl
        · simp [e1, b1] at b3
  split
  · exact h
  exact h.lone c hc second hth hp
theorem Inv.comes {its : List It} {n : Nat} {S : Ma} (h : Inv its n S) (c : Nat) (hc : c < n) (i : Nat) : Inv its n (comes its S c i).2 := by
  unfold Mc.comes
  split
  · exact h
  rename_i h1
  simp only [not_or] at h1
  obtain ⟨hl, hh⟩ := h1
  have hl : i < its.length := by omega
  split
  · rename_i hk
    split
    · exact h
    · refine h.setCp c _ (h.t c hc) ⟨fun _ => hl, fun _ => hk, fun _ => by simp, by simp, fun e => by simp at e⟩ (h.off c hc)
  · rename_i hk
    split
    · exact h
    · refine (h.setRd i false).setCp c _ ⟨fun _ => hl, fun _ => by simpa using hk, fun _ => h.pl i hl, by simp, fun e => by simp at e⟩ (h.h c hc) (fun _ => rfl)
theorem Inv.command {its : List It} {n : Nat} {S : Ma} (h : Inv its n S) (ho : ItsOK its) (c : Nat) (hc : c < n) (what : Int) : Inv its n (command its S n c what).2 := by
  unfold Mc.command
  split
  · exact h.step ho c hc _
  split
  · exact h.comes c hc _
  split
  · exact h
  · rename_i hb
    simp only [not_or] at hb
    obtain ⟨b1, b2, b3, b4⟩ := hb
    have ht : (S.cp c).t.there = true := by simpa using b1
    exact h.leaves c hc _ ((h.t c hc).pos ht) (by simpa using b4)
end Mc
end Go.Proofs.Ytecmfdkhcffpmab
