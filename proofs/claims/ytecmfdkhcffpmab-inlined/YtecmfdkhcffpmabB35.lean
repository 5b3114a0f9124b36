/- SrcL, ProgT, StA. -/
import Derived.Test.YtecmfdkhcffpmabB20
import Derived.Deep.QuietTactic
import Derived.BigQuiet
import Derived.Test.YtecmfdkhcffpmabB19
import Derived.Test.YtecmfdkhcffpmabB34
import Derived.Test.YtecmfdkhcffpmabB13
import Derived.Test.YtecmfdkhcffpmabB26
import Derived.Test.YtecmfdkhcffpmabB07
/- Contracts of the program's 'Unfold' and of the law's 'sameItems' at equal lists. -/
namespace Go.Proofs.Ytecmfdkhcffpmab
open Go.RowKit
set_option linter.unusedSimpArgs false
set_option linter.unusedVariables false
set_option maxHeartbeats 800000

/-- What 'Unfold' leaves: the items in memory of their own; or the error. -/
def UPost (w : World) (r : Except (Int × Int) (List Wd.It)) (e : Ending) (w' : World) : Prop :=
  Below w.heap.size w w' ∧ (match r with
    | .ok its => ∃ g cap, e = .returned (.tuple #[.slice (some ⟨g, 0, none⟩) its.length cap, .int .i64 0]) ∧ w'.ownsRow w.heap.size 69 2 (.slice (some ⟨g, 0, none⟩) its.length cap) its.length (Wd.itsV its)
    | .error x => e = .returned (.tuple #[.slice none 0 0, .int .i64 x.1]))

theorem sourceUnfold_any (s : ByteArray) (w : World) (hs : s.size ≤ maxLen) :
    Calls Try.prog 39 #[.string s] w (UPost w (Wd.readP s.data.toList)) := by
  have HX := read_any s w hs
  cases hq : Wd.readP s.data.toList with
  | error x =>
    rw [hq] at HX
    have HXX := hide HX
    clear HX hq
    go_enter Try.func39, Try.ntmps39
    go_wp2_with (go_at_call 48; refine HXX.out.mono ?_; rintro e w' ⟨hb, rfl⟩)
    go_ret2
    exact ⟨hb, rfl⟩
  | ok its =>
    rw [hq] at HX
    have HXX := hide HX
    clear HX hq
    go_enter Try.func39, Try.ntmps39
    go_wp2_with (go_at_call 48; refine HXX.out.mono ?_; rintro e w' ⟨hb, g, cp, rfl, hown⟩)
    go_ret2
    exact ⟨hb, g, cp, rfl, hown⟩

end Go.Proofs.Ytecmfdkhcffpmab
/- Contracts of the program's Run. -/
namespace Go.Proofs.Ytecmfdkhcffpmab
open Go.RowKit
set_option linter.unusedSimpArgs false
set_option linter.unusedVariables false
set_option maxHeartbeats 8000000
open Mc

theorem scriptB_odd (n : Int) : ∀ l : List UInt8, l.length % 2 = 1 → scriptB n l = false
  | [], h => by simp at h
  | [_], _ => rfl
  | a :: o :: r, h => by rw [scriptB, scriptB_odd n r (by simp at h; omega)]; simp
set_option maxRecDepth 100000 in
theorem isScript_any (t : ByteArray) (n : Int) (w : World) (ht : t.size ≤ 200000) (hn0 : 0 ≤ n) (hn : n ≤ 3) :
    Calls Try.prog 49 #[.string t, .int .i64 n] w fun e w' => e = .returned (.bool (scriptB n t.data.toList)) ∧ w' = w := by
  by_cases hodd : t.size % 2 = 1
  · have e : scriptB n t.data.toList = false := scriptB_odd n _ (by rw [Wd.len_str]; exact hodd)
    rw [e]
    have h2 : ((t.size : Int) % 2 != 0) = true := by simp; omega
    clear e
    go_enter Try.func49, Try.ntmps49
    go_wp2
    go_ret
    exact ⟨rfl, rfl⟩
  · have h2 : ((t.size : Int) % 2 != 0) = false := by simp; omega
    go_enter Try.func49, Try.ntmps49
    go_wp2
    go_loop [5] (fun a => ∃ k : Nat, k ≤ t.size ∧ k % 2 = 0 ∧ a = .int .i64 k ∧ scriptB n t.data.toList = scriptB n (t.data.toList.drop k)) (fun a => t.size - (intOf a).toNat)
    case atStart => exact ⟨0, by omega, by omega, rfl, rfl⟩
    case round =>
      obtain ⟨k, hk, hev, rfl, hp⟩ := hrel
      have HP := hide hp
      clear hp
      by_cases hlt : k + 1 < t.size
      · have hb0 : ((t[k].toNat : Nat) : Int) ≤ 255 := by have := t[k].toNat_lt; omega
        have hb1 : ((t[k + 1].toNat : Nat) : Int) ≤ 255 := by have := t[k + 1].toNat_lt; omega
        have AI := hide (fun W => isOrder_any ((t[k + 1].toNat : Nat) : Int) W (by omega) hb1)
        have HS := hide (scriptB_two n t k hlt)
        have hw0 : IntKind.i64.wrap ((t[k].toNat : Nat) : Int) = ((t[k].toNat : Nat) : Int) := by rw [IntKind.wrap_i64]; omega
        have hw64 : IntKind.i64.wrap (((t[k].toNat : Nat) : Int) - 48) = ((t[k].toNat : Nat) : Int) - 48 := by rw [IntKind.wrap_i64]; omega
        have hwk : IntKind.i64.wrap ((k : Int) + 1) = (k : Int) + 1 := by rw [IntKind.wrap_i64]; omega
        generalize isOrd ((t[k + 1].toNat : Nat) : Int) = io at *
        have hk1 : (0 : Int) ≤ (k : Int) + 1 := by omega
        have hk2 : (k : Int) + 1 < (t.size : Int) := by omega
        have hk3 : (k : Int) < (t.size : Int) := by omega
        by_cases g1 : ((t[k].toNat : Nat) : Int) - 48 < 0
        · have HE : Hid (scriptB n (t.data.toList.drop k) = false) := by apply hide; rw [HS.out]; simp; omega
          go_wp2
          all_goals first | (exfalso; omega) | (go_ret; exact ⟨ret_bool (by rw [HP.out, HE.out]), rfl⟩)
        by_cases g2 : n ≤ ((t[k].toNat : Nat) : Int) - 48
        · have HE : Hid (scriptB n (t.data.toList.drop k) = false) := by apply hide; rw [HS.out]; simp; omega
          go_wp2
          all_goals first | (exfalso; omega) | (go_ret; exact ⟨ret_bool (by rw [HP.out, HE.out]), rfl⟩)
        cases io
        · have HE : Hid (scriptB n (t.data.toList.drop k) = false) := by apply hide; rw [HS.out]; simp
          go_wp2_with (first | (go_at_call 65; refine (AI.out _).mono ?_; rintro e w' ⟨rfl, rfl⟩))
          all_goals first | (exfalso; omega) | (go_ret; exact ⟨ret_bool (by rw [HP.out, HE.out]), rfl⟩)
        · have HE : Hid (scriptB n (t.data.toList.drop k) = scriptB n (t.data.toList.drop (k + 2))) := by apply hide; rw [HS.out]; simp; intro; omega
          go_wp2_with (first | (go_at_call 65; refine (AI.out _).mono ?_; rintro e w' ⟨rfl, rfl⟩))
          all_goals first
            | (exfalso; omega)
            | (refine ⟨⟨k + 2, by omega, by omega, by go_num, by rw [HP.out, HE.out]⟩, by simp [intOf]; omega⟩)
      · have HE : Hid (scriptB n (t.data.toList.drop k) = true) := hide (scriptB_end n t k (by omega))
        go_wp2
        all_goals first | (exfalso; omega) | (go_ret; exact ⟨ret_bool (by rw [HP.out, HE.out]), rfl⟩)
theorem traceB_three {its : List Wd.It} {n : Nat} (hn : n ≤ 3) : ∀ (l : List UInt8) (S : Ma), Mc.Rest n S → scriptB n l = true → traceB its n S l = traceB its 3 S l
  | [], _, _, _ => rfl
  | [_], _, _, _ => rfl
  | a :: o :: r, S, hr, hs => by
    rw [scriptB] at hs
    simp only [Bool.and_eq_true, decide_eq_true_eq] at hs
    obtain ⟨⟨⟨h1, h2⟩, h3⟩, h4⟩ := hs
    have hc : (Wd.bt a - 48).toNat < n := by omega
    rw [traceB, traceB, command_three hr hn _ hc, traceB_three hn r _ (hr.command 3 _ hc _) h4]
theorem pm_begin (ao : Option Addr) (ci : Nat) (its : List Wd.It) (lg : Nat → Nat) : ∀ i, i < 79 → (mA (.slice ao its.length ci))[i]? = some (pmF ao ci its lg (begin_ its) i) := by
  intro i hi
  unfold pmF
  by_cases h0 : i = 0
  · subst h0; rfl
  · rw [if_neg h0]
    have hc : ((begin_ its).cp ((i - 1) / 26)) = noCp := rfl
    unfold pcF
    rw [hc]
    obtain ⟨j, hj⟩ : ∃ j, i = j + 1 := ⟨i - 1, by omega⟩
    subst hj
    rw [Nat.add_sub_cancel]
    have e : ∀ m, m < 26 → (if m < 13 then fpC its lg noCp.t noCp.off m else fpC its lg noCp.h noCp.h.there (m - 13)) = fpC its lg noFr false (m % 13) := by
      intro m hm
      by_cases h : m < 13
      · rw [if_pos h, Nat.mod_eq_of_lt h]; rfl
      · rw [if_neg h, show m % 13 = m - 13 by omega]; rfl
    rw [e _ (Nat.mod_lt _ (by omega)), show j % 26 % 13 = j % 13 by omega]
    have hz : ∀ j, j < 78 → (mA (.slice ao its.length ci))[j + 1]? = some (([.bool false, .int .i64 0, .bool false, .string ⟨#[]⟩, .slice none 0 0, .int .i64 0, .bool false, .bool false, .bool false, .bool false, .bool false, .bool false, .bool false] : List Value)[j % 13]?.getD undef) := by
      intro j hj
      have : ∀ j, j < 78 → ([.bool false, .int .i64 0, .bool false, .string ⟨#[]⟩, .slice none 0 0, .int .i64 0, .bool false, .bool false, .bool false, .bool false, .bool false, .bool false, .bool false, .bool false, .int .i64 0, .bool false, .string ⟨#[]⟩, .slice none 0 0, .int .i64 0, .bool false, .bool false, .bool false, .bool false, .bool false, .bool false, .bool false, .bool false, .int .i64 0, .bool false, .string ⟨#[]⟩, .slice none 0 0, .int .i64 0, .bool false, .bool false, .bool false, .bool false, .bool false, .bool false, .bool false, .bool false, .int .i64 0, .bool false, .string ⟨#[]⟩, .slice none 0 0, .int .i64 0, .bool false, .bool false, .bool false, .bool false, .bool false, .bool false, .bool false, .bool false, .int .i64 0, .bool false, .string ⟨#[]⟩, .slice none 0 0, .int .i64 0, .bool false, .bool false, .bool false, .bool false, .bool false, .bool false, .bool false, .bool false, .int .i64 0, .bool false, .string ⟨#[]⟩, .slice none 0 0, .int .i64 0, .bool false, .bool false, .bool false, .bool false, .bool false, .bool false, .bool false] : List Value)[j]? = some (([.bool false, .int .i64 0, .bool false, .string ⟨#[]⟩, .slice none 0 0, .int .i64 0, .bool false, .bool false, .bool false, .bool false, .bool false, .bool false, .bool false] : List Value)[j % 13]?.getD undef) := by
        intro j hj
        repeat (first | (exfalso; omega) | (rcases j with _ | j; rfl))
      have h1 := this j hj
      rw [← Array.getElem?_toList]
      exact h1
    rw [hz j (by omega), fpC, zf_no]
theorem pm_of {w : World} {its : List Wd.It} {N : Nat} {ao : Option Addr} {cc : Nat} {lg : Nat → Nat} (hl : its.length ≤ 8) (h : BM w N its its.length (.slice ao its.length cc) lg) : PM (w.alloc (.cells (mA (.slice ao its.length cc)) 107)) w.heap.size ao cc lg its (begin_ its) ∧ (∀ g, ao = some ⟨g, 0, none⟩ → N ≤ g ∧ g < w.heap.size) := by
  have hlt : ∀ g, ao = some ⟨g, 0, none⟩ → N ≤ g ∧ g < w.heap.size := fun g e => h.own.lt g (by rw [e]; rfl)
  refine ⟨⟨?_, fun hp => ?_, fun i hi => ?_, ?_, ?_⟩, hlt⟩
  · exact (Row.new w (mA (.slice ao its.length cc)) 107).blk (pm_begin ao cc its lg)
  · rcases h.own.2 with ⟨e, h0⟩ | ⟨g, cap, cur, e, hb, hg, h1, h2, h3, h4⟩
    · omega
    · cases e
      refine ⟨g, rfl, ⟨cur, 135, ?_, fun i hi => ?_⟩, ?_⟩
      · rw [heap_alloc_old _ _ (row_lt hg)]; exact hg
      · rw [← itV_at its lg its.length i hi, ← h4, List.getElem?_take, if_pos hi, Array.getElem?_toList]
      · have := row_lt hg; omega
  · obtain ⟨b1, b2, b3⟩ := h.lead i hi
    refine ⟨b1.alloc _, by have := b1.lt; omega, fun e => b3 (by rw [e]; rfl)⟩
  · rcases h.own.2 with ⟨e, h0⟩ | ⟨g, cap, cur, e, hb, hg, h1, h2, h3, h4⟩
    · injection e with e1 e2 e3
      exact ⟨by omega, by rw [e3]; exact Nat.zero_le _, hl⟩
    · cases e; exact ⟨h1, h2, hl⟩
  · intro e
    have := hlt _ e; omega
set_option maxRecDepth 100000 in
theorem prun_yes (s : ByteArray) (n : Nat) (t : ByteArray) (w : World) (its : List Wd.It) (hs : s.size ≤ 240) (ht : t.size ≤ 200000) (hn : n ≤ 3) (hn1 : 1 ≤ n) (hread : Wd.readP s.data.toList = .ok its) (hsc : scriptB n t.data.toList = true) :
    Calls Try.prog 41 #[.string s, .int .i64 n, .string t] w fun e w' => e = .returned (.tuple #[.string (Wd.mkS (traceB its n (begin_ its) t.data.toList)), .int .i64 0]) ∧ Below w.heap.size w w' := by
  have HF := hide (fine_of hread)
  have AU := sourceUnfold_any s w (by unfold maxLen; omega)
  rw [hread] at AU
  have HAU := hide AU
  have AI := hide (fun W => isScript_any t n W ht (by omega) (by omega))
  rw [hsc] at AI
  rw [traceB_three hn _ _ (Mc.Rest.begin_ its n) hsc]
  have HSC := hide hsc
  clear AU hread hsc
  go_enter Try.func41, Try.ntmps41
  go_wp2_with fail
  go_at_call 39
  refine HAU.out.mono ?_
  rintro e w1 ⟨hb1, g, cap, rfl, hown⟩
  obtain ⟨ai, ci, hv, hci1, hci2, hit⟩ := own_items hown
  have AB := hide (build_any w1 its ai ci HF.out.len HF.out.ok (fun i hi => by have := HF.out.short i hi; omega) ⟨hci1, hci2⟩ hit)
  rw [← hv] at AB
  have HB1 := hide hb1
  clear hown hit hb1 hv
  go_wp2_with (first | (go_at_call 50; refine AB.out.mono ?_; rintro e w2 ⟨v, lg, rfl, hbm, hb2⟩; obtain ⟨ao, cc, hv⟩ := own_v hbm.own; subst hv; have HP := hide (pm_of HF.out.len hbm); have HB2 := hide (below_go HB1.out hb2); have hs2 : w1.heap.size ≤ w2.heap.size := hb2.size; have hs1 : w.heap.size ≤ w1.heap.size := HB1.out.size; clear hbm hb2) | (go_at_call 49; refine (AI.out _).mono ?_; rintro e w' ⟨rfl, hww⟩; obtain rfl := hww.symm; clear hww) | (refine wpList_allocM rfl rfl ?_) | (refine wpList_store_row rfl 107 _ _ rfl _ (mA (.slice ao its.length cc)) rfl rfl 107 (mA (.slice none 0 0)) ?_ (Try.iMachA _) (by rw [mA_size, mA_size]) (mA_one _ _ _) ?_; (exact heap_alloc_last _ _); rw [World.setRow_alloc_new]; have HB3 := hide (below_new HB2.out (.cells (mA (.slice ao its.length cc)) 107)); have hs3 : w2.heap.size < (w2.alloc (.cells (mA (.slice ao its.length cc)) 107)).heap.size := (Row.new w2 (mA (.slice ao its.length cc)) 107).lt; generalize w2.alloc (.cells (mA (.slice ao its.length cc)) 107) = w3 at *; have APL := hide (play_any w3 w2.heap.size ao cc lg its (begin_ its) n t HP.out.1 HF.out.ok (Mc.Inv.begin_ its 3) HF.out (Ats.begin_ its 3) (Mc.Rest.begin_ its 3) hn ht HSC.out (fun g e => by have := HP.out.2 g e; omega))) | (go_at_call 51; refine APL.out.mono ?_; rintro e w4 ⟨rfl, hk4⟩))
  go_ret2
  refine ⟨rfl, ?_⟩
  have hk : Below w.heap.size w3 w4 := ⟨hk4.below.os, hk4.below.tape, hk4.below.output, hk4.below.size, fun k hk => hk4.same k (by omega) (by omega) (fun e => by have := HP.out.2 k e; omega)⟩
  exact HB3.out.trans hk
set_option maxRecDepth 100000 in
theorem prun_long (s : ByteArray) (cpus : Int) (t : ByteArray) (w : World) (hs : s.size ≤ maxLen) (ht : t.size ≤ maxLen) (hc0 : -9223372036854775808 ≤ cpus) (hc1 : cpus ≤ 9223372036854775807) (h : 240 < s.size ∨ 200000 < t.size) :
    Calls Try.prog 41 #[.string s, .int .i64 cpus, .string t] w fun e w' => e = .returned (.tuple #[.string (Wd.mkS []), .int .i64 1]) ∧ Below w.heap.size w w' := by
  unfold maxLen at hs ht
  by_cases h1 : 240 < s.size
  · clear h
    go_enter Try.func41, Try.ntmps41
    go_wp2
    all_goals first | (exfalso; omega) | (go_ret2; exact ⟨rfl, Below.refl _ _⟩)
  · have h2 : 200000 < t.size := by omega
    clear h
    go_enter Try.func41, Try.ntmps41
    go_wp2
    all_goals first | (exfalso; omega) | (go_ret2; exact ⟨rfl, Below.refl _ _⟩)
set_option maxRecDepth 100000 in
theorem prun_err (s : ByteArray) (cpus : Int) (t : ByteArray) (w : World) (hs : s.size ≤ maxLen) (ht : t.size ≤ maxLen) (hc0 : -9223372036854775808 ≤ cpus) (hc1 : cpus ≤ 9223372036854775807) (h1 : s.size ≤ 240) (h2 : t.size ≤ 200000) (x : Int × Int) (hx : x.1 ≠ 0) (hread : Wd.readP s.data.toList = .error x) :
    Calls Try.prog 41 #[.string s, .int .i64 cpus, .string t] w fun e w' => e = .returned (.tuple #[.string (Wd.mkS []), .int .i64 x.1]) ∧ Below w.heap.size w w' := by
  have AU := sourceUnfold_any s w hs
  rw [hread] at AU
  have HAU := hide AU
  have t1 : (x.1 != 0) = true := by simp [hx]
  clear AU hread hx
  obtain ⟨x1, x2⟩ := x
  simp only at t1
  go_enter Try.func41, Try.ntmps41
  go_wp2_with (first | (go_at_call 39; refine HAU.out.mono ?_; rintro e w1 ⟨hb1, rfl⟩))
  all_goals first | (exfalso; omega) | (go_ret2; exact ⟨rfl, hb1⟩)
set_option maxRecDepth 100000 in
theorem prun_arg (s : ByteArray) (cpus : Int) (t : ByteArray) (w : World) (hs : s.size ≤ maxLen) (ht : t.size ≤ maxLen) (hc0 : -9223372036854775808 ≤ cpus) (hc1 : cpus ≤ 9223372036854775807) (h1 : s.size ≤ 240) (h2 : t.size ≤ 200000) (its : List Wd.It) (hread : Wd.readP s.data.toList = .ok its) (hc : cpus < 1 ∨ 3 < cpus) :
    Calls Try.prog 41 #[.string s, .int .i64 cpus, .string t] w fun e w' => e = .returned (.tuple #[.string (Wd.mkS []), .int .i64 6]) ∧ Below w.heap.size w w' := by
  have AU := sourceUnfold_any s w hs
  rw [hread] at AU
  have HAU := hide AU
  clear AU hread
  by_cases hc2 : cpus < 1
  all_goals (
    go_enter Try.func41, Try.ntmps41
    go_wp2_with (first | (go_at_call 39; refine HAU.out.mono ?_; rintro e w1 ⟨hb1, g, cap, rfl, hown⟩))
    all_goals first | (exfalso; omega) | (go_ret2; exact ⟨rfl, hb1⟩))
set_option maxRecDepth 100000 in
theorem prun_script (s : ByteArray) (cpus : Int) (t : ByteArray) (w : World) (hs : s.size ≤ maxLen) (ht : t.size ≤ maxLen) (hc0 : -9223372036854775808 ≤ cpus) (hc1 : cpus ≤ 9223372036854775807) (h1 : s.size ≤ 240) (h2 : t.size ≤ 200000) (its : List Wd.It) (hread : Wd.readP s.data.toList = .ok its) (hc : 1 ≤ cpus) (hc3 : cpus ≤ 3) (hsc : scriptB cpus t.data.toList = false) :
    Calls Try.prog 41 #[.string s, .int .i64 cpus, .string t] w fun e w' => e = .returned (.tuple #[.string (Wd.mkS []), .int .i64 7]) ∧ Below w.heap.size w w' := by
  have AU := sourceUnfold_any s w hs
  rw [hread] at AU
  have HAU := hide AU
  have AI := hide (fun W => isScript_any t cpus W h2 (by omega) (by omega))
  rw [hsc] at AI
  clear AU hread hsc
  go_enter Try.func41, Try.ntmps41
  go_wp2_with (first | (go_at_call 39; refine HAU.out.mono ?_; rintro e w1 ⟨hb1, g, cap, rfl, hown⟩) | (go_at_call 49; refine (AI.out _).mono ?_; rintro e w' ⟨rfl, hww⟩; obtain rfl := hww.symm; clear hww))
  all_goals first | (exfalso; omega) | (go_ret2; exact ⟨rfl, hb1⟩)
/-- The program's Run answers with runB. -/
theorem prun_any (s : ByteArray) (cpus : Int) (t : ByteArray) (w : World) (hs : s.size ≤ maxLen) (ht : t.size ≤ maxLen) (hc0 : -9223372036854775808 ≤ cpus) (hc1 : cpus ≤ 9223372036854775807) :
    Calls Try.prog 41 #[.string s, .int .i64 cpus, .string t] w fun e w' => e = .returned (.tuple #[.string (Wd.mkS (runB s.data.toList cpus t.data.toList).1), .int .i64 (runB s.data.toList cpus t.data.toList).2]) ∧ Below w.heap.size w w' := by
  have hls := Wd.len_str s
  have hlt := Wd.len_str t
  by_cases h1 : 240 < s.size ∨ 200000 < t.size
  · have e : runB s.data.toList cpus t.data.toList = ([], 1) := by
      have : refuses s.data.toList cpus t.data.toList = 1 := by unfold refuses; rw [if_pos (by omega)]
      unfold runB; rw [this]; rfl
    rw [e]
    exact prun_long s cpus t w hs ht hc0 hc1 h1
  have h1' : ¬ (240 < s.data.toList.length ∨ 200000 < t.data.toList.length) := by omega
  cases hr : Wd.readP s.data.toList with
  | error x =>
    have hx := Wd.readP_err hr
    have e : runB s.data.toList cpus t.data.toList = ([], x.1) := by
      have : refuses s.data.toList cpus t.data.toList = x.1 := by unfold refuses errP; rw [if_neg h1', hr]; simp only; rw [if_pos hx]
      unfold runB; rw [this, if_pos hx]
    rw [e]
    exact prun_err s cpus t w hs ht hc0 hc1 (by omega) (by omega) x hx hr
  | ok its =>
    have hb : refuses s.data.toList cpus t.data.toList = if cpus < 1 ∨ 3 < cpus then 6 else if scriptB cpus t.data.toList = false then 7 else 0 := by
      unfold refuses errP; rw [if_neg h1', hr]; simp
    by_cases h2 : cpus < 1 ∨ 3 < cpus
    · have e : runB s.data.toList cpus t.data.toList = ([], 6) := by unfold runB; rw [hb, if_pos h2]; rfl
      rw [e]
      exact prun_arg s cpus t w hs ht hc0 hc1 (by omega) (by omega) its hr h2
    · rw [if_neg h2] at hb
      cases h3 : scriptB cpus t.data.toList with
      | false =>
        have e : runB s.data.toList cpus t.data.toList = ([], 7) := by unfold runB; rw [hb, if_pos h3]; rfl
        rw [e]
        exact prun_script s cpus t w hs ht hc0 hc1 (by omega) (by omega) its hr (by omega) (by omega) h3
      | true =>
        have e : runB s.data.toList cpus t.data.toList = (traceB its cpus.toNat (begin_ its) t.data.toList, 0) := by
          unfold runB; rw [hb, h3, hr]; rfl
        rw [e]
        obtain ⟨n, rfl⟩ : ∃ n : Nat, cpus = n := ⟨cpus.toNat, by omega⟩
        exact prun_yes s n t w its (by omega) (by omega) (by omega) (by omega) hr h3
set_option maxRecDepth 100000 in
theorem wrun_any (s : ByteArray) (cpus : Int) (t : ByteArray) (w : World) (hs : s.size ≤ maxLen) (ht : t.size ≤ maxLen) (hc0 : -9223372036854775808 ≤ cpus) (hc1 : cpus ≤ 9223372036854775807) :
    Calls Try.prog 30 #[.string s, .int .i64 cpus, .string t] w fun e w' => e = .returned (.tuple #[.string (Wd.mkS (runB s.data.toList cpus t.data.toList).1), .int .i64 (runB s.data.toList cpus t.data.toList).2]) ∧ Below w.heap.size w w' := by
  have AR := hide (prun_any s cpus t w hs ht hc0 hc1)
  generalize (runB s.data.toList cpus t.data.toList).1 = a at *
  generalize (runB s.data.toList cpus t.data.toList).2 = b at *
  go_enter Try.func30, Try.ntmps30
  go_wp2_with (first | (go_at_call 41; refine AR.out.mono ?_; rintro e w1 ⟨rfl, hb1⟩))
  go_ret2
  exact ⟨rfl, hb1⟩
end Go.Proofs.Ytecmfdkhcffpmab
/- Contracts of the program's states: their numbers, marks. -/
namespace Go.Proofs.Ytecmfdkhcffpmab
open Go.RowKit
set_option linter.unusedSimpArgs false
set_option linter.unusedVariables false
set_option maxHeartbeats 8000000
open Mc

theorem wpList_indexTo {P : Program} {ops : Array Oper} {rest : List Oper} {o : Oper} {a : Act} {w : World} {Q : Exit → Act → World → Prop} (hg : o.guard = none) (ty : TypeId) (x i : Operand) (ho : o.op = .index ty x i)
    (v : Value) (hrun : (Instr.index ty (a.eval x) (a.eval i)).run P w = .ok v w) (h : wpList P ops Q rest (a.put o.dst v) w) : wpList P ops Q (o :: rest) a w := by
  refine wpList_runTo' hg v w ?_ h
  unfold execOp
  simp only [ho, Sem.run_bind, Sem.run_pure, hrun, Result.andThen_ok]
theorem ixH0 (a0 a1 a2 a3 a4 a5 : Value) (w : World) : (Instr.index 98 (.agg #[a0, a1, a2, a3, a4, a5]) (.int .i64 0)).run Try.prog w = .ok a0 w := by kernel_rfl
theorem ixH1 (a0 a1 a2 a3 a4 a5 : Value) (w : World) : (Instr.index 98 (.agg #[a0, a1, a2, a3, a4, a5]) (.int .i64 1)).run Try.prog w = .ok a1 w := by kernel_rfl
theorem ixH2 (a0 a1 a2 a3 a4 a5 : Value) (w : World) : (Instr.index 98 (.agg #[a0, a1, a2, a3, a4, a5]) (.int .i64 2)).run Try.prog w = .ok a2 w := by kernel_rfl
theorem ixH3 (a0 a1 a2 a3 a4 a5 : Value) (w : World) : (Instr.index 98 (.agg #[a0, a1, a2, a3, a4, a5]) (.int .i64 3)).run Try.prog w = .ok a3 w := by kernel_rfl
theorem ixH4 (a0 a1 a2 a3 a4 a5 : Value) (w : World) : (Instr.index 98 (.agg #[a0, a1, a2, a3, a4, a5]) (.int .i64 4)).run Try.prog w = .ok a4 w := by kernel_rfl
theorem ixH5 (a0 a1 a2 a3 a4 a5 : Value) (w : World) : (Instr.index 98 (.agg #[a0, a1, a2, a3, a4, a5]) (.int .i64 5)).run Try.prog w = .ok a5 w := by kernel_rfl
set_option maxRecDepth 100000 in
theorem heldNumberB (b0 b1 b2 b3 b4 b5 : Bool) (w : World) :
    Calls Try.prog 92 #[.agg #[.bool b0, .bool b1, .bool b2, .bool b3, .bool b4, .bool b5]] w fun e w' => e = .returned (.int .i64 ((nTo [b0, b1, b2, b3, b4, b5] 6 : Nat) : Int)) ∧ Below w.heap.size w w' := by
  have HB := hide (below_one w (.cells #[.bool b0, .bool b1, .bool b2, .bool b3, .bool b4, .bool b5] 98))
  go_enter Try.func92, Try.ntmps92
  go_wp2
  go_loop [3, 7] (fun n a => ∃ k : Nat, k ≤ 6 ∧ a = .int .i64 k ∧ n = .int .i64 ((nTo [b0, b1, b2, b3, b4, b5] k : Nat) : Int)) (fun _ a => 6 - (intOf a).toNat)
  case atStart => exact ⟨0, by omega, rfl, rfl⟩
  case round =>
    obtain ⟨k, hk, rfl, rfl⟩ := hrel
    by_cases hlt : k < 6
    · have hc : k = 0 ∨ k = 1 ∨ k = 2 ∨ k = 3 ∨ k = 4 ∨ k = 5 := by omega
      have hb : nTo [b0, b1, b2, b3, b4, b5] k < 64 := by
        clear HB
        rcases hc with rfl | rfl | rfl | rfl | rfl | rfl <;> cases b0 <;> cases b1 <;> cases b2 <;> cases b3 <;> cases b4 <;> cases b5 <;> decide
      have hs : ∀ b, [b0, b1, b2, b3, b4, b5][k]? = some b → nTo [b0, b1, b2, b3, b4, b5] (k + 1) = 2 * nTo [b0, b1, b2, b3, b4, b5] k + b.toNat := fun b hb => by
        unfold nTo; rw [List.take_add_one, hb]; simp
      have HS := hide hs
      clear hs
      generalize nTo [b0, b1, b2, b3, b4, b5] k = N at *
      rcases hc with rfl | rfl | rfl | rfl | rfl | rfl
      · have HE := hide (HS.out b0 rfl)
        clear HS
        cases b0
        all_goals (
          go_wp2_with (first | (refine wpList_indexTo rfl 98 _ _ rfl _ (ixH0 _ _ _ _ _ _ _) ?_))
          go_round
          case rel => exact ⟨1, by omega, rfl, by rw [HE.out]; simp; try omega⟩
          case measure => simp [intOf])
      · have HE := hide (HS.out b1 rfl)
        clear HS
        cases b1
        all_goals (
          go_wp2_with (first | (refine wpList_indexTo rfl 98 _ _ rfl _ (ixH1 _ _ _ _ _ _ _) ?_))
          go_round
          case rel => exact ⟨2, by omega, rfl, by rw [HE.out]; simp; try omega⟩
          case measure => simp [intOf])
      · have HE := hide (HS.out b2 rfl)
        clear HS
        cases b2
        all_goals (
          go_wp2_with (first | (refine wpList_indexTo rfl 98 _ _ rfl _ (ixH2 _ _ _ _ _ _ _) ?_))
          go_round
          case rel => exact ⟨3, by omega, rfl, by rw [HE.out]; simp; try omega⟩
          case measure => simp [intOf])
      · have HE := hide (HS.out b3 rfl)
        clear HS
        cases b3
        all_goals (
          go_wp2_with (first | (refine wpList_indexTo rfl 98 _ _ rfl _ (ixH3 _ _ _ _ _ _ _) ?_))
          go_round
          case rel => exact ⟨4, by omega, rfl, by rw [HE.out]; simp; try omega⟩
          case measure => simp [intOf])
      · have HE := hide (HS.out b4 rfl)
        clear HS
        cases b4
        all_goals (
          go_wp2_with (first | (refine wpList_indexTo rfl 98 _ _ rfl _ (ixH4 _ _ _ _ _ _ _) ?_))
          go_round
          case rel => exact ⟨5, by omega, rfl, by rw [HE.out]; simp; try omega⟩
          case measure => simp [intOf])
      · have HE := hide (HS.out b5 rfl)
        clear HS
        cases b5
        all_goals (
          go_wp2_with (first | (refine wpList_indexTo rfl 98 _ _ rfl _ (ixH5 _ _ _ _ _ _ _) ?_))
          go_round
          case rel => exact ⟨6, by omega, rfl, by rw [HE.out]; simp; try omega⟩
          case measure => simp [intOf])
    · have e : k = 6 := by omega
      subst e
      go_wp2
      go_ret
      exact ⟨rfl, HB.out⟩
theorem heldNumber_any (h : Nat) (w : World) :
    Calls Try.prog 92 #[.agg #[.bool (h.testBit 0), .bool (h.testBit 1), .bool (h.testBit 2), .bool (h.testBit 3), .bool (h.testBit 4), .bool (h.testBit 5)]] w fun e w' => e = .returned (.int .i64 (hn h : Int)) ∧ Below w.heap.size w w' := heldNumberB _ _ _ _ _ _ w
end Go.Proofs.Ytecmfdkhcffpmab
