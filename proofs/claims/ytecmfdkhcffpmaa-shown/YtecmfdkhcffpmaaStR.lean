/- Contracts of the program's Show: the way to a state. -/
import Derived.Test.YtecmfdkhcffpmaaB37
namespace Go.Proofs.Ytecmfdkhcffpmaa
open Go.RowKit
set_option linter.unusedSimpArgs false
set_option linter.unusedVariables false
set_option maxHeartbeats 8000000
open Mc

/-- From a state back to the beginning. -/
def wayBack (L : List Rc) : Nat → Nat → List Rc
  | 0, _ => []
  | n + 1, i => if i = 0 then [] else match L[i]? with | none => [] | some r => r :: wayBack L n r.fr
theorem wayBack_zero (L : List Rc) (n : Nat) : wayBack L n 0 = [] := by cases n <;> simp [wayBack]
theorem wayBack_step {L : List Rc} {n i : Nat} {r : Rc} (hi : i ≠ 0) (h : L[i]? = some r) : wayBack L (n + 1) i = r :: wayBack L n r.fr := by simp [wayBack, hi, h]
/-- Enough rounds are enough. -/
theorem wayBack_more {L : List Rc} (hb : ∀ (j : Nat) (r : Rc), 0 < j → L[j]? = some r → r.fr < j) : ∀ (n m i : Nat), i ≤ n → i ≤ m → wayBack L n i = wayBack L m i := by
  intro n
  induction n with
  | zero => intro m i hi hm; have : i = 0 := by omega
            subst this; rw [wayBack_zero, wayBack_zero]
  | succ n ih =>
    intro m i hi hm
    by_cases h0 : i = 0
    · subst h0; rw [wayBack_zero, wayBack_zero]
    · cases m with
      | zero => omega
      | succ m =>
        cases hq : L[i]? with
        | none => simp [wayBack, h0, hq]
        | some r =>
          rw [wayBack_step h0 hq, wayBack_step h0 hq, ih m r.fr (by have := hb i r (by omega) hq; omega) (by have := hb i r (by omega) hq; omega)]
theorem wayBack_len (L : List Rc) : ∀ n i, (wayBack L n i).length ≤ n := by
  intro n
  induction n with
  | zero => intro i; simp [wayBack]
  | succ n ih =>
    intro i
    unfold wayBack
    split
    · simp
    · split
      · simp
      · simp; exact ih _
def wayP (L : List Rc) (i : Nat) : List Rc := (wayBack L i i).reverse
theorem RFin.fr {hd : Bool} {b : List UInt8} {L : List Rc} (h : RFin hd b L) : ∀ (j : Nat) (r : Rc), 0 < j → L[j]? = some r → r.fr < j := by
  obtain ⟨i, f, h1, h2⟩ := h
  intro j r hj hr
  obtain ⟨q, a, _⟩ := h1.back j r hj hr
  exact a
theorem rcV_ten (r : Rc) : ∃ b0 b1 b2 b3 b4 b5 : Bool, rcV r = [.int .i64 (r.p : Int), .bool b0, .bool b1, .bool b2, .bool b3, .bool b4, .bool b5, .bool r.off, .int .i64 (r.fr : Int), .bool r.comma] := ⟨_, _, _, _, _, _, rfl⟩
set_option maxRecDepth 100000 in
theorem wayTo_any (w : World) (L : List Rc) (v : Value) (b last : Nat) (hfr : ∀ (j : Nat) (r : Rc), 0 < j → L[j]? = some r → r.fr < j) (hl : L.length ≤ 100000) (hlast : last < L.length) (hv : w.ownsRow b 153 10 v L.length (L.flatMap rcV)) :
    Calls Try.prog 100 #[v, .int .i64 last] w fun e w' => ∃ ao cc, e = .returned (.slice ao (wayP L last).length cc) ∧ w'.ownsRow w.heap.size 153 10 (.slice ao (wayP L last).length cc) (wayP L last).length ((wayP L last).flatMap rcV) ∧ Below w.heap.size w w' := by
  have HO := hide hv
  obtain ⟨ga, ca, hva⟩ := own_v hv
  subst hva
  have HFR := hide hfr
  clear hv hfr
  obtain ⟨i0, hj0', hz0, hz1, hz2⟩ := info_parts Try.infoReached
  have HO0 : Hid ((w.alloc (.cells #[] 153)).ownsRow w.heap.size 153 10 (.slice (some ⟨w.heap.size, 0, none⟩) 0 0) ([] : List Rc).length (([] : List Rc).flatMap rcV)) := hide ⟨rfl, .inr ⟨w.heap.size, 0, #[], rfl, Nat.le_refl _, heap_alloc_last _ _, Nat.le_refl _, by decide, rfl, rfl⟩⟩
  have HB0 := hide (below_one w (.cells #[] 153))
  go_enter Try.func100, Try.ntmps100
  go_wp2
  generalize w.alloc (.cells #[] 153) = W at *
  go_loopw [5, 6] (fun a c wr => ∃ (i : Nat) (X : List Rc), i ≤ last ∧ c = .int .i64 i ∧ X ++ wayBack L i i = wayBack L last last ∧ wr.ownsRow w.heap.size 153 10 a X.length (X.flatMap rcV) ∧ Below w.heap.size w wr) (fun _ c _ => (intOf c).toNat)
  case atStart => exact ⟨last, [], Nat.le_refl _, rfl, rfl, HO0.out, HB0.out⟩
  case round =>
    clear HO0 HB0
    obtain ⟨i, X, hi, rfl, hX, hx, hb⟩ := hrel
    have HX := hide hX
    have HW := hide hx
    have HB := hide hb
    clear hX hx hb
    obtain ⟨ao, cc, hv⟩ := own_v HW.out
    subst hv
    have hXl : X.length ≤ 100000 := by have h1 := wayBack_len L last last; rw [← HX.out, List.length_append] at h1; omega
    have hsz := HB.out.size
    have hiL : (i : Int) < (L.length : Int) := by omega
    by_cases hi0 : i = 0
    · subst hi0
      rw [wayBack_zero, List.append_nil] at HX
      rw [show ((0 : Nat) : Int) = 0 from rfl]
      go_wp2
      have HOW0 : Hid ((wr.alloc (.cells #[] 153)).ownsRow wr.heap.size 153 10 (.slice (some ⟨wr.heap.size, 0, none⟩) 0 0) ([] : List Rc).length (([] : List Rc).flatMap rcV)) := hide ⟨rfl, .inr ⟨wr.heap.size, 0, #[], rfl, Nat.le_refl _, heap_alloc_last _ _, Nat.le_refl _, by decide, rfl, rfl⟩⟩
      have HBW0 := hide (below_one wr (.cells #[] 153))
      have HWP : Hid (wayP L last = X.reverse) := hide (by unfold wayP; rw [HX.out])
      have HW0 := hide HW.out
      have hb0 := HB.out
      have HB0 := hide hb0
      clear hb0 HB HW
      have hnw : wr.heap.size < (wr.alloc (.cells #[] 153)).heap.size := by simp
      generalize hw0 : wr = w0 at *
      clear hw0
      go_loopw [7, 8] (fun a c wr => ∃ (k : Nat) (Y : List Rc), k ≤ X.length ∧ c = .int .i64 ((k : Int) - 1) ∧ Y = (X.drop k).reverse ∧ wr.ownsRow w0.heap.size 153 10 a Y.length (Y.flatMap rcV) ∧ Below w0.heap.size w0 wr) (fun _ c _ => (intOf c + 1).toNat)
      case atStart => exact ⟨X.length, [], Nat.le_refl _, rfl, by simp, HOW0.out, HBW0.out⟩
      case round =>
        clear HOW0 HBW0 hnw
        obtain ⟨k, Y, hk, rfl, hY, hy, hb⟩ := hrel
        have HY := hide hY
        have HW := hide hy
        have HB := hide hb
        clear hY hy hb
        obtain ⟨ao2, cc2, hv⟩ := own_v HW.out
        subst hv
        have hYl : Y.length ≤ 100000 := by rw [HY.out]; simp; omega
        have hsz2 := HB.out.size
        by_cases hk0 : k = 0
        · subst hk0
          rw [List.drop_zero] at HY
          go_wp2
          go_ret
          exact ⟨ao2, cc2, by rw [HWP.out, ← HY.out]; rfl, by rw [HWP.out, ← HY.out]; exact own_mono HW.out hsz, below_go HB0.out HB.out⟩
        · obtain ⟨j, hj⟩ : ∃ j, k = j + 1 := ⟨k - 1, by omega⟩
          subst hj
          obtain ⟨r, hr⟩ : ∃ r, X[j]? = some r := ⟨X[j], List.getElem?_eq_getElem (by omega)⟩
          obtain ⟨g1, c1, hv1, _, hg1, _, _, hr1⟩ := own_el rcV_len HW0.out hr
          cases hv1
          obtain ⟨b0, b1, b2, b3, b4, b5, hrc⟩ := rcV_ten r
          have HRC := hide hrc
          have HRG : Hid (wr.rangeAt g1 (j * 10) [.int .i64 (r.p : Int), .bool b0, .bool b1, .bool b2, .bool b3, .bool b4, .bool b5, .bool r.off, .int .i64 (r.fr : Int), .bool r.comma]) := hide (by rw [← hrc]; exact fun j u hj => by rw [HB.out.cell (by exact hg1)]; exact hr1 j u hj)
          have HDR : Hid ((X.drop j).reverse = (X.drop (j + 1)).reverse ++ [r]) := hide (by
            have e := List.drop_eq_getElem_cons (l := X) (i := j) (by omega)
            have e2 : X[j]'(by omega) = r := by have := List.getElem?_eq_getElem (l := X) (i := j) (by omega); rw [hr] at this; injection this with this; exact this.symm
            rw [e, e2, List.reverse_cons])
          have hj0 : (0 : Int) ≤ (j : Int) := by omega
          have hje : ((j + 1 : Nat) : Int) - 1 = (j : Int) := by omega
          have hjn : (j : Int) < (X.length : Int) := by omega
          rw [hje]
          clear hr hr1 hrc hje
          go_wp2_with (first | (at_builtin; refine wpList_push (f := rcV) rcV_len rfl _ _ 148 rfl w0.heap.size 153 i0 _ 32 Try.underlying148 hj0' hz0 hz1 hz2 rfl (by decide) _ Y r rfl ⟨_, 0, none⟩ rfl ?_ ?_ ?_ ?_ ?_ ?_ ?_; (exact HW.out.alloc _); (rw [HRC.out]; exact newsL _ _ _); (rw [HRC.out]; intro x hx; simp at hx; rcases hx with rfl | rfl | rfl | rfl | rfl | rfl | rfl | rfl | rfl | rfl <;> rfl); (unfold maxLen; omega); (omega); (simp; omega); intro ao' cc' w5 hown' hbel' hsame' hat'; have HO5 := hide hown'; have HBL5 := hide hbel'; clear hown' hbel' hsame' hat') | (refine wpList_load_mid rfl 153 _ rfl _ _ rfl [.int .i64 (r.p : Int), .bool b0, .bool b1, .bool b2, .bool b3, .bool b4, .bool b5, .bool r.off, .int .i64 (r.fr : Int), .bool r.comma] _ ?_ Try.underlying153 rfl Try.iReached ?_; (exact HRG.out)))
          go_round
          case measure => simp [intOf]
          case rel => exact ⟨j, Y ++ [r], by omega, by go_num, by rw [HDR.out, ← HY.out], HO5.out, (HB.out.alloc hsz2 _).trans HBL5.out⟩
    · obtain ⟨r, hr⟩ : ∃ r, L[i]? = some r := ⟨L[i], List.getElem?_eq_getElem (by omega)⟩
      obtain ⟨g1, c1, hv1, _, hg1, _, _, hr1⟩ := own_el rcV_len HO.out hr
      cases hv1
      have hfr1 := HFR.out i r (by omega) hr
      obtain ⟨b0, b1, b2, b3, b4, b5, hrc⟩ := rcV_ten r
      have HRC := hide hrc
      have HRG : Hid (wr.rangeAt g1 (i * 10) [.int .i64 (r.p : Int), .bool b0, .bool b1, .bool b2, .bool b3, .bool b4, .bool b5, .bool r.off, .int .i64 (r.fr : Int), .bool r.comma]) := hide (by rw [← hrc]; exact fun j u hj => by rw [HB.out.cell (by exact hg1)]; exact hr1 j u hj)
      have HST : Hid (wayBack L i i = r :: wayBack L r.fr r.fr) := by
        apply hide
        cases i with
        | zero => exact absurd rfl hi0
        | succ n => rw [wayBack_step hi0 hr, wayBack_more HFR.out n r.fr r.fr (by omega) (Nat.le_refl _)]
      have HY8 : Hid (∀ W', Below w.heap.size w W' → W'.cell? ⟨g1, i * 10 + 8, none⟩ = some (.int .i64 (r.fr : Int))) := hide (fun W' h => by rw [h.cell (by exact hg1)]; exact hr1 8 _ rfl)
      have hi1 : (0 : Int) < (i : Int) := by omega
      clear hr hr1 hrc
      go_wp2_with (first | (at_builtin; refine wpList_push (f := rcV) rcV_len rfl _ _ 148 rfl w.heap.size 153 i0 _ 32 Try.underlying148 hj0' hz0 hz1 hz2 rfl (by decide) _ X r rfl ⟨_, 0, none⟩ rfl ?_ ?_ ?_ ?_ ?_ ?_ ?_; (exact HW.out.alloc _); (rw [HRC.out]; exact newsL _ _ _); (rw [HRC.out]; intro x hx; simp at hx; rcases hx with rfl | rfl | rfl | rfl | rfl | rfl | rfl | rfl | rfl | rfl <;> rfl); (unfold maxLen; omega); (omega); (simp; omega); intro ao' cc' w5 hown' hbel' hsame' hat'; have HO5 := hide hown'; have HBL5 := hide hbel'; have y8 := HY8.out w5 ((HB.out.alloc hsz _).trans hbel'); clear hown' hbel' hsame' hat') | (refine wpList_load_mid rfl 153 _ rfl _ _ rfl [.int .i64 (r.p : Int), .bool b0, .bool b1, .bool b2, .bool b3, .bool b4, .bool b5, .bool r.off, .int .i64 (r.fr : Int), .bool r.comma] _ ?_ Try.underlying153 rfl Try.iReached ?_; (exact HRG.out)))
      go_round
      case measure => simp [intOf]; omega
      case rel => exact ⟨r.fr, X ++ [r], by omega, rfl, by rw [List.append_assoc, List.singleton_append, ← HST.out]; exact HX.out, HO5.out, (HB.out.alloc hsz _).trans HBL5.out⟩
end Go.Proofs.Ytecmfdkhcffpmaa
