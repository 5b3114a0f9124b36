/- PureP1. -/
import Derived.Test.YtecmfdkhcffpmabB09
/- The program's list of where brackets and bars lead, plain. -/
namespace Go.Proofs.Ytecmfdkhcffpmab
open Go.RowKit
set_option linter.unusedSimpArgs false
set_option linter.unusedVariables false
namespace Mc
open Wd
abbrev Ld := List Nat × (Nat → Nat)
/-- The partner is taken off. -/
def ldPop (i : Nat) (c : Int) (z : Ld) : Ld := match z.1 with
  | [] => z
  | q :: r => if c = 124 ∨ c = 41 ∨ c = 93 then (r, fun x => if x = i then q else if x = q then i + 1 else z.2 x) else z
def ldPush (i : Nat) (c : Int) (z : Ld) : Ld := if c = 40 ∨ c = 91 ∨ c = 124 then (i :: z.1, z.2) else z
def ldStep (i : Nat) (c : Int) (z : Ld) : Ld := ldPush i c (ldPop i c z)
def ldRun : List UInt8 → Nat → Ld → Ld
  | [], _, z => z
  | c :: r, i, z => ldRun r (i + 1) (ldStep i (bt c) z)
/-- Where brackets and bars lead. -/
def leads (b : List UInt8) : Nat → Nat := (ldRun b 0 ([], fun _ => 0)).2
theorem ldRun_app (a b : List UInt8) (i : Nat) (z : Ld) : ldRun (a ++ b) i z = ldRun b (i + a.length) (ldRun a i z) := by
  induction a generalizing i z with
  | nil => rfl
  | cons c r ih =>
    simp only [List.cons_append, ldRun, List.length_cons]
    rw [ih]; congr 1; omega
theorem ldStep_plain {c : Int} (i : Nat) (z : Ld) (h : c ≠ 40 ∧ c ≠ 91 ∧ c ≠ 124 ∧ c ≠ 41 ∧ c ≠ 93) : ldStep i c z = z := by
  unfold ldStep ldPush
  rw [if_neg (by omega)]
  unfold ldPop
  split
  · rfl
  · rw [if_neg (by omega)]
/-- What is led to from a place of a body that lies at o. -/
structure LdBr (b : List UInt8) (o : Nat) (L : Nat → Nat) (p : Nat) : Prop where
  fo : at_ b p = 40 → ∃ j k, Alt b p j k ∧ L (o + p) = o + j + 1
  fm : at_ b p = 124 → ∃ i k, Alt b i p k ∧ L (o + p) = o + k + 1
  fs : at_ b p = 91 → ∃ k, Star b p k ∧ L (o + p) = o + k + 1
  fe : at_ b p = 93 → ∃ i, Star b i p ∧ L (o + p) = o + i
theorem LdBr.mid {b : List UInt8} {o : Nat} {L : Nat → Nat} {p : Nat} (a q : List UInt8) (hp : p < b.length) (h : LdBr b (o + a.length) L p) : LdBr (a ++ (b ++ q)) o L (a.length + p) := by
  have e : at_ (a ++ (b ++ q)) (a.length + p) = at_ b p := by rw [at_right, at_app_l hp]
  constructor <;> rw [e] <;> intro hc
  · obtain ⟨j, k, hh, hl⟩ := h.fo hc; exact ⟨_, _, hh.mid a q, by rw [← Nat.add_assoc, hl]; omega⟩
  · obtain ⟨j, k, hh, hl⟩ := h.fm hc; exact ⟨_, _, hh.mid a q, by rw [← Nat.add_assoc, hl]; omega⟩
  · obtain ⟨k, hh, hl⟩ := h.fs hc; exact ⟨_, hh.mid a q, by rw [← Nat.add_assoc, hl]; omega⟩
  · obtain ⟨k, hh, hl⟩ := h.fe hc; exact ⟨_, hh.mid a q, by rw [← Nat.add_assoc, hl]; omega⟩
theorem LdBr.none {b : List UInt8} {o : Nat} {L : Nat → Nat} {p : Nat} (h : at_ b p ≠ 40 ∧ at_ b p ≠ 124 ∧ at_ b p ≠ 91 ∧ at_ b p ≠ 93) : LdBr b o L p :=
  ⟨fun e => absurd e h.1, fun e => absurd e h.2.1, fun e => absurd e h.2.2.1, fun e => absurd e h.2.2.2⟩
theorem LdBr.only {b : List UInt8} {o : Nat} {L : Nat → Nat} {p : Nat} {v : Int} (hv : at_ b p = v) (h40 : v = 40 → ∃ j k, Alt b p j k ∧ L (o + p) = o + j + 1) (h124 : v = 124 → ∃ i k, Alt b i p k ∧ L (o + p) = o + k + 1) (h91 : v = 91 → ∃ k, Star b p k ∧ L (o + p) = o + k + 1) (h93 : v = 93 → ∃ i, Star b i p ∧ L (o + p) = o + i) : LdBr b o L p := by
  subst hv; exact ⟨h40, h124, h91, h93⟩
theorem LdBr.same {b : List UInt8} {o : Nat} {L L' : Nat → Nat} {p : Nat} (h : LdBr b o L p) (e : L' (o + p) = L (o + p)) : LdBr b o L' p := by
  constructor <;> rw [e]
  · exact h.fo
  · exact h.fm
  · exact h.fs
  · exact h.fe
/-- A body read from o on: what was open is open, nothing outside has turned, all that is in it leads right. -/
def Goes (b : List UInt8) : Prop := ∀ (o : Nat) (s : List Nat) (L : Nat → Nat), (∀ q ∈ s, q < o) → ∃ L', ldRun b o (s, L) = (s, L') ∧ (∀ q, q < o ∨ o + b.length ≤ q → L' q = L q) ∧ ∀ p, p < b.length → LdBr b o L' p
theorem goes_tok {t r : List UInt8} (ht : ∀ c ∈ t, bt c ≠ 40 ∧ bt c ≠ 91 ∧ bt c ≠ 124 ∧ bt c ≠ 41 ∧ bt c ≠ 93) (h : Goes r) : Goes (t ++ r) := by
  intro o s L hs
  have e : ldRun t o (s, L) = (s, L) := by
    clear h hs
    induction t generalizing o with
    | nil => rfl
    | cons c u ih =>
      rw [ldRun, ldStep_plain _ _ (ht c (by simp))]
      exact ih (fun x hx => ht x (by simp [hx])) _
  obtain ⟨L', e1, e2, e3⟩ := h (o + t.length) s L (fun q hq => by have := hs q hq; omega)
  refine ⟨L', by rw [ldRun_app, e, e1], fun q hq => e2 q (by simp at hq; omega), fun p hp => ?_⟩
  by_cases c0 : p < t.length
  · apply LdBr.none
    rw [at_app_l c0]
    obtain ⟨c, hc, ec⟩ := at_mem c0
    rw [ec]
    have := ht c hc; omega
  · have := (e3 (p - t.length) (by simp at hp; omega)).mid t [] (by simp at hp; omega)
    have e : t.length + (p - t.length) = p := by omega
    rw [e] at this; simpa using this
theorem goes_bd {b : List UInt8} (h : Bd b) : Goes b := by
  induction h with
  | nil => intro o s L _; exact ⟨L, rfl, fun _ _ => rfl, fun p hp => by simp at hp⟩
  | lock c d r h1 h2 _ ih =>
    refine goes_tok (t := [c, d]) (fun x hx => ?_) ih
    simp only [List.mem_cons, List.not_mem_nil, or_false] at hx
    simp [lk] at h2
    rcases hx with rfl | rfl <;> omega
  | cell c d r h1 h2 _ ih =>
    refine goes_tok (t := [c, d]) (fun x hx => ?_) ih
    simp only [List.mem_cons, List.not_mem_nil, or_false] at hx
    simp [cl] at h2
    rcases hx with rfl | rfl <;> omega
  | one c r h1 _ ih =>
    refine goes_tok (t := [c]) (fun x hx => ?_) ih
    simp only [List.mem_cons, List.not_mem_nil, or_false] at hx
    subst hx
    rw [up_iff] at h1; omega
  | alt x y r hx hy hr ix iy ir =>
    intro o s L hs
    obtain ⟨L1, a1, a2, a3⟩ := ix (o + 1) (o :: s) L (fun q hq => by simp only [List.mem_cons] at hq; rcases hq with rfl | hq; omega; have := hs q hq; omega)
    obtain ⟨L2, b1, b2, b3⟩ := iy (o + 1 + x.length + 1) ((o + 1 + x.length) :: s) (fun z => if z = o + 1 + x.length then o else if z = o then o + 1 + x.length + 1 else L1 z) (fun q hq => by simp only [List.mem_cons] at hq; rcases hq with rfl | hq; omega; have := hs q hq; omega)
    obtain ⟨L3, c1, c2, c3⟩ := ir (o + 1 + x.length + 1 + y.length + 1) s (fun z => if z = o + 1 + x.length + 1 + y.length then o + 1 + x.length else if z = o + 1 + x.length then o + 1 + x.length + 1 + y.length + 1 else L2 z) (fun q hq => by have := hs q hq; omega)
    have hA : Alt (40 :: (x ++ 124 :: (y ++ 41 :: r))) 0 (1 + x.length) (1 + x.length + 1 + y.length) := ⟨[], x, y, r, rfl, rfl, by omega, rfl, hx, hy⟩
    have k1 : ldStep o (bt 40) (s, L) = (o :: s, L) := by
      unfold ldStep ldPush ldPop
      cases s <;> rfl
    have k2 : ldStep (o + 1 + x.length) (bt 124) (o :: s, L1) = ((o + 1 + x.length) :: s, fun z => if z = o + 1 + x.length then o else if z = o then o + 1 + x.length + 1 else L1 z) := rfl
    have k3 : ldStep (o + 1 + x.length + 1 + y.length) (bt 41) ((o + 1 + x.length) :: s, L2) = (s, fun z => if z = o + 1 + x.length + 1 + y.length then o + 1 + x.length else if z = o + 1 + x.length then o + 1 + x.length + 1 + y.length + 1 else L2 z) := rfl
    have v0 : L3 o = o + (1 + x.length) + 1 := by
      rw [c2 o (by omega), if_neg (by omega), if_neg (by omega), b2 o (by omega), if_neg (by omega), if_pos rfl]; omega
    have v1 : L3 (o + 1 + x.length) = o + (1 + x.length + 1 + y.length) + 1 := by
      rw [c2 _ (by omega), if_neg (by omega), if_pos rfl]; omega
    refine ⟨L3, ?_, fun q hq => ?_, fun p hp => ?_⟩
    · rw [ldRun, k1, ldRun_app, a1, ldRun, k2, ldRun_app, b1, ldRun, k3, c1]
    · simp only [List.length_cons, List.length_append] at hq
      rw [c2 q (by omega), if_neg (by omega), if_neg (by omega), b2 q (by omega), if_neg (by omega), if_neg (by omega), a2 q (by omega)]
    · by_cases c0 : p = 0
      · subst c0
        exact LdBr.only (v := 40) rfl (fun _ => ⟨_, _, hA, v0⟩) (by intro e; cases e) (by intro e; cases e) (by intro e; cases e)
      by_cases c1' : p < 1 + x.length
      · have h1 := (a3 (p - 1) (by omega)).same (L' := L3) (by
          rw [c2 _ (by omega), if_neg (by omega), if_neg (by omega), b2 _ (by omega), if_neg (by omega), if_neg (by omega)])
        have := h1.mid [40] (124 :: (y ++ 41 :: r)) (by omega)
        have e : [(40 : UInt8)].length + (p - 1) = p := by simp; omega
        rw [e] at this; exact this
      by_cases c2' : p = 1 + x.length
      · have hv : at_ (40 :: (x ++ 124 :: (y ++ 41 :: r))) p = 124 := by
          have : at_ ((40 :: x) ++ (124 :: (y ++ 41 :: r))) ((40 :: x).length + 0) = at_ (124 :: (y ++ 41 :: r)) 0 := at_right _ _ _
          have this := this.trans (at_cons_zero _ _)
          simp only [bt124] at this
          rw [c2']; simpa [Nat.add_comm] using this
        refine LdBr.only hv (by intro e; cases e) (fun _ => ⟨0, _, by rw [c2']; exact hA, by rw [c2', ← Nat.add_assoc]; exact v1⟩) (by intro e; cases e) (by intro e; cases e)
      by_cases c3' : p < 1 + x.length + 1 + y.length
      · have h1 := (b3 (p - (x.length + 2)) (by omega)).same (L' := L3) (by
          rw [c2 _ (by omega), if_neg (by omega), if_neg (by omega)])
        have h2 : LdBr y (o + (40 :: (x ++ [124]) : List UInt8).length) L3 (p - (x.length + 2)) := by
          have e : o + (40 :: (x ++ [124]) : List UInt8).length = o + 1 + x.length + 1 := by simp; omega
          rw [e]; exact h1
        have := h2.mid (40 :: (x ++ [124])) (41 :: r) (by omega)
        have e : (40 :: (x ++ [124]) : List UInt8).length + (p - (x.length + 2)) = p := by simp; omega
        rw [e] at this; simpa using this
      by_cases c4' : p = 1 + x.length + 1 + y.length
      · have hv : at_ (40 :: (x ++ 124 :: (y ++ 41 :: r))) p = 41 := by
          have : at_ ((40 :: (x ++ 124 :: y)) ++ (41 :: r)) ((40 :: (x ++ 124 :: y)).length + 0) = at_ (41 :: r) 0 := at_right _ _ _
          have this := this.trans (at_cons_zero _ _)
          simp only [bt41] at this
          have e : (40 :: (x ++ 124 :: y) : List UInt8).length + 0 = p := by simp; omega
          rw [e] at this; simpa using this
        exact LdBr.none (by rw [hv]; decide)
      · have hl : p < (40 :: (x ++ 124 :: (y ++ 41 :: r))).length := hp
        simp at hl
        have h2 : LdBr r (o + (40 :: (x ++ 124 :: (y ++ [41])) : List UInt8).length) L3 (p - (x.length + y.length + 3)) := by
          have e : o + (40 :: (x ++ 124 :: (y ++ [41])) : List UInt8).length = o + 1 + x.length + 1 + y.length + 1 := by simp; omega
          rw [e]; exact c3 _ (by omega)
        have := h2.mid (40 :: (x ++ 124 :: (y ++ [41]))) [] (by omega)
        have e : (40 :: (x ++ 124 :: (y ++ [41])) : List UInt8).length + (p - (x.length + y.length + 3)) = p := by simp; omega
        rw [e] at this; simpa using this
  | star x r hx hr ix ir =>
    intro o s L hs
    obtain ⟨L1, a1, a2, a3⟩ := ix (o + 1) (o :: s) L (fun q hq => by simp only [List.mem_cons] at hq; rcases hq with rfl | hq; omega; have := hs q hq; omega)
    obtain ⟨L3, c1, c2, c3⟩ := ir (o + 1 + x.length + 1) s (fun z => if z = o + 1 + x.length then o else if z = o then o + 1 + x.length + 1 else L1 z) (fun q hq => by have := hs q hq; omega)
    have hS : Star (91 :: (x ++ 93 :: r)) 0 (1 + x.length) := ⟨[], x, r, rfl, rfl, by omega, hx⟩
    have k1 : ldStep o (bt 91) (s, L) = (o :: s, L) := by
      unfold ldStep ldPush ldPop
      cases s <;> rfl
    have k2 : ldStep (o + 1 + x.length) (bt 93) (o :: s, L1) = (s, fun z => if z = o + 1 + x.length then o else if z = o then o + 1 + x.length + 1 else L1 z) := rfl
    have v0 : L3 o = o + (1 + x.length) + 1 := by
      rw [c2 o (by omega), if_neg (by omega), if_pos rfl]; omega
    have v1 : L3 (o + 1 + x.length) = o := by
      rw [c2 _ (by omega), if_pos rfl]
    refine ⟨L3, ?_, fun q hq => ?_, fun p hp => ?_⟩
    · rw [ldRun, k1, ldRun_app, a1, ldRun, k2, c1]
    · simp only [List.length_cons, List.length_append] at hq
      rw [c2 q (by omega), if_neg (by omega), if_neg (by omega), a2 q (by omega)]
    · by_cases c0 : p = 0
      · subst c0
        exact LdBr.only (v := 91) rfl (by intro e; cases e) (by intro e; cases e) (fun _ => ⟨_, hS, v0⟩) (by intro e; cases e)
      by_cases c1' : p < 1 + x.length
      · have h1 := (a3 (p - 1) (by omega)).same (L' := L3) (by
          rw [c2 _ (by omega), if_neg (by omega), if_neg (by omega)])
        have := h1.mid [91] (93 :: r) (by omega)
        have e : [(91 : UInt8)].length + (p - 1) = p := by simp; omega
        rw [e] at this; exact this
      by_cases c2' : p = 1 + x.length
      · have hv : at_ (91 :: (x ++ 93 :: r)) p = 93 := by
          have : at_ ((91 :: x) ++ (93 :: r)) ((91 :: x).length + 0) = at_ (93 :: r) 0 := at_right _ _ _
          have this := this.trans (at_cons_zero _ _)
          simp only [bt93] at this
          rw [c2']; simpa [Nat.add_comm] using this
        refine LdBr.only hv (by intro e; cases e) (by intro e; cases e) (by intro e; cases e) (fun _ => ⟨0, by rw [c2']; exact hS, by rw [c2', ← Nat.add_assoc, v1]; rfl⟩)
      · have hl : p < (91 :: (x ++ 93 :: r)).length := hp
        simp at hl
        have h2 : LdBr r (o + (91 :: (x ++ [93]) : List UInt8).length) L3 (p - (x.length + 2)) := by
          have e : o + (91 :: (x ++ [93]) : List UInt8).length = o + 1 + x.length + 1 := by simp; omega
          rw [e]; exact c3 _ (by omega)
        have := h2.mid (91 :: (x ++ [93])) [] (by omega)
        have e : (91 :: (x ++ [93]) : List UInt8).length + (p - (x.length + 2)) = p := by simp; omega
        rw [e] at this; simpa using this
theorem leads_br {b : List UInt8} (h : Bd b) (p : Nat) (hp : p < b.length) : LdBr b 0 (leads b) p := by
  obtain ⟨L', e1, _, e3⟩ := goes_bd h 0 [] (fun _ => 0) (by simp)
  have e : leads b = L' := by unfold leads; rw [e1]
  rw [e]; exact e3 p hp
/-- Where brackets and bars lead is where the document goes. -/
theorem leads_40 {b : List UInt8} (h : Bd b) (p : Nat) (hp : p < b.length) (hc : at_ b p = 40) : leads b p = ahead b p 124 + 1 := by
  obtain ⟨j, k, hA, hl⟩ := (leads_br h p hp).fo hc
  simp only [Nat.zero_add] at hl
  rw [hl, hA.bar]
theorem leads_124 {b : List UInt8} (h : Bd b) (p : Nat) (hp : p < b.length) (hc : at_ b p = 124) : leads b p = ahead b p 41 + 1 := by
  obtain ⟨j, k, hA, hl⟩ := (leads_br h p hp).fm hc
  simp only [Nat.zero_add] at hl
  rw [hl, hA.close]
theorem leads_91 {b : List UInt8} (h : Bd b) (p : Nat) (hp : p < b.length) (hc : at_ b p = 91) : leads b p = ahead b p 93 + 1 := by
  obtain ⟨k, hA, hl⟩ := (leads_br h p hp).fs hc
  simp only [Nat.zero_add] at hl
  rw [hl, hA.close]
theorem leads_93 {b : List UInt8} (h : Bd b) (p : Nat) (hp : p < b.length) (hc : at_ b p = 93) : leads b p = back b p := by
  obtain ⟨i, hA, hl⟩ := (leads_br h p hp).fe hc
  simp only [Nat.zero_add] at hl
  rw [hl, hA.back]
end Mc
end Go.Proofs.Ytecmfdkhcffpmab
