/- PureP1, PureM3. -/
import Derived.Test.YtecmfdkhcffpmaaB08
import Derived.Test.YtecmfdkhcffpmaaB07
/- The program's list of where brackets and bars lead, plain. -/
namespace Go.Proofs.Ytecmfdkhcffpmaa
open Go.RowKit
set_option linter.unusedSimpArgs false
set_option linter.unusedVariables false
namespace Mc
open Wd
abbrev Ld := List Nat × (Nat → Nat)
/-- The partner is taken off. -/
def ldPop (i : Nat) (c : Int) (z : Ld) : Ld := match z.1 with
  | [] => z
  | q :: r => if c = 124 ∨ c = 41 ∨ c = 93 then (r, fun x => if x = i then q else if x = q then i + 1 else z.2 x) else z
def ldPush (i : Nat) (c : Int) (z : Ld) : Ld := if c = 40 ∨ c = 91 ∨ c = 124 then (i :: z.1, z.2) else z
def ldStep (i : Nat) (c : Int) (z : Ld) : Ld := ldPush i c (ldPop i c z)
def ldRun : List UInt8 → Nat → Ld → Ld
  | [], _, z => z
  | c :: r, i, z => ldRun r (i + 1) (ldStep i (bt c) z)
/-- Where brackets and bars lead. -/
def leads (b : List UInt8) : Nat → Nat := (ldRun b 0 ([], fun _ => 0)).2
theorem ldRun_app (a b : List UInt8) (i : Nat) (z : Ld) : ldRun (a ++ b) i z = ldRun b (i + a.length) (ldRun a i z) := by
  induction a generalizing i z with
  | nil => rfl
  | cons c r ih =>
    simp only [List.cons_append, ldRun, List.length_cons]
    rw [ih]; congr 1; omega
theorem ldStep_plain {c : Int} (i : Nat) (z : Ld) (h : c ≠ 40 ∧ c ≠ 91 ∧ c ≠ 124 ∧ c ≠ 41 ∧ c ≠ 93) : ldStep i c z = z := by
  unfold ldStep ldPush
  rw [if_neg (by omega)]
  unfold ldPop
  split
  · rfl
  · rw [if_neg (by omega)]
/-- What is led to from a place of a body that lies at o. -/
structure LdBr (b : List UInt8) (o : Nat) (L : Nat → Nat) (p : Nat) : Prop where
  fo : at_ b p = 40 → ∃ j k, Alt b p j k ∧ L (o + p) = o + j + 1
  fm : at_ b p = 124 → ∃ i k, Alt b i p k ∧ L (o + p) = o + k + 1
  fs : at_ b p = 91 → ∃ k, Star b p k ∧ L (o + p) = o + k + 1
  fe : at_ b p = 93 → ∃ i, Star b i p ∧ L (o + p) = o + i
theorem LdBr.mid {b : List UInt8} {o : Nat} {L : Nat → Nat} {p : Nat} (a q : List UInt8) (hp : p < b.length) (h : LdBr b (o + a.length) L p) : LdBr (a ++ (b ++ q)) o L (a.length + p) := by
  have e : at_ (a ++ (b ++ q)) (a.length + p) = at_ b p := by rw [at_right, at_app_l hp]
  constructor <;> rw [e] <;> intro hc
  · obtain ⟨j, k, hh, hl⟩ := h.fo hc; exact ⟨_, _, hh.mid a q, by rw [← Nat.add_assoc, hl]; omega⟩
  · obtain ⟨j, k, hh, hl⟩ := h.fm hc; exact ⟨_, _, hh.mid a q, by rw [← Nat.add_assoc, hl]; omega⟩
  · obtain ⟨k, hh, hl⟩ := h.fs hc; exact ⟨_, hh.mid a q, by rw [← Nat.add_assoc, hl]; omega⟩
  · obtain ⟨k, hh, hl⟩ := h.fe hc; exact ⟨_, hh.mid a q, by rw [← Nat.add_assoc, hl]; omega⟩
theorem LdBr.none {b : List UInt8} {o : Nat} {L : Nat → Nat} {p : Nat} (h : at_ b p ≠ 40 ∧ at_ b p ≠ 124 ∧ at_ b p ≠ 91 ∧ at_ b p ≠ 93) : LdBr b o L p :=
  ⟨fun e => absurd e h.1, fun e => absurd e h.2.1, fun e => absurd e h.2.2.1, fun e => absurd e h.2.2.2⟩
theorem LdBr.only {b : List UInt8} {o : Nat} {L : Nat → Nat} {p : Nat} {v : Int} (hv : at_ b p = v) (h40 : v = 40 → ∃ j k, Alt b p j k ∧ L (o + p) = o + j + 1) (h124 : v = 124 → ∃ i k, Alt b i p k ∧ L (o + p) = o + k + 1) (h91 : v = 91 → ∃ k, Star b p k ∧ L (o + p) = o + k + 1) (h93 : v = 93 → ∃ i, Star b i p ∧ L (o + p) = o + i) : LdBr b o L p := by
  subst hv; exact ⟨h40, h124, h91, h93⟩
theorem LdBr.same {b : List UInt8} {o : Nat} {L L' : Nat → Nat} {p : Nat} (h : LdBr b o L p) (e : L' (o + p) = L (o + p)) : LdBr b o L' p := by
  constructor <;> rw [e]
  · exact h.fo
  · exact h.fm
  · exact h.fs
  · exact h.fe
/-- A body read from o on: what was open is open, nothing outside has turned, all that is in it leads right. -/
def Goes (b : List UInt8) : Prop := ∀ (o : Nat) (s : List Nat) (L : Nat → Nat), (∀ q ∈ s, q < o) → ∃ L', ldRun b o (s, L) = (s, L') ∧ (∀ q, q < o ∨ o + b.length ≤ q → L' q = L q) ∧ ∀ p, p < b.length → LdBr b o L' p
theorem goes_tok {t r : List UInt8} (ht : ∀ c ∈ t, bt c ≠ 40 ∧ bt c ≠ 91 ∧ bt c ≠ 124 ∧ bt c ≠ 41 ∧ bt c ≠ 93) (h : Goes r) : Goes (t ++ r) := by
  intro o s L hs
  have e : ldRun t o (s, L) = (s, L) := by
    clear h hs
    induction t generalizing o with
    | nil => rfl
    | cons c u ih =>
      rw [ldRun, ldStep_plain _ _ (ht c (by simp))]
      exact ih (fun x hx => ht x (by simp [hx])) _
  obtain ⟨L', e1, e2, e3⟩ := h (o + t.length) s L (fun q hq => by have := hs q hq; omega)
  refine ⟨L', by rw [ldRun_app, e, e1], fun q hq => e2 q (by simp at hq; omega), fun p hp => ?_⟩
  by_cases c0 : p < t.length
  · apply LdBr.none
    rw [at_app_l c0]
    obtain ⟨c, hc, ec⟩ := at_mem c0
    rw [ec]
    have := ht c hc; omega
  · have := (e3 (p - t.length) (by simp at hp; omega)).mid t [] (by simp at hp; omega)
    have e : t.length + (p - t.length) = p := by omega
    rw [e] at this; simpa using this
theorem goes_bd {b : List UInt8} (h : Bd b) : Goes b := by
  induction h with
  | nil => intro o s L _; exact ⟨L, rfl, fun _ _ => rfl, fun p hp => by simp at hp⟩
  | lock c d r h1 h2 _ ih =>
    refine goes_tok (t := [c, d]) (fun x hx => ?_) ih
    simp only [List.mem_cons, List.not_mem_nil, or_false] at hx
    simp [lk] at h2
    rcases hx with rfl | rfl <;> omega
  | cell c d r h1 h2 _ ih =>
    refine goes_tok (t := [c, d]) (fun x hx => ?_) ih
    simp only [List.mem_cons, List.not_mem_nil, or_false] at hx
    simp [cl] at h2
    rcases hx with rfl | rfl <;> omega
  | one c r h1 _ ih =>
    refine goes_tok (t := [c]) (fun x hx => ?_) ih
    simp only [List.mem_cons, List.not_mem_nil, or_false] at hx
    subst hx
    rw [up_iff] at h1; omega
  | alt x y r hx hy hr ix iy ir =>
    intro o s L hs
    obtain ⟨L1, a1, a2, a3⟩ := ix (o + 1) (o :: s) L (fun q hq => by simp only [List.mem_cons] at hq; rcases hq with rfl | hq; omega; have := hs q hq; omega)
    obtain ⟨L2, b1, b2, b3⟩ := iy (o + 1 + x.length + 1) ((o + 1 + x.length) :: s) (fun z => if z = o + 1 + x.length then o else if z = o then o + 1 + x.length + 1 else L1 z) (fun q hq => by simp only [List.mem_cons] at hq; rcases hq with rfl | hq; omega; have := hs q hq; omega)
    obtain ⟨L3, c1, c2, c3⟩ := ir (o + 1 + x.length + 1 + y.length + 1) s (fun z => if z = o + 1 + x.length + 1 + y.length then o + 1 + x.length else if z = o + 1 + x.length then o + 1 + x.length + 1 + y.length + 1 else L2 z) (fun q hq => by have := hs q hq; omega)
    have hA : Alt (40 :: (x ++ 124 :: (y ++ 41 :: r))) 0 (1 + x.length) (1 + x.length + 1 + y.length) := ⟨[], x, y, r, rfl, rfl, by omega, rfl, hx, hy⟩
    have k1 : ldStep o (bt 40) (s, L) = (o :: s, L) := by
      unfold ldStep ldPush ldPop
      cases s <;> rfl
    have k2 : ldStep (o + 1 + x.length) (bt 124) (o :: s, L1) = ((o + 1 + x.length) :: s, fun z => if z = o + 1 + x.length then o else if z = o then o + 1 + x.length + 1 else L1 z) := rfl
    have k3 : ldStep (o + 1 + x.length + 1 + y.length) (bt 41) ((o + 1 + x.length) :: s, L2) = (s, fun z => if z = o + 1 + x.length + 1 + y.length then o + 1 + x.length else if z = o + 1 + x.length then o + 1 + x.length + 1 + y.length + 1 else L2 z) := rfl
    have v0 : L3 o = o + (1 + x.length) + 1 := by
      rw [c2 o (by omega), if_neg (by omega), if_neg (by omega), b2 o (by omega), if_neg (by omega), if_pos rfl]; omega
    have v1 : L3 (o + 1 + x.length) = o + (1 + x.length + 1 + y.length) + 1 := by
      rw [c2 _ (by omega), if_neg (by omega), if_pos rfl]; omega
    refine ⟨L3, ?_, fun q hq => ?_, fun p hp => ?_⟩
    · rw [ldRun, k1, ldRun_app, a1, ldRun, k2, ldRun_app, b1, ldRun, k3, c1]
    · simp only [List.length_cons, List.length_append] at hq
      rw [c2 q (by omega), if_neg (by omega), if_neg (by omega), b2 q (by omega), if_neg (by omega), if_neg (by omega), a2 q (by omega)]
    · by_cases c0 : p = 0
      · subst c0
        exact LdBr.only (v := 40) rfl (fun _ => ⟨_, _, hA, v0⟩) (by intro e; cases e) (by intro e; cases e) (by intro e; cases e)
      by_cases c1' : p < 1 + x.length
      · have h1 := (a3 (p - 1) (by omega)).same (L' := L3) (by
          rw [c2 _ (by omega), if_neg (by omega), if_neg (by omega), b2 _ (by omega), if_neg (by omega), if_neg (by omega)])
        have := h1.mid [40] (124 :: (y ++ 41 :: r)) (by omega)
        have e : [(40 : UInt8)].length + (p - 1) = p := by simp; omega
        rw [e] at this; exact this
      by_cases c2' : p = 1 + x.length
      · have hv : at_ (40 :: (x ++ 124 :: (y ++ 41 :: r))) p = 124 := by
          have : at_ ((40 :: x) ++ (124 :: (y ++ 41 :: r))) ((40 :: x).length + 0) = at_ (124 :: (y ++ 41 :: r)) 0 := at_right _ _ _
          have this := this.trans (at_cons_zero _ _)
          simp only [bt124] at this
          rw [c2']; simpa [Nat.add_comm] using this
        refine LdBr.only hv (by intro e; cases e) (fun _ => ⟨0, _, by rw [c2']; exact hA, by rw [c2', ← Nat.add_assoc]; exact v1⟩) (by intro e; cases e) (by intro e; cases e)
      by_cases c3' : p < 1 + x.length + 1 + y.length
      · have h1 := (b3 (p - (x.length + 2)) (by omega)).same (L' := L3) (by
          rw [c2 _ (by omega), if_neg (by omega), if_neg (by omega)])
        have h2 : LdBr y (o + (40 :: (x ++ [124]) : List UInt8).length) L3 (p - (x.length + 2)) := by
          have e : o + (40 :: (x ++ [124]) : List UInt8).length = o + 1 + x.length + 1 := by simp; omega
          rw [e]; exact h1
        have := h2.mid (40 :: (x ++ [124])) (41 :: r) (by omega)
        have e : (40 :: (x ++ [124]) : List UInt8).length + (p - (x.length + 2)) = p := by simp; omega
        rw [e] at this; simpa using this
      by_cases c4' : p = 1 + x.length + 1 + y.length
      · have hv : at_ (40 :: (x ++ 124 :: (y ++ 41 :: r))) p = 41 := by
          have : at_ ((40 :: (x ++ 124 :: y)) ++ (41 :: r)) ((40 :: (x ++ 124 :: y)).length + 0) = at_ (41 :: r) 0 := at_right _ _ _
          have this := this.trans (at_cons_zero _ _)
          simp only [bt41] at this
          have e : (40 :: (x ++ 124 :: y) : List UInt8).length + 0 = p := by simp; omega
          rw [e] at this; simpa using this
        exact LdBr.none (by rw [hv]; decide)
      · have hl : p < (40 :: (x ++ 124 :: (y ++ 41 :: r))).length := hp
        simp at hl
        have h2 : LdBr r (o + (40 :: (x ++ 124 :: (y ++ [41])) : List UInt8).length) L3 (p - (x.length + y.length + 3)) := by
          have e : o + (40 :: (x ++ 124 :: (y ++ [41])) : List UInt8).length = o + 1 + x.length + 1 + y.length + 1 := by simp; omega
          rw [e]; exact c3 _ (by omega)
        have := h2.mid (40 :: (x ++ 124 :: (y ++ [41]))) [] (by omega)
        have e : (40 :: (x ++ 124 :: (y ++ [41])) : List UInt8).length + (p - (x.length + y.length + 3)) = p := by simp; omega
        rw [e] at this; simpa using this
  | star x r hx hr ix ir =>
    intro o s L hs
    obtain ⟨L1, a1, a2, a3⟩ := ix (o + 1) (o :: s) L (fun q hq => by simp only [List.mem_cons] at hq; rcases hq with rfl | hq; omega; have := hs q hq; omega)
    obtain ⟨L3, c1, c2, c3⟩ := ir (o + 1 + x.length + 1) s (fun z => if z = o + 1 + x.length then o else if z = o then o + 1 + x.length + 1 else L1 z) (fun q hq => by have := hs q hq; omega)
    have hS : Star (91 :: (x ++ 93 :: r)) 0 (1 + x.length) := ⟨[], x, r, rfl, rfl, by omega, hx⟩
    have k1 : ldStep o (bt 91) (s, L) = (o :: s, L) := by
      unfold ldStep ldPush ldPop
      cases s <;> rfl
    have k2 : ldStep (o + 1 + x.length) (bt 93) (o :: s, L1) = (s, fun z => if z = o + 1 + x.length then o else if z = o then o + 1 + x.length + 1 else L1 z) := rfl
    have v0 : L3 o = o + (1 + x.length) + 1 := by
      rw [c2 o (by omega), if_neg (by omega), if_pos rfl]; omega
    have v1 : L3 (o + 1 + x.length) = o := by
      rw [c2 _ (by omega), if_pos rfl]
    refine ⟨L3, ?_, fun q hq => ?_, fun p hp => ?_⟩
    · rw [ldRun, k1, ldRun_app, a1, ldRun, k2, c1]
    · simp only [List.length_cons, List.length_append] at hq
      rw [c2 q (by omega), if_neg (by omega), if_neg (by omega), a2 q (by omega)]
    · by_cases c0 : p = 0
      · subst c0
        exact LdBr.only (v := 91) rfl (by intro e; cases e) (by intro e; cases e) (fun _ => ⟨_, hS, v0⟩) (by intro e; cases e)
      by_cases c1' : p < 1 + x.length
      · have h1 := (a3 (p - 1) (by omega)).same (L' := L3) (by
          rw [c2 _ (by omega), if_neg (by omega), if_neg (by omega)])
        have := h1.mid [91] (93 :: r) (by omega)
        have e : [(91 : UInt8)].length + (p - 1) = p := by simp; omega
        rw [e] at this; exact this
      by_cases c2' : p = 1 + x.length
      · have hv : at_ (91 :: (x ++ 93 :: r)) p = 93 := by
          have : at_ ((91 :: x) ++ (93 :: r)) ((91 :: x).length + 0) = at_ (93 :: r) 0 := at_right _ _ _
          have this := this.trans (at_cons_zero _ _)
          simp only [bt93] at this
          rw [c2']; simpa [Nat.add_comm] using this
        refine LdBr.only hv (by intro e; cases e) (by intro e; cases e) (by intro e; cases e) (fun _ => ⟨0, by rw [c2']; exact hS, by rw [c2', ← Nat.add_assoc, v1]; rfl⟩)
      · have hl : p < (91 :: (x ++ 93 :: r)).length := hp
        simp at hl
        have h2 : LdBr r (o + (91 :: (x ++ [93]) : List UInt8).length) L3 (p - (x.length + 2)) := by
          have e : o + (91 :: (x ++ [93]) : List UInt8).length = o + 1 + x.length + 1 := by simp; omega
          rw [e]; exact c3 _ (by omega)
        have := h2.mid (91 :: (x ++ [93])) [] (by omega)
        have e : (91 :: (x ++ [93]) : List UInt8).length + (p - (x.length + 2)) = p := by simp; omega
        rw [e] at this; simpa using this
theorem leads_br {b : List UInt8} (h : Bd b) (p : Nat) (hp : p < b.length) : LdBr b 0 (leads b) p := by
  obtain ⟨L', e1, _, e3⟩ := goes_bd h 0 [] (fun _ => 0) (by simp)
  have e : leads b = L' := by unfold leads; rw [e1]
  rw [e]; exact e3 p hp
/-- Where brackets and bars lead is where the document goes. -/
theorem leads_40 {b : List UInt8} (h : Bd b) (p : Nat) (hp : p < b.length) (hc : at_ b p = 40) : leads b p = ahead b p 124 + 1 := by
  obtain ⟨j, k, hA, hl⟩ := (leads_br h p hp).fo hc
  simp only [Nat.zero_add] at hl
  rw [hl, hA.bar]
theorem leads_124 {b : List UInt8} (h : Bd b) (p : Nat) (hp : p < b.length) (hc : at_ b p = 124) : leads b p = ahead b p 41 + 1 := by
  obtain ⟨j, k, hA, hl⟩ := (leads_br h p hp).fm hc
  simp only [Nat.zero_add] at hl
  rw [hl, hA.close]
theorem leads_91 {b : List UInt8} (h : Bd b) (p : Nat) (hp : p < b.length) (hc : at_ b p = 91) : leads b p = ahead b p 93 + 1 := by
  obtain ⟨k, hA, hl⟩ := (leads_br h p hp).fs hc
  simp only [Nat.zero_add] at hl
  rw [hl, hA.close]
theorem leads_93 {b : List UInt8} (h : Bd b) (p : Nat) (hp : p < b.length) (hc : at_ b p = 93) : leads b p = back b p := by
  obtain ⟨i, hA, hl⟩ := (leads_br h p hp).fe hc
  simp only [Nat.zero_add] at hl
  rw [hl, hA.back]
end Mc
end Go.Proofs.Ytecmfdkhcffpmaa
/- The document's machine, plain: what holds of it goes on holding. -/
namespace Go.Proofs.Ytecmfdkhcffpmaa
open Go.RowKit
set_option linter.unusedSimpArgs false
set_option linter.unusedVariables false
namespace Mc
open Wd

theorem Inv.setCp {its : List It} {n : Nat} {S : Ma} (h : Inv its n S) (c : Nat) (x : Cp) (ht : FrOK its false x.t) (hh : FrOK its true x.h) (ho : x.off = true → x.t.there = true) : Inv its n (setCp S c x) := by
  refine ⟨fun d hd => ?_, fun d hd => ?_, fun d hd => ?_, h.pl⟩ <;> unfold Mc.setCp <;> by_cases e : d = c <;> simp only [e, if_true, if_false]
  · exact ht
  · exact h.t d hd
  · exact hh
  · exact h.h d hd
  · exact ho
  · exact h.off d hd
theorem frOK_no (its : List It) (hd : Bool) : FrOK its hd noFr := ⟨by simp [noFr], by simp [noFr], by simp [noFr], by simp [noFr], fun _ => rfl⟩
theorem Inv.setRd {its : List It} {n : Nat} {S : Ma} (h : Inv its n S) (i : Nat) (b : Bool) : Inv its n (setRd S i b) := ⟨h.t, h.h, h.off, h.pl⟩
theorem Inv.setPl {its : List It} {n : Nat} {S : Ma} (h : Inv its n S) (i p : Nat) (hp : p ≤ (bodyOf its i).length + 1) : Inv its n (setPl S i p) := by
  refine ⟨h.t, h.h, h.off, fun j hj => ?_⟩
  unfold Mc.setPl
  by_cases e : j = i
  · subst e; simp only [if_true]; exact hp
  · simp only [e, if_false]; exact h.pl j hj
theorem Inv.begin_ (its : List It) (n : Nat) : Inv its n (begin_ its) :=
  ⟨fun _ _ => frOK_no its false, fun _ _ => frOK_no its true, fun _ _ h => by simp [Mc.begin_, noCp] at h, fun _ _ => by simp [Mc.begin_]⟩
theorem atB_lt {b : List UInt8} {p : Nat} (h : atB b p ≠ 101) : p < b.length := by
  by_cases e : p < b.length
  · exact e
  · simp [atB, e] at h
theorem behind_le (b : List UInt8) (p : Nat) (second : Bool) (h : p < b.length) : behind b p second ≤ b.length + 1 := by
  unfold behind
  have h1 := ahead_bd b p 124 h
  have h2 := ahead_bd b p 41 h
  have h3 := ahead_bd b p 93 h
  have h4 : back b p ≤ p := backN_le b p 0
  repeat' split
  all_goals omega
theorem bits_add : ∀ h, h < 64 → ∀ l, l < 6 → Nat.testBit h l = false → h + 2 ^ l < 64 := by decide
theorem holderFrom_none (S : Ma) (l : Nat) : ∀ m k, holderFrom S l k m = none → ∀ d, k ≤ d → d < k + m → cpHolds (S.cp d) l = false
  | 0, k, _, d, h1, h2 => by omega
  | m + 1, k, h, d, h1, h2 => by
    unfold holderFrom at h
    split at h
    · cases h
    · by_cases e : d = k
      · subst e; rename_i hh; simpa using hh
      · exact holderFrom_none S l m (k + 1) h d (by omega) (by omega)
theorem holder_none {S : Ma} {n l : Nat} (h : holder S n l = none) (d : Nat) (hd : d < n) : cpHolds (S.cp d) l = false := holderFrom_none S l n 0 h d (by omega) (by omega)
theorem works_nohold {S : Ma} {n l c : Nat} (h : holder S n l = none) (hc : c < n) : holds (works S c).held l = false := by
  have := holder_none h c hc
  unfold cpHolds at this
  rw [Bool.or_eq_false_iff] at this
  unfold works
  split
  · exact this.2
  · exact this.1
theorem works_fr {its : List It} {n : Nat} {S : Ma} (h : Inv its n S) (c : Nat) (hc : c < n) : FrOK its (S.cp c).h.there (works S c) := by
  unfold works
  cases e : (S.cp c).h.there
  · simp; exact h.t c hc
  · simp; exact h.h c hc
theorem Inv.put {its : List It} {n : Nat} {S : Ma} (h : Inv its n S) (c : Nat) (hc : c < n) (f : Fr) (hf : FrOK its (S.cp c).h.there f) (ho : (S.cp c).h.there = false → (S.cp c).off = true → f.there = true) : Inv its n (put S c f) := by
  unfold Mc.put
  refine h.setCp c _ ?_ ?_ ?_ <;> unfold putCp <;> cases e : (S.cp c).h.there <;> simp only [if_true, if_false, Bool.false_eq_true]
  · rw [e] at hf; exact hf
  · exact h.t c hc
  · exact h.h c hc
  · rw [e] at hf; exact hf
  · exact ho e
  · exact h.off c hc
theorem Inv.leaves {its : List It} {n : Nat} {S : Ma} (h : Inv its n S) (c : Nat) (hc : c < n) (p : Nat) (hp : p ≤ (bodyOf its (S.cp c).t.item).length + 1) (ho : (S.cp c).off = false) : Inv its n (leaves S c p) := by
  unfold Mc.leaves
  exact ((h.setRd _ _).setPl _ p hp).setCp c _ (frOK_no its false) (h.h c hc) (fun e => by rw [ho] at e; cases e)

theorem takes_fr {its : List It} {n : Nat} {S : Ma} (hi : Inv its n S) (ho : ItsOK its) (c : Nat) (hc : c < n) (hth : (works S c).there = true) (h43 : atB (bodyOf its (works S c).item) (works S c).pos = 43) (hl : (num (bodyOf its (works S c).item) (works S c).pos).toNat < 6) :
    FrOK its (S.cp c).h.there (takes its S n c (works S c) (num (bodyOf its (works S c).item) (works S c).pos).toNat).2 ∧ (takes its S n c (works S c) (num (bodyOf its (works S c).item) (works S c).pos).toNat).2.there = true := by
  have hf := works_fr hi c hc
  unfold takes
  cases e : holder S n (num (bodyOf its (works S c).item) (works S c).pos).toNat with
  | none =>
    simp only
    have hp : (works S c).pos < (bodyOf its (works S c).item).length := atB_lt (by rw [h43]; decide)
    refine ⟨⟨hf.item, hf.kind, fun _ => by simp only; omega, ?_, fun h => by simp only at h; rw [hth] at h; cases h⟩, hth⟩
    exact bits_add _ hf.held _ hl (works_nohold e hc)
  | some d =>
    simp only
    split
    · exact ⟨hf, hth⟩
    · split
      · exact ⟨hf, hth⟩
      · exact ⟨hf, hth⟩
theorem alone_fr {its : List It} {f : Fr} {hd off second : Bool} (hf : FrOK its hd f) (hth : f.there = true) (hp : f.pos < (bodyOf its f.item).length) :
    FrOK its hd (alone (bodyOf its f.item) f hd off second).2.1 ∧ (alone (bodyOf its f.item) f hd off second).2.1.there = true ∧ ((alone (bodyOf its f.item) f hd off second).2.2 = true → off = true ∨ hd = false) := by
  have hb := behind_le (bodyOf its f.item) f.pos second hp
  unfold alone
  split
  · split
    · refine ⟨⟨hf.item, hf.kind, fun _ => hb, ?_, fun h => by simp only at h; rw [hth] at h; cases h⟩, hth, fun h => Or.inl h⟩
      exact Nat.lt_of_le_of_lt (Nat.sub_le _ _) hf.held
    · exact ⟨hf, hth, fun h => Or.inl h⟩
  · split
    · split
      · exact ⟨hf, hth, fun h => Or.inl h⟩
      · rename_i hn
        refine ⟨⟨hf.item, hf.kind, fun _ => hb, hf.held, fun h => by simp only at h; rw [hth] at h; cases h⟩, hth, fun _ => Or.inr (by simpa using hn)⟩
    · exact ⟨⟨hf.item, hf.kind, fun _ => hb, hf.held, fun h => by simp only at h; rw [hth] at h; cases h⟩, hth, fun h => Or.inl h⟩
theorem put_cp (S : Ma) (c : Nat) (f : Fr) : (put S c f).cp c = putCp (S.cp c) f := by simp [Mc.put, Mc.setCp]
theorem num_lock' {its : List It} (ho : ItsOK its) {i p : Nat} (hi : i < its.length) (h : atB (bodyOf its i) p = 43 ∨ atB (bodyOf its i) p = 45) : (num (bodyOf its i) p).toNat < 6 := by
  have hp : p < (bodyOf its i).length := atB_lt (by rcases h with h | h <;> rw [h] <;> decide)
  simp only [atB, hp, if_true] at h
  obtain ⟨h1, h2, h3⟩ := (ho.pair i hi p hp).1 h
  rw [num, if_pos h1, if_pos h2]; omega
theorem Inv.lone {its : List It} {n : Nat} {S : Ma} (h : Inv its n S) (c : Nat) (hc : c < n) (second : Bool) (hth : (works S c).there = true) (hp : (works S c).pos < (bodyOf its (works S c).item).length) : Inv its n (lone its S c second).2 := by
  obtain ⟨h1, h2, h3⟩ := alone_fr (off := (S.cp c).off) (second := second) (works_fr h c hc) hth hp
  unfold Mc.lone setOff
  simp only
  have hput := h.put c hc _ h1 (fun _ _ => h2)
  refine hput.setCp c _ (hput.t c hc) (hput.h c hc) ?_
  simp only
  intro ho
  rw [put_cp]
  unfold putCp
  cases e : (S.cp c).h.there
  · simp only [if_false, Bool.false_eq_true]; rw [← e]; exact h2
  · simp only [if_true]
    rcases h3 ho with h3 | h3
    · exact h.off c hc h3
    · rw [e] at h3; cases h3
theorem Inv.step {its : List It} {n : Nat} {S : Ma} (h : Inv its n S) (ho : ItsOK its) (c : Nat) (hc : c < n) (second : Bool) : Inv its n (step its S n c second).2 := by
  have hf := works_fr h c hc
  unfold Mc.step
  simp only
  split
  · exact h
  rename_i hth
  have hth : (works S c).there = true := by simpa using hth
  split
  · split
    · exact h
    · rename_i hb
      refine h.put c hc _ (frOK_no its _) fun e1 e2 => ?_
      simp [e1, e2] at hb
  rename_i h101
  have hp := atB_lt h101
  split
  · rename_i h43
    obtain ⟨a1, a2⟩ := takes_fr h ho c hc hth h43 (num_lock' ho (hf.item hth) (Or.inl h43))
    exact h.put c hc _ a1 (fun _ _ => a2)
  split
  · split
    · exact h
    · rename_i h122 hb
      simp only [not_or] at hb
      obtain ⟨b1, b2, b3⟩ := hb
      have e : works S c = (S.cp c).t := by unfold works; rw [if_neg b1]
      refine h.leaves c hc _ ?_ ?_
      · rw [e] at hp ⊢; omega
      · cases e1 : (S.cp c).off
        · rfl
        · simp [e1, b1] at b3
  split
  · exact h
  exact h.lone c hc second hth hp
theorem Inv.comes {its : List It} {n : Nat} {S : Ma} (h : Inv its n S) (c : Nat) (hc : c < n) (i : Nat) : Inv its n (comes its S c i).2 := by
  unfold Mc.comes
  split
  · exact h
  rename_i h1
  simp only [not_or] at h1
  obtain ⟨hl, hh⟩ := h1
  have hl : i < its.length := by omega
  split
  · rename_i hk
    split
    · exact h
    · refine h.setCp c _ (h.t c hc) ⟨fun _ => hl, fun _ => hk, fun _ => by simp, by simp, fun e => by simp at e⟩ (h.off c hc)
  · rename_i hk
    split
    · exact h
    · refine (h.setRd i false).setCp c _ ⟨fun _ => hl, fun _ => by simpa using hk, fun _ => h.pl i hl, by simp, fun e => by simp at e⟩ (h.h c hc) (fun _ => rfl)
theorem Inv.command {its : List It} {n : Nat} {S : Ma} (h : Inv its n S) (ho : ItsOK its) (c : Nat) (hc : c < n) (what : Int) : Inv its n (command its S n c what).2 := by
  unfold Mc.command
  split
  · exact h.step ho c hc _
  split
  · exact h.comes c hc _
  split
  · exact h
  · rename_i hb
    simp only [not_or] at hb
    obtain ⟨b1, b2, b3, b4⟩ := hb
    have ht : (S.cp c).t.there = true := by simpa using b1
    exact h.leaves c hc _ ((h.t c hc).pos ht) (by simpa using b4)
end Mc
end Go.Proofs.Ytecmfdkhcffpmaa
