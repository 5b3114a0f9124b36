/- PureP1, PureP3. -/
import Derived.Test.YtecmfdkhcffpmaaB28
import Derived.Test.YtecmfdkhcffpmaaB29
import Derived.Test.YtecmfdkhcffpmaaB23
/- The program's list of where brackets and bars lead, plain. -/
namespace Go.Proofs.Ytecmfdkhcffpmaa
open Go.RowKit
set_option linter.unusedSimpArgs false
set_option linter.unusedVariables false
namespace Mc
open Wd
abbrev Ld := List Nat × (Nat → Nat)
/-- The partner is taken off. -/
def ldPop (i : Nat) (c : Int) (z : Ld) : Ld := match z.1 with
  | [] => z
  | q :: r => if c = 124 ∨ c = 41 ∨ c = 93 then (r, fun x => if x = i then q else if x = q then i + 1 else z.2 x) else z
def ldPush (i : Nat) (c : Int) (z : Ld) : Ld := if c = 40 ∨ c = 91 ∨ c = 124 then (i :: z.1, z.2) else z
def ldStep (i : Nat) (c : Int) (z : Ld) : Ld := ldPush i c (ldPop i c z)
def ldRun : List UInt8 → Nat → Ld → Ld
  | [], _, z => z
  | c :: r, i, z => ldRun r (i + 1) (ldStep i (bt c) z)
/-- Where brackets and bars lead. -/
def leads (b : List UInt8) : Nat → Nat := (ldRun b 0 ([], fun _ => 0)).2
theorem ldRun_app (a b : List UInt8) (i : Nat) (z : Ld) : ldRun (a ++ b) i z = ldRun b (i + a.length) (ldRun a i z) := by
  induction a generalizing i z with
  | nil => rfl
  | cons c r ih =>
    simp only [List.cons_append, ldRun, List.length_cons]
    rw [ih]; congr 1; omega
theorem ldStep_plain {c : Int} (i : Nat) (z : Ld) (h : c ≠ 40 ∧ c ≠ 91 ∧ c ≠ 124 ∧ c ≠ 41 ∧ c ≠ 93) : ldStep i c z = z := by
  unfold ldStep ldPush
  rw [if_neg (by omega)]
  unfold ldPop
  split
  · rfl
  · rw [if_neg (by omega)]
/-- What is led to from a place of a body that lies at o. -/
structure LdBr (b : List UInt8) (o : Nat) (L : Nat → Nat) (p : Nat) : Prop where
  fo : at_ b p = 40 → ∃ j k, Alt b p j k ∧ L (o + p) = o + j + 1
  fm : at_ b p = 124 → ∃ i k, Alt b i p k ∧ L (o + p) = o + k + 1
  fs : at_ b p = 91 → ∃ k, Star b p k ∧ L (o + p) = o + k + 1
  fe : at_ b p = 93 → ∃ i, Star b i p ∧ L (o + p) = o + i
theorem LdBr.mid {b : List UInt8} {o : Nat} {L : Nat → Nat} {p : Nat} (a q : List UInt8) (hp : p < b.length) (h : LdBr b (o + a.length) L p) : LdBr (a ++ (b ++ q)) o L (a.length + p) := by
  have e : at_ (a ++ (b ++ q)) (a.length + p) = at_ b p := by rw [at_right, at_app_l hp]
  constructor <;> rw [e] <;> intro hc
  · obtain ⟨j, k, hh, hl⟩ := h.fo hc; exact ⟨_, _, hh.mid a q, by rw [← Nat.add_assoc, hl]; omega⟩
  · obtain ⟨j, k, hh, hl⟩ := h.fm hc; exact ⟨_, _, hh.mid a q, by rw [← Nat.add_assoc, hl]; omega⟩
  · obtain ⟨k, hh, hl⟩ := h.fs hc; exact ⟨_, hh.mid a q, by rw [← Nat.add_assoc, hl]; omega⟩
  · obtain ⟨k, hh, hl⟩ := h.fe hc; exact ⟨_, hh.mid a q, by rw [← Nat.add_assoc, hl]; omega⟩
theorem LdBr.none {b : List UInt8} {o : Nat} {L : Nat → Nat} {p : Nat} (h : at_ b p ≠ 40 ∧ at_ b p ≠ 124 ∧ at_ b p ≠ 91 ∧ at_ b p ≠ 93) : LdBr b o L p :=
  ⟨fun e => absurd e h.1, fun e => absurd e h.2.1, fun e => absurd e h.2.2.1, fun e => absurd e h.2.2.2⟩
theorem LdBr.only {b : List UInt8} {o : Nat} {L : Nat → Nat} {p : Nat} {v : Int} (hv : at_ b p = v) (h40 : v = 40 → ∃ j k, Alt b p j k ∧ L (o + p) = o + j + 1) (h124 : v = 124 → ∃ i k, Alt b i p k ∧ L (o + p) = o + k + 1) (h91 : v = 91 → ∃ k, Star b p k ∧ L (o + p) = o + k + 1) (h93 : v = 93 → ∃ i, Star b i p ∧ L (o + p) = o + i) : LdBr b o L p := by
  subst hv; exact ⟨h40, h124, h91, h93⟩
theorem LdBr.same {b : List UInt8} {o : Nat} {L L' : Nat → Nat} {p : Nat} (h : LdBr b o L p) (e : L' (o + p) = L (o + p)) : LdBr b o L' p := by
  constructor <;> rw [e]
  · exact h.fo
  · exact h.fm
  · exact h.fs
  · exact h.fe
/-- A body read from o on: what was open is open, nothing outside has turned, all that is in it leads right. -/
def Goes (b : List UInt8) : Prop := ∀ (o : Nat) (s : List Nat) (L : Nat → Nat), (∀ q ∈ s, q < o) → ∃ L', ldRun b o (s, L) = (s, L') ∧ (∀ q, q < o ∨ o + b.length ≤ q → L' q = L q) ∧ ∀ p, p < b.length → LdBr b o L' p
theorem goes_tok {t r : List UInt8} (ht : ∀ c ∈ t, bt c ≠ 40 ∧ bt c ≠ 91 ∧ bt c ≠ 124 ∧ bt c ≠ 41 ∧ bt c ≠ 93) (h : Goes r) : Goes (t ++ r) := by
  intro o s L hs
  have e : ldRun t o (s, L) = (s, L) := by
    clear h hs
    induction t generalizing o with
    | nil => rfl
    | cons c u ih =>
      rw [ldRun, ldStep_plain _ _ (ht c (by simp))]
      exact ih (fun x hx => ht x (by simp [hx])) _
  obtain ⟨L', e1, e2, e3⟩ := h (o + t.length) s L (fun q hq => by have := hs q hq; omega)
  refine ⟨L', by rw [ldRun_app, e, e1], fun q hq => e2 q (by simp at hq; omega), fun p hp => ?_⟩
  by_cases c0 : p < t.length
  · apply LdBr.none
    rw [at_app_l c0]
    obtain ⟨c, hc, ec⟩ := at_mem c0
    rw [ec]
    have := ht c hc; omega
  · have := (e3 (p - t.length) (by simp at hp; omega)).mid t [] (by simp at hp; omega)
    have e : t.length + (p - t.length) = p := by omega
    rw [e] at this; simpa using this
theorem goes_bd {b : List UInt8} (h : Bd b) : Goes b := by
  induction h with
  | nil => intro o s L _; exact ⟨L, rfl, fun _ _ => rfl, fun p hp => by simp at hp⟩
  | lock c d r h1 h2 _ ih =>
    refine goes_tok (t := [c, d]) (fun x hx => ?_) ih
    simp only [List.mem_cons, List.not_mem_nil, or_false] at hx
    simp [lk] at h2
    rcases hx with rfl | rfl <;> omega
  | cell c d r h1 h2 _ ih =>
    refine goes_tok (t := [c, d]) (fun x hx => ?_) ih
    simp only [List.mem_cons, List.not_mem_nil, or_false] at hx
    simp [cl] at h2
    rcases hx with rfl | rfl <;> omega
  | one c r h1 _ ih =>
    refine goes_tok (t := [c]) (fun x hx => ?_) ih
    simp only [List.mem_cons, List.not_mem_nil, or_false] at hx
    subst hx
    rw [up_iff] at h1; omega
  | alt x y r hx hy hr ix iy ir =>
    intro o s L hs
    obtain ⟨L1, a1, a2, a3⟩ := ix (o + 1) (o :: s) L (fun q hq => by simp only [List.mem_cons] at hq; rcases hq with rfl | hq; omega; have := hs q hq; omega)
    obtain ⟨L2, b1, b2, b3⟩ := iy (o + 1 + x.length + 1) ((o + 1 + x.length) :: s) (fun z => if z = o + 1 + x.length then o else if z = o then o + 1 + x.length + 1 else L1 z) (fun q hq => by simp only [List.mem_cons] at hq; rcases hq with rfl | hq; omega; have := hs q hq; omega)
    obtain ⟨L3, c1, c2, c3⟩ := ir (o + 1 + x.length + 1 + y.length + 1) s (fun z => if z = o + 1 + x.length + 1 + y.length then o + 1 + x.length else if z = o + 1 + x.length then o + 1 + x.length + 1 + y.length + 1 else L2 z) (fun q hq => by have := hs q hq; omega)
    have hA : Alt (40 :: (x ++ 124 :: (y ++ 41 :: r))) 0 (1 + x.length) (1 + x.length + 1 + y.length) := ⟨[], x, y, r, rfl, rfl, by omega, rfl, hx, hy⟩
    have k1 : ldStep o (bt 40) (s, L) = (o :: s, L) := by
      unfold ldStep ldPush ldPop
      cases s <;> rfl
    have k2 : ldStep (o + 1 + x.length) (bt 124) (o :: s, L1) = ((o + 1 + x.length) :: s, fun z => if z = o + 1 + x.length then o else if z = o then o + 1 + x.length + 1 else L1 z) := rfl
    have k3 : ldStep (o + 1 + x.length + 1 + y.length) (bt 41) ((o + 1 + x.length) :: s, L2) = (s, fun z => if z = o + 1 + x.length + 1 + y.length then o + 1 + x.length else if z = o + 1 + x.length then o + 1 + x.length + 1 + y.length + 1 else L2 z) := rfl
    have v0 : L3 o = o + (1 + x.length) + 1 := by
      rw [c2 o (by omega), if_neg (by omega), if_neg (by omega), b2 o (by omega), if_neg (by omega), if_pos rfl]; omega
    have v1 : L3 (o + 1 + x.length) = o + (1 + x.length + 1 + y.length) + 1 := by
      rw [c2 _ (by omega), if_neg (by omega), if_pos rfl]; omega
    refine ⟨L3, ?_, fun q hq => ?_, fun p hp => ?_⟩
    · rw [ldRun, k1, ldRun_app, a1, ldRun, k2, ldRun_app, b1, ldRun, k3, c1]
    · simp only [List.length_cons, List.length_append] at hq
      rw [c2 q (by omega), if_neg (by omega), if_neg (by omega), b2 q (by omega), if_neg (by omega), if_neg (by omega), a2 q (by omega)]
    · by_cases c0 : p = 0
      · subst c0
        exact LdBr.only (v := 40) rfl (fun _ => ⟨_, _, hA, v0⟩) (by intro e; cases e) (by intro e; cases e) (by intro e; cases e)
      by_cases c1' : p < 1 + x.length
      · have h1 := (a3 (p - 1) (by omega)).same (L' := L3) (by
          rw [c2 _ (by omega), if_neg (by omega), if_neg (by omega), b2 _ (by omega), if_neg (by omega), if_neg (by omega)])
        have := h1.mid [40] (124 :: (y ++ 41 :: r)) (by omega)
        have e : [(40 : UInt8)].length + (p - 1) = p := by simp; omega
        rw [e] at this; exact this
      by_cases c2' : p = 1 + x.length
      · have hv : at_ (40 :: (x ++ 124 :: (y ++ 41 :: r))) p = 124 := by
          have : at_ ((40 :: x) ++ (124 :: (y ++ 41 :: r))) ((40 :: x).length + 0) = at_ (124 :: (y ++ 41 :: r)) 0 := at_right _ _ _
          have this := this.trans (at_cons_zero _ _)
          simp only [bt124] at this
          rw [c2']; simpa [Nat.add_comm] using this
        refine LdBr.only hv (by intro e; cases e) (fun _ => ⟨0, _, by rw [c2']; exact hA, by rw [c2', ← Nat.add_assoc]; exact v1⟩) (by intro e; cases e) (by intro e; cases e)
      by_cases c3' : p < 1 + x.length + 1 + y.length
      · have h1 := (b3 (p - (x.length + 2)) (by omega)).same (L' := L3) (by
          rw [c2 _ (by omega), if_neg (by omega), if_neg (by omega)])
        have h2 : LdBr y (o + (40 :: (x ++ [124]) : List UInt8).length) L3 (p - (x.length + 2)) := by
          have e : o + (40 :: (x ++ [124]) : List UInt8).length = o + 1 + x.length + 1 := by simp; omega
          rw [e]; exact h1
        have := h2.mid (40 :: (x ++ [124])) (41 :: r) (by omega)
        have e : (40 :: (x ++ [124]) : List UInt8).length + (p - (x.length + 2)) = p := by simp; omega
        rw [e] at this; simpa using this
      by_cases c4' : p = 1 + x.length + 1 + y.length
      · have hv : at_ (40 :: (x ++ 124 :: (y ++ 41 :: r))) p = 41 := by
          have : at_ ((40 :: (x ++ 124 :: y)) ++ (41 :: r)) ((40 :: (x ++ 124 :: y)).length + 0) = at_ (41 :: r) 0 := at_right _ _ _
          have this := this.trans (at_cons_zero _ _)
          simp only [bt41] at this
          have e : (40 :: (x ++ 124 :: y) : List UInt8).length + 0 = p := by simp; omega
          rw [e] at this; simpa using this
        exact LdBr.none (by rw [hv]; decide)
      · have hl : p < (40 :: (x ++ 124 :: (y ++ 41 :: r))).length := hp
        simp at hl
        have h2 : LdBr r (o + (40 :: (x ++ 124 :: (y ++ [41])) : List UInt8).length) L3 (p - (x.length + y.length + 3)) := by
          have e : o + (40 :: (x ++ 124 :: (y ++ [41])) : List UInt8).length = o + 1 + x.length + 1 + y.length + 1 := by simp; omega
          rw [e]; exact c3 _ (by omega)
        have := h2.mid (40 :: (x ++ 124 :: (y ++ [41]))) [] (by omega)
        have e : (40 :: (x ++ 124 :: (y ++ [41])) : List UInt8).length + (p - (x.length + y.length + 3)) = p := by simp; omega
        rw [e] at this; simpa using this
  | star x r hx hr ix ir =>
    intro o s L hs
    obtain ⟨L1, a1, a2, a3⟩ := ix (o + 1) (o :: s) L (fun q hq => by simp only [List.mem_cons] at hq; rcases hq with rfl | hq; omega; have := hs q hq; omega)
    obtain ⟨L3, c1, c2, c3⟩ := ir (o + 1 + x.length + 1) s (fun z => if z = o + 1 + x.length then o else if z = o then o + 1 + x.length + 1 else L1 z) (fun q hq => by have := hs q hq; omega)
    have hS : Star (91 :: (x ++ 93 :: r)) 0 (1 + x.length) := ⟨[], x, r, rfl, rfl, by omega, hx⟩
    have k1 : ldStep o (bt 91) (s, L) = (o :: s, L) := by
      unfold ldStep ldPush ldPop
      cases s <;> rfl
    have k2 : ldStep (o + 1 + x.length) (bt 93) (o :: s, L1) = (s, fun z => if z = o + 1 + x.length then o else if z = o then o + 1 + x.length + 1 else L1 z) := rfl
    have v0 : L3 o = o + (1 + x.length) + 1 := by
      rw [c2 o (by omega), if_neg (by omega), if_pos rfl]; omega
    have v1 : L3 (o + 1 + x.length) = o := by
      rw [c2 _ (by omega), if_pos rfl]
    refine ⟨L3, ?_, fun q hq => ?_, fun p hp => ?_⟩
    · rw [ldRun, k1, ldRun_app, a1, ldRun, k2, c1]
    · simp only [List.length_cons, List.length_append] at hq
      rw [c2 q (by omega), if_neg (by omega), if_neg (by omega), a2 q (by omega)]
    · by_cases c0 : p = 0
      · subst c0
        exact LdBr.only (v := 91) rfl (by intro e; cases e) (by intro e; cases e) (fun _ => ⟨_, hS, v0⟩) (by intro e; cases e)
      by_cases c1' : p < 1 + x.length
      · have h1 := (a3 (p - 1) (by omega)).same (L' := L3) (by
          rw [c2 _ (by omega), if_neg (by omega), if_neg (by omega)])
        have := h1.mid [91] (93 :: r) (by omega)
        have e : [(91 : UInt8)].length + (p - 1) = p := by simp; omega
        rw [e] at this; exact this
      by_cases c2' : p = 1 + x.length
      · have hv : at_ (91 :: (x ++ 93 :: r)) p = 93 := by
          have : at_ ((91 :: x) ++ (93 :: r)) ((91 :: x).length + 0) = at_ (93 :: r) 0 := at_right _ _ _
          have this := this.trans (at_cons_zero _ _)
          simp only [bt93] at this
          rw [c2']; simpa [Nat.add_comm] using this
        refine LdBr.only hv (by intro e; cases e) (by intro e; cases e) (by intro e; cases e) (fun _ => ⟨0, by rw [c2']; exact hS, by rw [c2', ← Nat.add_assoc, v1]; rfl⟩)
      · have hl : p < (91 :: (x ++ 93 :: r)).length := hp
        simp at hl
        have h2 : LdBr r (o + (91 :: (x ++ [93]) : List UInt8).length) L3 (p - (x.length + 2)) := by
          have e : o + (91 :: (x ++ [93]) : List UInt8).length = o + 1 + x.length + 1 := by simp; omega
          rw [e]; exact c3 _ (by omega)
        have := h2.mid (91 :: (x ++ [93])) [] (by omega)
        have e : (91 :: (x ++ [93]) : List UInt8).length + (p - (x.length + 2)) = p := by simp; omega
        rw [e] at this; simpa using this
theorem leads_br {b : List UInt8} (h : Bd b) (p : Nat) (hp : p < b.length) : LdBr b 0 (leads b) p := by
  obtain ⟨L', e1, _, e3⟩ := goes_bd h 0 [] (fun _ => 0) (by simp)
  have e : leads b = L' := by unfold leads; rw [e1]
  rw [e]; exact e3 p hp
/-- Where brackets and bars lead is where the document goes. -/
theorem leads_40 {b : List UInt8} (h : Bd b) (p : Nat) (hp : p < b.length) (hc : at_ b p = 40) : leads b p = ahead b p 124 + 1 := by
  obtain ⟨j, k, hA, hl⟩ := (leads_br h p hp).fo hc
  simp only [Nat.zero_add] at hl
  rw [hl, hA.bar]
theorem leads_124 {b : List UInt8} (h : Bd b) (p : Nat) (hp : p < b.length) (hc : at_ b p = 124) : leads b p = ahead b p 41 + 1 := by
  obtain ⟨j, k, hA, hl⟩ := (leads_br h p hp).fm hc
  simp only [Nat.zero_add] at hl
  rw [hl, hA.close]
theorem leads_91 {b : List UInt8} (h : Bd b) (p : Nat) (hp : p < b.length) (hc : at_ b p = 91) : leads b p = ahead b p 93 + 1 := by
  obtain ⟨k, hA, hl⟩ := (leads_br h p hp).fs hc
  simp only [Nat.zero_add] at hl
  rw [hl, hA.close]
theorem leads_93 {b : List UInt8} (h : Bd b) (p : Nat) (hp : p < b.length) (hc : at_ b p = 93) : leads b p = back b p := by
  obtain ⟨i, hA, hl⟩ := (leads_br h p hp).fe hc
  simp only [Nat.zero_add] at hl
  rw [hl, hA.back]
end Mc
end Go.Proofs.Ytecmfdkhcffpmaa
/- Plain: the program's machine, and that it is the document's. -/
namespace Go.Proofs.Ytecmfdkhcffpmaa
open Go.RowKit
set_option linter.unusedSimpArgs false
set_option linter.unusedVariables false
namespace Mc
open Wd

/-- The state behind a step that goes well. -/
def nextP (b : List UInt8) (p h : Nat) (off comma : Bool) : Nat × Nat × Bool :=
  if atB b p = 43 then (p + 2, h + 2 ^ (num b p).toNat, off)
  else if atB b p = 45 then (p + 2, h - 2 ^ (num b p).toNat, off)
  else if atB b p = 114 ∨ atB b p = 119 then (p + 2, h, off)
  else if atB b p = 60 then (p + 1, h, true)
  else if atB b p = 62 then (p + 1, h, false)
  else if atB b p = 40 ∨ atB b p = 91 then (if comma = true then leads b p else p + 1, h, off)
  else if atB b p = 124 ∨ atB b p = 93 then (leads b p, h, off)
  else if atB b p = 122 ∨ atB b p = 41 then (p + 1, h, off)
  else (p, h, off)
/-- A step of an item by itself: the state behind it, the byte. -/
def stepS (hd : Bool) (b : List UInt8) (p h : Nat) (off comma : Bool) : (Nat × Nat × Bool) × Int :=
  if faultP hd b p h off = 0 then (nextP b p h off comma, atB b p) else ((p, h, off), faultP hd b p h off)
def waitP (its : List It) (S : Ma) (c l : Nat) : Int :=
  match holder S 3 l with
  | none => 0
  | some d => if d = c then 68 else if leadsTo its S c 3 (some d) = true then 87 else 58
def hindP (its : List It) (S : Ma) (c : Nat) (f : Fr) : Int :=
  if atB (bodyOf its f.item) f.pos = 43 then waitP its S c (num (bodyOf its f.item) f.pos).toNat
  else if atB (bodyOf its f.item) f.pos = 114 ∨ atB (bodyOf its f.item) f.pos = 119 then (if clash its S 3 c f = true then 82 else 0)
  else 0
def frOff (S : Ma) (c : Nat) : Bool := if (S.cp c).h.there = true then true else (S.cp c).off
/-- The frame that works is laid anew, with its own bit. -/
def layP (S : Ma) (c : Nat) (f : Fr) (o : Bool) : Ma := setCp S c (if (S.cp c).h.there = true then { (S.cp c) with h := f } else { (S.cp c) with t := f, off := o })
def stepM (its : List It) (S : Ma) (c : Nat) (comma : Bool) : Int × Ma :=
  let f := works S c
  if f.there = false then (95, S)
  else if hindP its S c f ≠ 0 then (hindP its S c f, S)
  else
    let r := stepS (isH its f.item) (bodyOf its f.item) f.pos f.held (frOff S c) comma
    if r.2 = 122 then (122, layP (setPl (setRd S f.item true) f.item r.1.1) c noFr false)
    else if r.2 = 101 then (101, layP S c noFr false)
    else (r.2, layP S c { f with pos := r.1.1, held := r.1.2.1 } r.1.2.2)
theorem setCp_self (S : Ma) (c : Nat) : setCp S c (S.cp c) = S := by
  unfold setCp
  have : (fun d => if d = c then S.cp c else S.cp d) = S.cp := by
    funext d
    by_cases e : d = c
    · simp [e]
    · simp [e]
  rw [this]
theorem setCp_setCp (S : Ma) (c : Nat) (x y : Cp) : setCp (setCp S c x) c y = setCp S c y := by
  unfold setCp
  congr 1
  funext d
  by_cases e : d = c
  · simp [e]
  · simp [e]
theorem layP_put (S : Ma) (c : Nat) (g : Fr) : layP S c g (frOff S c) = put S c g := by
  unfold layP put putCp frOff
  cases e : (S.cp c).h.there
  · simp only [Bool.false_eq_true, if_false]
  · simp only [if_true]
theorem put_works (S : Ma) (c : Nat) : put S c (works S c) = S := by
  unfold put putCp works
  cases e : (S.cp c).h.there
  · simp only [Bool.false_eq_true, if_false]; exact setCp_self S c
  · simp only [if_true]; exact setCp_self S c
theorem layP_same (S : Ma) (c : Nat) : layP S c (works S c) (frOff S c) = S := by rw [layP_put, put_works]
theorem setOff_put (S : Ma) (c : Nat) (g : Fr) : setOff (put S c g) c (S.cp c).off = put S c g := by
  unfold setOff
  rw [put_cp]
  have e : ({ putCp (S.cp c) g with off := (S.cp c).off } : Cp) = putCp (S.cp c) g := by
    unfold putCp
    split
    · rfl
    · rfl
  rw [e]
  unfold put
  rw [setCp_setCp]
theorem layP_off {S : Ma} {c : Nat} (h : (S.cp c).h.there = false) (g : Fr) (o : Bool) : layP S c g o = setOff (put S c g) c o := by
  unfold setOff
  rw [put_cp]
  unfold layP put putCp
  simp only [h, Bool.false_eq_true, if_false]
  rw [setCp_setCp]
theorem nextP_plain {b : List UInt8} (h : Bd b) {p : Nat} (hp : p < b.length) (hd : Nat) (off comma : Bool) (hv : atB b p = 114 ∨ atB b p = 119 ∨ atB b p = 40 ∨ atB b p = 91 ∨ atB b p = 124 ∨ atB b p = 93 ∨ atB b p = 41 ∨ atB b p = 122) : nextP b p hd off comma = (behind b p comma, hd, off) := by
  have ha : atB b p = at_ b p := by simp [atB, hp]
  rcases hv with e | e | e | e | e | e | e | e
  · simp [nextP, behind, e]
  · simp [nextP, behind, e]
  · have := leads_40 h p hp (by rw [← ha]; exact e)
    cases comma <;> simp [nextP, behind, e, this]
  · have := leads_91 h p hp (by rw [← ha]; exact e)
    cases comma <;> simp [nextP, behind, e, this]
  · have := leads_124 h p hp (by rw [← ha]; exact e)
    simp [nextP, behind, e, this]
  · have := leads_93 h p hp (by rw [← ha]; exact e)
    simp [nextP, behind, e, this]
  · simp [nextP, behind, e]
  · simp [nextP, behind, e]
theorem hasB_num {b : List UInt8} (h : PairOK b) {p : Nat} (hv : atB b p = 43 ∨ atB b p = 45) (x : Nat) : hasB x (numP b p) = holds x (num b p).toNat := by
  have hp : p < b.length := atB_lt (by rcases hv with e | e <;> rw [e] <;> decide)
  have e : numP b p = num b p := by unfold numP; rw [if_pos (by omega)]
  have ha : atB b p = at_ b p := by simp [atB, hp]
  rw [ha] at hv
  obtain ⟨h1, h2, h3⟩ := (h p hp).1 hv
  have hn : num b p = at_ b (p + 1) - 97 := by rw [num, if_pos h1, if_pos h2]
  rw [e]
  unfold hasB
  rw [show decide (0 ≤ num b p) = true by simp; omega, show decide (num b p < 6) = true by simp; omega]
  rfl
theorem stepM_eq {its : List It} (hf : Fine its) {S : Ma} (hi : Inv its 3 S) (hs : Ats its 3 S) (hr : Rest 3 S) (c : Nat) (hc : c < 3) (comma : Bool) : stepM its S c comma = step its S 3 c comma := by
  have hfr := works_fr hi c hc
  have hw := hs.works c hc
  have l1 := layP_same S c
  have l2 := fun g => layP_put S c g
  unfold stepM Mc.step
  simp only
  by_cases hth0 : (works S c).there = false
  · rw [if_pos hth0, if_pos hth0]
  have hth : (works S c).there = true := by simpa using hth0
  rw [if_neg hth0, if_neg hth0]
  have hit := hfr.item hth
  have hk := hfr.kind hth
  have hpl := hw hth
  have hbd := hf.bd _ hit
  have hno := hf.noUp _ hit
  have hpo := pairOK_bd hbd
  generalize hB : bodyOf its (works S c).item = b at *
  by_cases hge : b.length ≤ (works S c).pos
  · have hlt : ¬ (works S c).pos < b.length := by omega
    have hv : atB b (works S c).pos = 101 := by simp [atB, hlt]
    have hh : hindP its S c (works S c) = 0 := by simp [hindP, hB, hv]
    rw [hh, if_neg (by decide), if_pos hv]
    have hfa : (faultP (isH its (works S c).item) b (works S c).pos (works S c).held (frOff S c) = 0) ↔ ¬ (0 < (works S c).held ∨ ((S.cp c).off && !(S.cp c).h.there) = true) := by
      rw [hk]
      unfold faultP frOff
      rw [hv]
      cases (S.cp c).h.there <;> cases (S.cp c).off <;> by_cases e0 : (works S c).held = 0 <;> simp [e0] <;> omega
    by_cases hq : (0 < (works S c).held ∨ ((S.cp c).off && !(S.cp c).h.there) = true)
    · rw [if_pos hq]
      have h0 : ¬ faultP (isH its (works S c).item) b (works S c).pos (works S c).held (frOff S c) = 0 := fun e => hfa.1 e hq
      have h69 : faultP (isH its (works S c).item) b (works S c).pos (works S c).held (frOff S c) = 69 := by
        revert h0
        unfold faultP
        rw [hv]
        simp only [reduceCtorEq, if_false, if_true, Int.reduceEq, or_self]
        split
        · intro _; rfl
        · intro h; exact absurd rfl h
      unfold stepS
      rw [if_neg h0, h69]
      simp only [Int.reduceEq, if_false]
      exact congrArg _ l1
    · rw [if_neg hq]
      have h0 := hfa.2 hq
      unfold stepS
      rw [if_pos h0, hv]
      simp only [Int.reduceEq, if_false, if_true]
      refine congrArg _ ?_
      unfold layP put putCp
      cases e : (S.cp c).h.there
      · have e2 : (S.cp c).off = false := by
          cases e3 : (S.cp c).off
          · rfl
          · exfalso; apply hq; right; simp [e, e3]
        simp only [Bool.false_eq_true, if_false]
        rw [e2]
      · simp only [if_true]
  have hlt : (works S c).pos < b.length := by omega
  have hkd := hpl.kind hbd hno hlt
  have ha : atB b (works S c).pos = at_ b (works S c).pos := by simp [atB, hlt]
  rw [← ha] at hkd
  by_cases hv : (atB b (works S c).pos = 40 ∨ atB b (works S c).pos = 91 ∨ atB b (works S c).pos = 124 ∨ atB b (works S c).pos = 93 ∨ atB b (works S c).pos = 41 ∨ ((atB b (works S c).pos = 114 ∨ atB b (works S c).pos = 119) ∧ clash its S 3 c (works S c) = false))
  · have hn := nextP_plain hbd hlt (works S c).held (frOff S c) comma (by omega)
    have hfa : faultP (isH its (works S c).item) b (works S c).pos (works S c).held (frOff S c) = 0 := by
      unfold faultP
      rw [if_neg (by omega), if_neg (by omega), if_neg (by omega), if_neg (by omega), if_neg (by omega)]
    have hh : hindP its S c (works S c) = 0 := by
      unfold hindP
      rw [hB]
      rw [if_neg (by omega)]
      rcases hv with h | h | h | h | h | ⟨h, h2⟩
      · rw [if_neg (by omega)]
      · rw [if_neg (by omega)]
      · rw [if_neg (by omega)]
      · rw [if_neg (by omega)]
      · rw [if_neg (by omega)]
      · rw [if_pos h, h2]; rfl
    have hal : alone b (works S c) (S.cp c).h.there (S.cp c).off comma = (atB b (works S c).pos, { works S c with pos := behind b (works S c).pos comma }, (S.cp c).off) := by
      unfold alone
      rw [if_neg (by omega), if_neg (by omega)]
    rw [hh, if_neg (by decide)]
    unfold stepS
    rw [if_pos hfa, hn]
    simp only
    rw [if_neg (show ¬ atB b (works S c).pos = 122 by omega), if_neg (show ¬ atB b (works S c).pos = 101 by omega), if_neg (show ¬ atB b (works S c).pos = 101 by omega), if_neg (show ¬ atB b (works S c).pos = 43 by omega), if_neg (show ¬ atB b (works S c).pos = 122 by omega)]
    rw [if_neg (by rintro ⟨h1, h2⟩; rcases hv with h | h | h | h | h | ⟨h, h3⟩ <;> first | omega | (rw [h3] at h2; cases h2))]
    unfold Mc.lone
    simp only [hB, hal]
    rw [setOff_put, l2]
  have hcs : atB b (works S c).pos = 43 ∨ atB b (works S c).pos = 45 ∨ atB b (works S c).pos = 122 ∨ (atB b (works S c).pos = 60 ∨ atB b (works S c).pos = 62) ∨ ((atB b (works S c).pos = 114 ∨ atB b (works S c).pos = 119) ∧ clash its S 3 c (works S c) = true) := by
    cases hcl : clash its S 3 c (works S c)
    · simp only [hcl, and_true] at hv
      rcases hkd with h | h
      · unfold head4 at h; omega
      · unfold sole at h; omega
    · simp only [hcl, and_true]
      rcases hkd with h | h
      · unfold head4 at h; omega
      · unfold sole at h; omega
  clear hv hkd
  rcases hcs with e | e | e | e | ⟨e, hcl⟩
  · -- a lock is taken
    rw [if_neg (show ¬ atB b (works S c).pos = 101 by omega), if_pos e]
    have hh : hindP its S c (works S c) = waitP its S c (num b (works S c).pos).toNat := by unfold hindP; rw [hB, if_pos e]
    rw [hh]
    unfold waitP takes
    cases hl : holder S 3 (num b (works S c).pos).toNat with
    | none =>
      simp only
      rw [if_neg (by decide)]
      have hno := works_nohold hl hc
      have hfa : faultP (isH its (works S c).item) b (works S c).pos (works S c).held (frOff S c) = 0 := by
        unfold faultP
        rw [if_pos e, hasB_num hpo (Or.inl e), hno]; rfl
      unfold stepS
      rw [if_pos hfa]
      have hn : nextP b (works S c).pos (works S c).held (frOff S c) comma = ((works S c).pos + 2, (works S c).held + 2 ^ (num b (works S c).pos).toNat, frOff S c) := by unfold nextP; rw [if_pos e]
      rw [hn, e]
      simp only [Int.reduceEq, if_false]
      rw [l2]
    | some d =>
      simp only
      by_cases e1 : d = c
      · simp only [e1, if_true]
        rw [if_pos (by decide), put_works]
      · simp only [e1, if_false]
        rw [ring_three hr (Nat.le_refl _) c _ d hc hl e1]
        split
        · rw [if_pos (by decide), put_works]
        · rw [if_pos (by decide), put_works]
  · -- a lock is given back
    have hh : hindP its S c (works S c) = 0 := by unfold hindP; rw [hB, if_neg (by omega), if_neg (by omega)]
    have hne : ¬ ((atB b (works S c).pos = 114 ∨ atB b (works S c).pos = 119) ∧ clash its S 3 c (works S c) = true) := by rintro ⟨h, _⟩; omega
    have hfa : faultP (isH its (works S c).item) b (works S c).pos (works S c).held (frOff S c) = if holds (works S c).held (num b (works S c).pos).toNat = true then 0 else 85 := by
      unfold faultP
      rw [if_neg (by omega), if_pos e, hasB_num hpo (Or.inr e)]
    have hn : nextP b (works S c).pos (works S c).held (frOff S c) comma = ((works S c).pos + 2, (works S c).held - 2 ^ (num b (works S c).pos).toNat, frOff S c) := by unfold nextP; rw [if_neg (by omega), if_pos e]
    have hbe : behind b (works S c).pos comma = (works S c).pos + 2 := by unfold behind; rw [if_pos (by omega)]
    have hal : alone b (works S c) (S.cp c).h.there (S.cp c).off comma = if holds (works S c).held (num b (works S c).pos).toNat = true then (45, { works S c with held := (works S c).held - 2 ^ (num b (works S c).pos).toNat, pos := (works S c).pos + 2 }, (S.cp c).off) else (85, works S c, (S.cp c).off) := by
      unfold alone
      rw [if_pos e, hbe]
    rw [hh, if_neg (show ¬ ((0 : Int) ≠ 0) by decide), if_neg (show ¬ atB b (works S c).pos = 101 by omega), if_neg (show ¬ atB b (works S c).pos = 43 by omega), if_neg (show ¬ atB b (works S c).pos = 122 by omega), if_neg hne]
    unfold Mc.lone
    simp only [hB, hal]
    cases hq : holds (works S c).held (num b (works S c).pos).toNat
    · have hst : stepS (isH its (works S c).item) b (works S c).pos (works S c).held (frOff S c) comma = (((works S c).pos, (works S c).held, frOff S c), 85) := by
        unfold stepS; rw [hfa, hq]; rfl
      rw [hst]
      simp only [Int.reduceEq, if_false, Bool.false_eq_true]
      rw [setOff_put, put_works]
      exact congrArg _ l1
    · have hst : stepS (isH its (works S c).item) b (works S c).pos (works S c).held (frOff S c) comma = (((works S c).pos + 2, (works S c).held - 2 ^ (num b (works S c).pos).toNat, frOff S c), 45) := by
        unfold stepS; rw [hfa, hq, hn, e]; rfl
      rw [hst]
      simp only [Int.reduceEq, if_false, if_true]
      rw [setOff_put, l2]
  · -- it sleeps
    have hh : hindP its S c (works S c) = 0 := by unfold hindP; rw [hB, if_neg (by omega), if_neg (by omega)]
    have hfa : faultP (isH its (works S c).item) b (works S c).pos (works S c).held (frOff S c) = if ((S.cp c).h.there = true ∨ 0 < (works S c).held ∨ ((S.cp c).off && !(S.cp c).h.there) = true) then 83 else 0 := by
      rw [hk]
      unfold faultP frOff
      rw [if_neg (by omega), if_neg (by omega), if_pos e]
      cases (S.cp c).h.there <;> cases (S.cp c).off <;> by_cases e0 : (works S c).held = 0 <;> simp [e0] <;> omega
    have hn := nextP_plain hbd hlt (works S c).held (frOff S c) comma (by omega)
    rw [behind_122 _ e] at hn
    rw [hh, if_neg (show ¬ ((0 : Int) ≠ 0) by decide), if_neg (show ¬ atB b (works S c).pos = 101 by omega), if_neg (show ¬ atB b (works S c).pos = 43 by omega), if_pos (show atB b (works S c).pos = 122 from e)]
    by_cases hq : ((S.cp c).h.there = true ∨ 0 < (works S c).held ∨ ((S.cp c).off && !(S.cp c).h.there) = true)
    · have hst : stepS (isH its (works S c).item) b (works S c).pos (works S c).held (frOff S c) comma = (((works S c).pos, (works S c).held, frOff S c), 83) := by
        unfold stepS; rw [hfa, if_pos hq]; rfl
      rw [hst, if_pos hq]
      simp only [Int.reduceEq, if_false]
      exact congrArg _ l1
    · have hst : stepS (isH its (works S c).item) b (works S c).pos (works S c).held (frOff S c) comma = (((works S c).pos + 1, (works S c).held, frOff S c), 122) := by
        unfold stepS; rw [hfa, if_neg hq, hn, e]; rfl
      rw [hst, if_neg hq]
      simp only [if_true]
      refine congrArg _ ?_
      simp only [not_or] at hq
      obtain ⟨q1, q2, q3⟩ := hq
      have e1 : (S.cp c).h.there = false := by simpa using q1
      have e2 : (S.cp c).off = false := by
        cases e3 : (S.cp c).off
        · rfl
        · exfalso; apply q3; simp [e1, e3]
      have ew : works S c = (S.cp c).t := by unfold works; rw [if_neg q1]
      rw [ew]
      unfold layP leaves
      have e3 : ((setPl (setRd S (S.cp c).t.item true) (S.cp c).t.item ((S.cp c).t.pos + 1)).cp c).h.there = false := e1
      rw [if_neg (by rw [e3]; decide)]
      have e4 : ({ (setPl (setRd S (S.cp c).t.item true) (S.cp c).t.item ((S.cp c).t.pos + 1)).cp c with t := noFr, off := false } : Cp) = { S.cp c with t := noFr } := by
        show ({ S.cp c with t := noFr, off := false } : Cp) = _
        rw [← e2]
      rw [e4]
  · -- interrupts off, on
    have hh : hindP its S c (works S c) = 0 := by unfold hindP; rw [hB, if_neg (by omega), if_neg (by omega)]
    have hne : ¬ ((atB b (works S c).pos = 114 ∨ atB b (works S c).pos = 119) ∧ clash its S 3 c (works S c) = true) := by rintro ⟨h, _⟩; omega
    have hfa : faultP (isH its (works S c).item) b (works S c).pos (works S c).held (frOff S c) = if (S.cp c).h.there = true then 73 else 0 := by
      rw [hk]
      unfold faultP
      rw [if_neg (by omega), if_neg (by omega), if_neg (by omega), if_pos e]
    have hn : nextP b (works S c).pos (works S c).held (frOff S c) comma = ((works S c).pos + 1, (works S c).held, decide (atB b (works S c).pos = 60)) := by
      unfold nextP
      rcases e with e | e <;> simp [e]
    have hbe : behind b (works S c).pos comma = (works S c).pos + 1 := by
      unfold behind
      rw [if_neg (by omega), if_neg (by omega), if_neg (by omega), if_neg (by omega), if_neg (by omega)]
    have hal : alone b (works S c) (S.cp c).h.there (S.cp c).off comma = if (S.cp c).h.there = true then (73, works S c, (S.cp c).off) else (atB b (works S c).pos, { works S c with pos := (works S c).pos + 1 }, decide (atB b (works S c).pos = 60)) := by
      unfold alone
      rw [if_neg (by omega), if_pos e, hbe]
    rw [hh, if_neg (show ¬ ((0 : Int) ≠ 0) by decide), if_neg (show ¬ atB b (works S c).pos = 101 by omega), if_neg (show ¬ atB b (works S c).pos = 43 by omega), if_neg (show ¬ atB b (works S c).pos = 122 by omega), if_neg hne]
    unfold Mc.lone
    simp only [hB, hal]
    cases hH : (S.cp c).h.there
    · have hst : stepS (isH its (works S c).item) b (works S c).pos (works S c).held (frOff S c) comma = (((works S c).pos + 1, (works S c).held, decide (atB b (works S c).pos = 60)), atB b (works S c).pos) := by
        unfold stepS; rw [hfa, hH, hn]; rfl
      rw [hst]
      simp only [Bool.false_eq_true, if_false]
      rw [if_neg (show ¬ atB b (works S c).pos = 122 by omega), if_neg (show ¬ atB b (works S c).pos = 101 by omega), layP_off hH]
    · have hst : stepS (isH its (works S c).item) b (works S c).pos (works S c).held (frOff S c) comma = (((works S c).pos, (works S c).held, frOff S c), 73) := by
        unfold stepS; rw [hfa, hH]; rfl
      rw [hst]
      simp only [Int.reduceEq, if_false, if_true]
      rw [setOff_put, put_works]
      exact congrArg _ l1
  · -- a clash
    have hh : hindP its S c (works S c) = 82 := by unfold hindP; rw [hB, if_neg (by omega), if_pos e, if_pos hcl]
    rw [hh, if_pos (by decide), if_neg (show ¬ atB b (works S c).pos = 101 by omega), if_neg (show ¬ atB b (works S c).pos = 43 by omega), if_neg (show ¬ atB b (works S c).pos = 122 by omega), if_pos ⟨e, hcl⟩]
end Mc
end Go.Proofs.Ytecmfdkhcffpmaa
