/- PureS0, PureS1, PureA1, PureA0. -/
import Derived.Test.YtecmfdkhcffpmaaB30
import Derived.Test.YtecmfdkhcffpmaaB03
/- Plain: numbers of states; what may stand at a place. -/
namespace Go.Proofs.Ytecmfdkhcffpmaa
open Go.RowKit
set_option linter.unusedSimpArgs false
set_option linter.unusedVariables false
open Mc
/-- The number of a set of locks, as the program gives it. -/
def nTo (l : List Bool) (k : Nat) : Nat := (l.take k).foldl (fun n b => 2 * n + b.toNat) 0
def hn (h : Nat) : Nat := nTo [h.testBit 0, h.testBit 1, h.testBit 2, h.testBit 3, h.testBit 4, h.testBit 5] 6
theorem hn_lt : ∀ h, h < 64 → hn h < 64 := by decide
theorem hn_inj : ∀ h, h < 64 → ∀ h', h' < 64 → hn h = hn h' → h = h' := by decide
/-- The number of a state. -/
def sn (p h : Nat) (off : Bool) : Nat := p * 128 + 2 * hn h + off.toNat
theorem sn_inj {p h p' h' : Nat} {off off' : Bool} (hh : h < 64) (hh' : h' < 64) (e : sn p h off = sn p' h' off') : p = p' ∧ h = h' ∧ off = off' := by
  unfold sn at e
  have h1 := hn_lt h hh
  have h2 := hn_lt h' hh'
  have o1 : off.toNat ≤ 1 := Bool.toNat_le off
  have o2 : off'.toNat ≤ 1 := Bool.toNat_le off'
  have e1 : p = p' := by omega
  have e2 : hn h = hn h' := by omega
  have e3 : off.toNat = off'.toNat := by omega
  refine ⟨e1, hn_inj h hh h' hh' e2, ?_⟩
  cases off <;> cases off' <;> simp at e3 <;> rfl
theorem sn_lt {p h n : Nat} {off : Bool} (hh : h < 64) (hp : p ≤ n) : sn p h off < (n + 1) * 128 := by
  unfold sn
  have h1 := hn_lt h hh
  have o1 : off.toNat ≤ 1 := Bool.toNat_le off
  omega
/-- The bytes at which an item can stand. -/
def Stands (v : Int) : Prop := v = 43 ∨ v = 45 ∨ v = 114 ∨ v = 119 ∨ v = 60 ∨ v = 62 ∨ v = 40 ∨ v = 91 ∨ v = 124 ∨ v = 93 ∨ v = 122 ∨ v = 41 ∨ v = 101
theorem num_lockB {b : List UInt8} (hok : PairOK b) {p : Nat} (h : atB b p = 43 ∨ atB b p = 45) : 0 ≤ num b p ∧ num b p < 6 := by
  have hp : p < b.length := atB_lt (by rcases h with h | h <;> rw [h] <;> decide)
  simp only [atB, hp, if_true] at h
  obtain ⟨h1, h2, h3⟩ := (hok p hp).1 h
  rw [num, if_pos h1, if_pos h2]; omega
end Go.Proofs.Ytecmfdkhcffpmaa
/- Plain: the states that an item can come to by itself, and how the program gathers them. -/
namespace Go.Proofs.Ytecmfdkhcffpmaa
open Go.RowKit
set_option linter.unusedSimpArgs false
set_option linter.unusedVariables false
namespace Mc
open Wd
/-- A state: a place, the locks held, interrupts off. -/
abbrev St3 := Nat × Nat × Bool
/-- What a step by itself leads to. -/
def stp (hd : Bool) (b : List UInt8) (s : St3) (comma : Bool) : St3 := (stepS hd b s.1 s.2.1 s.2.2 comma).1
/-- The states of an item. -/
inductive Rch (hd : Bool) (b : List UInt8) : St3 → Prop
  | begin : Rch hd b (0, 0, hd)
  | step {s : St3} (h : Rch hd b s) (comma : Bool) : Rch hd b (stp hd b s comma)
structure GB (b : List UInt8) : Prop where
  bd : Bd b
  noUp : noUp b
  short : b.length ≤ 300
theorem Fine.gb {its : List It} (h : Fine its) {i : Nat} (hi : i < its.length) : GB (bodyOf its i) := ⟨h.bd i hi, h.noUp i hi, h.short i hi⟩
theorem GB.pair {b : List UInt8} (h : GB b) : PairOK b := pairOK_bd h.bd
theorem GB.stands {b : List UInt8} (h : GB b) {p : Nat} (hp : Pl b p) : Stands (atB b p) := by
  unfold Stands
  by_cases e : p < b.length
  · have hk := hp.kind h.bd h.noUp e
    have ha : atB b p = at_ b p := by simp [atB, e]
    rw [ha]
    unfold head4 sole at hk
    omega
  · have ha : atB b p = 101 := by simp [atB, e]
    omega
theorem GB.not101 {b : List UInt8} (h : GB b) {p : Nat} (hpl : Pl b p) (hp : p < b.length) : atB b p ≠ 101 := by
  have hk := hpl.kind h.bd h.noUp hp
  have ha : atB b p = at_ b p := by simp [atB, hp]
  rw [ha]
  unfold head4 sole at hk
  omega
theorem nextP_pos {b : List UInt8} (h : GB b) {p : Nat} (hpl : Pl b p) (hp : p < b.length) (hh : Nat) (off comma : Bool) : (nextP b p hh off comma).1 = behind b p comma := by
  have hs := h.stands hpl
  have h101 := h.not101 hpl hp
  unfold Stands at hs
  by_cases e43 : atB b p = 43
  · simp [nextP, behind, e43]
  by_cases e45 : atB b p = 45
  · simp [nextP, behind, e45]
  by_cases e60 : atB b p = 60
  · simp [nextP, behind, e60]
  by_cases e62 : atB b p = 62
  · simp [nextP, behind, e62]
  rw [nextP_plain h.bd hp hh off comma (by omega)]
theorem nextP_end {b : List UInt8} {p : Nat} (hp : ¬ p < b.length) (hh : Nat) (off comma : Bool) : nextP b p hh off comma = (p, hh, off) := by
  have ha : atB b p = 101 := by simp [atB, hp]
  simp [nextP, ha]
theorem nextP_held {b : List UInt8} (h : PairOK b) {p hh : Nat} {hd off comma : Bool} (hb : hh < 64) (hf : faultP hd b p hh off = 0) : (nextP b p hh off comma).2.1 < 64 := by
  unfold nextP
  by_cases e43 : atB b p = 43
  · rw [if_pos e43]
    have hn := num_lockB h (Or.inl e43)
    refine bits_add hh hb _ (by omega) ?_
    unfold faultP at hf
    rw [if_pos e43, hasB_num h (Or.inl e43)] at hf
    cases hq : holds hh (num b p).toNat
    · exact hq
    · rw [hq] at hf; simp at hf
  rw [if_neg e43]
  by_cases e45 : atB b p = 45
  · rw [if_pos e45]
    exact Nat.lt_of_le_of_lt (Nat.sub_le _ _) hb
  rw [if_neg e45]
  repeat' split
  all_goals exact hb
/-- What holds of a state. -/
def SOK (b : List UInt8) (s : St3) : Prop := s.2.1 < 64 ∧ Pl b s.1
theorem SOK.stp {b : List UInt8} (hg : GB b) {hd : Bool} {s : St3} (h : SOK b s) (comma : Bool) : SOK b (stp hd b s comma) := by
  unfold Mc.stp stepS
  by_cases hf : faultP hd b s.1 s.2.1 s.2.2 = 0
  · rw [if_pos hf]
    refine ⟨nextP_held hg.pair h.1 hf, ?_⟩
    by_cases hp : s.1 < b.length
    · show Pl b (nextP b s.1 s.2.1 s.2.2 comma).1
      rw [nextP_pos hg h.2 hp]
      exact behind_pl hg.bd s.1 h.2 hp comma
    · show Pl b (nextP b s.1 s.2.1 s.2.2 comma).1
      rw [nextP_end hp]; exact h.2
  · rw [if_neg hf]; exact h
theorem Rch.ok {b : List UInt8} (hg : GB b) {hd : Bool} {s : St3} (h : Rch hd b s) : SOK b s := by
  induction h with
  | begin => exact ⟨by show 0 < 64; decide, Pl.zero b⟩
  | step _ c ih => exact ih.stp hg c
/-- A state that was reached: the number of the one from which the step goes, by which way. -/
structure Rc where
  p : Nat
  h : Nat
  off : Bool
  fr : Nat
  comma : Bool
def Rc.st (r : Rc) : St3 := (r.p, r.h, r.off)
def Rc.sn (r : Rc) : Nat := Go.Proofs.Ytecmfdkhcffpmaa.sn r.p r.h r.off
/-- What holds of the list while it grows. -/
structure RI (hd : Bool) (b : List UInt8) (L : List Rc) (i way : Nat) (f : Nat → Bool) : Prop where
  head : L[0]? = some ⟨0, 0, hd, 0, false⟩
  back : ∀ (j : Nat) (r : Rc), 0 < j → L[j]? = some r → ∃ q : Rc, r.fr < j ∧ L[r.fr]? = some q ∧ r.st = stp hd b q.st r.comma
  done : ∀ (j : Nat) (q : Rc), L[j]? = some q → j < i → ∀ c, ∃ r ∈ L, r.st = stp hd b q.st c
  half : way = 1 → ∀ q : Rc, L[i]? = some q → ∃ r ∈ L, r.st = stp hd b q.st false
  seen : ∀ m, f m = true ↔ ∃ r ∈ L, r.sn = m
  nd : (L.map Rc.sn).Nodup
theorem RI.rch {hd : Bool} {b : List UInt8} {L : List Rc} {i way : Nat} {f : Nat → Bool} (h : RI hd b L i way f) : ∀ (j : Nat) (r : Rc), L[j]? = some r → Rch hd b r.st := by
  intro j
  induction j using Nat.strongRecOn with
  | ind j ih =>
    intro r hr
    by_cases h0 : j = 0
    · subst h0
      rw [h.head] at hr
      cases hr
      exact Rch.begin
    · obtain ⟨q, h1, h2, h3⟩ := h.back j r (by omega) hr
      rw [h3]
      exact (ih _ h1 q h2).step _
theorem RI.ok {hd : Bool} {b : List UInt8} {L : List Rc} {i way : Nat} {f : Nat → Bool} (hg : GB b) (h : RI hd b L i way f) {r : Rc} (hr : r ∈ L) : SOK b r.st := by
  obtain ⟨j, hj⟩ := List.getElem?_of_mem hr
  exact (h.rch j r hj).ok hg
theorem nodup_len : ∀ (N : Nat) (l : List Nat), l.Nodup → (∀ x ∈ l, x < N) → l.length ≤ N
  | 0, l, _, h => by
    cases l with
    | nil => exact Nat.le_refl _
    | cons a r => exact absurd (h a (by simp)) (by omega)
  | N + 1, l, hn, h => by
    by_cases e : N ∈ l
    · have h1 := nodup_len N (l.erase N) (hn.erase N) (fun x hx => by
        have h2 := h x (List.mem_of_mem_erase hx)
        have h3 : x ≠ N := fun e => by subst e; exact (hn.not_mem_erase hx)
        omega)
      rw [List.length_erase_of_mem e] at h1
      have := List.length_pos_of_mem e
      omega
    · have := nodup_len N l hn (fun x hx => by
        have h2 := h x hx
        have h3 : x ≠ N := fun e' => by subst e'; exact e hx
        omega)
      omega
theorem RI.len {hd : Bool} {b : List UInt8} {L : List Rc} {i way : Nat} {f : Nat → Bool} (hg : GB b) (h : RI hd b L i way f) : L.length ≤ (b.length + 1) * 128 := by
  have := nodup_len ((b.length + 1) * 128) (L.map Rc.sn) h.nd (fun x hx => by
    obtain ⟨r, hr, rfl⟩ := List.mem_map.1 hx
    have hk := h.ok hg hr
    exact sn_lt hk.1 hk.2.le)
  simpa using this
theorem sn_st {b : List UInt8} {r q : Rc} (hr : SOK b r.st) (hq : SOK b q.st) (e : r.sn = q.sn) : r.st = q.st := by
  obtain ⟨h1, h2, h3⟩ := sn_inj hr.1 hq.1 e
  show (r.p, r.h, r.off) = (q.p, q.h, q.off)
  have h2' : r.h = q.h := h2
  rw [h1, h2', h3]
theorem RI.beg {hd : Bool} {b : List UInt8} {f : Nat → Bool} (hf : ∀ m, f m = decide (m = sn 0 0 hd)) : RI hd b [⟨0, 0, hd, 0, false⟩] 0 0 f := by
  refine ⟨rfl, fun j r hj hr => ?_, fun j q _ hj => by omega, fun h => by omega, fun m => ?_, by simp⟩
  · rw [List.getElem?_eq_none (by simp; omega)] at hr; cases hr
  · rw [hf]; simp [Rc.sn]; exact ⟨fun h => h.symm, fun h => h.symm⟩
def snS (s : St3) : Nat := sn s.1 s.2.1 s.2.2
/-- A state that is seen already adds nothing. -/
theorem RI.seenB {hd : Bool} {b : List UInt8} {L : List Rc} {i way : Nat} {f : Nat → Bool} (hg : GB b) (h : RI hd b L i way f) {s : St3} (hs : SOK b s) (hf : f (snS s) = true) : ∃ r ∈ L, r.st = s := by
  obtain ⟨r, hr, e⟩ := (h.seen _).1 hf
  refine ⟨r, hr, ?_⟩
  exact sn_st (q := ⟨s.1, s.2.1, s.2.2, 0, false⟩) (h.ok hg hr) hs e
theorem RI.same {hd : Bool} {b : List UInt8} {L : List Rc} {i way : Nat} {f : Nat → Bool} (h : RI hd b L i way f) {m : Nat} (hf : f m = true) : RI hd b L i way (fun x => decide (x = m) || f x) := by
  refine ⟨h.head, h.back, h.done, h.half, fun x => ?_, h.nd⟩
  rw [← h.seen x]
  by_cases e : x = m
  · subst e; simp [hf]
  · simp [e]
theorem RI.push {hd : Bool} {b : List UInt8} {L : List Rc} {i way : Nat} {f : Nat → Bool} (h : RI hd b L i way f) {q : Rc} (hq : L[i]? = some q) (c : Bool) {sp sh : Nat} {so : Bool} (hs : stp hd b q.st c = (sp, sh, so)) (hf : f (sn sp sh so) = false) :
    RI hd b (L ++ [⟨sp, sh, so, i, c⟩]) i way (fun x => decide (x = sn sp sh so) || f x) := by
  have hi : i < L.length := (List.getElem?_eq_some_iff.1 hq).1
  have old : ∀ (j : Nat) (r : Rc), L[j]? = some r → (L ++ [(⟨sp, sh, so, i, c⟩ : Rc)])[j]? = some r := fun j r hr => by
    rw [List.getElem?_append_left (List.getElem?_eq_some_iff.1 hr).1]; exact hr
  have back : ∀ (j : Nat) (r : Rc), j < L.length → (L ++ [(⟨sp, sh, so, i, c⟩ : Rc)])[j]? = some r → L[j]? = some r := fun j r hj hr => by
    rw [List.getElem?_append_left hj] at hr; exact hr
  refine ⟨old _ _ h.head, fun j r hj hr => ?_, fun j x hx hj cc => ?_, fun hw x hx => ?_, fun m => ?_, ?_⟩
  · by_cases hl : j < L.length
    · obtain ⟨x, h1, h2, h3⟩ := h.back j r hj (back j r hl hr)
      exact ⟨x, h1, old _ _ h2, h3⟩
    · rw [List.getElem?_append_right (by omega)] at hr
      have e : j - L.length = 0 := by
        by_cases e : j - L.length = 0
        · exact e
        · rw [List.getElem?_eq_none (by simp; omega)] at hr; cases hr
      rw [e] at hr
      cases hr
      exact ⟨q, by show i < j; omega, old _ _ hq, hs.symm⟩
  · obtain ⟨r, hr, e⟩ := h.done j x (back j x (by omega) hx) hj cc
    exact ⟨r, List.mem_append_left _ hr, e⟩
  · obtain ⟨r, hr, e⟩ := h.half hw x (back i x hi hx)
    exact ⟨r, List.mem_append_left _ hr, e⟩
  · constructor
    · intro hm
      simp only [Bool.or_eq_true, decide_eq_true_eq] at hm
      rcases hm with e | e
      · exact ⟨⟨sp, sh, so, i, c⟩, List.mem_append_right _ (by simp), e.symm⟩
      · obtain ⟨r, hr, e2⟩ := (h.seen m).1 e
        exact ⟨r, List.mem_append_left _ hr, e2⟩
    · rintro ⟨r, hr, e⟩
      simp only [Bool.or_eq_true, decide_eq_true_eq]
      rcases List.mem_append.1 hr with hr | hr
      · exact Or.inr ((h.seen m).2 ⟨r, hr, e⟩)
      · have hr' : r = ⟨sp, sh, so, i, c⟩ := by simpa using hr
        subst hr'
        exact Or.inl e.symm
  · rw [List.map_append, List.nodup_append]
    refine ⟨h.nd, by simp, ?_⟩
    intro x hx y hy e
    subst e
    have hy' : x = sn sp sh so := by simpa [Rc.sn] using hy
    obtain ⟨r, hr, e2⟩ := List.mem_map.1 hx
    have := (h.seen x).2 ⟨r, hr, e2⟩
    rw [hy', hf] at this
    cases this
theorem RI.to1 {hd : Bool} {b : List UInt8} {L : List Rc} {i : Nat} {f : Nat → Bool} (h : RI hd b L i 0 f) {q : Rc} (hq : L[i]? = some q) (hr : ∃ r ∈ L, r.st = stp hd b q.st false) : RI hd b L i 1 f :=
  ⟨h.head, h.back, h.done, fun _ x hx => by rw [hq] at hx; cases hx; exact hr, h.seen, h.nd⟩
theorem RI.to0 {hd : Bool} {b : List UInt8} {L : List Rc} {i : Nat} {f : Nat → Bool} (h : RI hd b L i 1 f) {q : Rc} (hq : L[i]? = some q) (hr : ∃ r ∈ L, r.st = stp hd b q.st true) : RI hd b L (i + 1) 0 f := by
  refine ⟨h.head, h.back, fun j x hx hj c => ?_, fun h => by omega, h.seen, h.nd⟩
  by_cases e : j = i
  · subst e
    rw [hq] at hx; cases hx
    cases c
    · exact h.half rfl q hq
    · exact hr
  · exact h.done j x hx (by omega) c
/-- At the end the list has all states, and no other. -/
theorem RI.all {hd : Bool} {b : List UInt8} {L : List Rc} {i : Nat} {f : Nat → Bool} (h : RI hd b L i 0 f) (hi : L.length ≤ i) (s : St3) : Rch hd b s ↔ ∃ r ∈ L, r.st = s := by
  constructor
  · intro hs
    induction hs with
    | begin => exact ⟨_, List.mem_of_getElem? h.head, rfl⟩
    | step _ c ih =>
      obtain ⟨r, hr, e⟩ := ih
      obtain ⟨j, hj⟩ := List.getElem?_of_mem hr
      have := (List.getElem?_eq_some_iff.1 hj).1
      obtain ⟨x, hx, ex⟩ := h.done j r hj (by omega) c
      exact ⟨x, hx, by rw [ex, e]⟩
  · rintro ⟨r, hr, rfl⟩
    obtain ⟨j, hj⟩ := List.getElem?_of_mem hr
    exact h.rch j r hj
end Mc
end Go.Proofs.Ytecmfdkhcffpmaa
/- Plain: tables, rings, races. -/
namespace Go.Proofs.Ytecmfdkhcffpmaa
open Go.RowKit
set_option linter.unusedSimpArgs false
set_option linter.unusedVariables false
/-- A report: kind, item, place. -/
abbrev Rp := Int × Int × Int
/-- A table from lock to lock. -/
abbrev Tb := Nat → Nat → Bool
/-- One cell of a table is set. -/
def upT (T : Tb) (i j : Nat) (v : Bool) : Tb := fun l m => if l = i ∧ m = j then v else T l m
def fwJ (T : Tb) (k i : Nat) : Nat → Tb
  | 0 => T
  | j + 1 => upT (fwJ T k i j) i j (fwJ T k i j i j || (fwJ T k i j i k && fwJ T k i j k j))
def fwI (T : Tb) (k : Nat) : Nat → Tb
  | 0 => T
  | i + 1 => fwJ (fwI T k i) k i 6
def fwK (T : Tb) : Nat → Tb
  | 0 => T
  | k + 1 => fwI (fwK T k) k 6
/-- The rows of a table that was gone round: the reports of rings below n. -/
def ringL (T : Tb) (n : Nat) : List Rp := ((List.range n).filter (fun l => T l l)).map (fun l => (6, -1, ((l : Nat) : Int)))
theorem ringL_yes (T : Tb) (n : Nat) (h : T n n = true) : ringL T (n + 1) = ringL T n ++ [(6, -1, ((n : Nat) : Int))] := by
  simp [ringL, List.range_succ, List.filter_append, List.filter, h]
theorem ringL_no (T : Tb) (n : Nat) (h : T n n = false) : ringL T (n + 1) = ringL T n := by
  simp [ringL, List.range_succ, List.filter_append, List.filter, h]
theorem ringL_len (T : Tb) (n : Nat) : (ringL T n).length ≤ n := by
  unfold ringL
  rw [List.length_map]
  have := List.length_filter_le (fun l => T l l) (List.range n)
  simpa using this
/-- With which locks held an item writes, and goes at all, to a cell. -/
structure Vi where
  wr : Nat → Bool
  ei : Nat → Bool
def raceL (P : Nat → Bool) (n : Nat) : List Rp := ((List.range n).filter P).map (fun c => (7, -1, ((c : Nat) : Int)))
theorem raceL_yes (P : Nat → Bool) (n : Nat) (h : P n = true) : raceL P (n + 1) = raceL P n ++ [(7, -1, ((n : Nat) : Int))] := by
  simp [raceL, List.range_succ, List.filter_append, List.filter, h]
theorem raceL_no (P : Nat → Bool) (n : Nat) (h : P n = false) : raceL P (n + 1) = raceL P n := by
  simp [raceL, List.range_succ, List.filter_append, List.filter, h]
theorem raceL_len (P : Nat → Bool) (n : Nat) : (raceL P n).length ≤ n := by
  unfold raceL
  rw [List.length_map]
  have := List.length_filter_le P (List.range n)
  simpa using this
theorem raceL_congr (P Q : Nat → Bool) (n : Nat) (h : ∀ p, p < n → P p = Q p) : raceL P n = raceL Q n := by
  unfold raceL
  rw [List.filter_congr (fun p hp => h p (List.mem_range.1 hp))]
end Go.Proofs.Ytecmfdkhcffpmaa
/- Plain: kinds of reports; what the program gathers from the states of items. -/
namespace Go.Proofs.Ytecmfdkhcffpmaa
open Go.RowKit
set_option linter.unusedSimpArgs false
set_option linter.unusedVariables false
open Mc
/-- The kind of a letter. -/
def kindP (f : Int) : Int := if f = 68 then 1 else if f = 85 then 2 else if f = 83 then 3 else if f = 69 then 4 else if f = 73 then 5 else 0
theorem faultP_vals (hd : Bool) (b : List UInt8) (p h : Nat) (off : Bool) : faultP hd b p h off = 0 ∨ faultP hd b p h off = 68 ∨ faultP hd b p h off = 85 ∨ faultP hd b p h off = 83 ∨ faultP hd b p h off = 69 ∨ faultP hd b p h off = 73 := by
  unfold faultP
  repeat' split
  all_goals simp
/-- The kind of a state's report; 0: there is none. -/
def kd (hd : Bool) (b : List UInt8) (s : St3) : Int := kindP (faultP hd b s.1 s.2.1 s.2.2)
theorem kd_bd (hd : Bool) (b : List UInt8) (s : St3) : 0 ≤ kd hd b s ∧ kd hd b s ≤ 5 := by
  unfold kd kindP
  repeat' split
  all_goals omega
/-- There is a report of kind k at place p. -/
def BadAt (hd : Bool) (b : List UInt8) (k : Int) (p : Nat) : Prop := ∃ h off, Rch hd b (p, h, off) ∧ kd hd b (p, h, off) = k
/-- What the program writes down by places. -/
def kUp (hd : Bool) (b : List UInt8) (f : Nat → Int) (r : Rc) : Nat → Int := fun p => if p = r.p ∧ kd hd b r.st ≠ 0 then kd hd b r.st else f p
def kAt (hd : Bool) (b : List UInt8) (L : List Rc) : Nat → Int := L.foldl (kUp hd b) (fun _ => 0)
/-- The reports of one kind of one item, of the places below n. -/
def soloRow (P : Nat → Bool) (k i : Nat) (n : Nat) : List Rp := ((List.range n).filter P).map (fun p => ((k : Int), (i : Int), ((p : Nat) : Int)))
theorem soloRow_zero (P : Nat → Bool) (k i : Nat) : soloRow P k i 0 = [] := rfl
theorem soloRow_yes (P : Nat → Bool) (k i n : Nat) (h : P n = true) : soloRow P k i (n + 1) = soloRow P k i n ++ [((k : Int), (i : Int), ((n : Nat) : Int))] := by
  simp [soloRow, List.range_succ, List.filter_append, List.filter, h]
theorem soloRow_no (P : Nat → Bool) (k i n : Nat) (h : P n = false) : soloRow P k i (n + 1) = soloRow P k i n := by
  simp [soloRow, List.range_succ, List.filter_append, List.filter, h]
theorem soloRow_congr (P Q : Nat → Bool) (k i n : Nat) (h : ∀ p, p < n → P p = Q p) : soloRow P k i n = soloRow Q k i n := by
  unfold soloRow
  rw [List.filter_congr (fun p hp => h p (List.mem_range.1 hp))]
theorem soloRow_len (P : Nat → Bool) (k i n : Nat) : (soloRow P k i n).length ≤ n := by
  unfold soloRow
  rw [List.length_map]
  have := List.length_filter_le P (List.range n)
  simpa using this
/-- The reports of one kind, of the items below m. -/
def soloK (P : Nat → Nat → Nat → Bool) (N : Nat → Nat) (k m : Nat) : List Rp := (List.range m).flatMap (fun i => soloRow (P k i) k i (N i))
theorem soloK_succ (P : Nat → Nat → Nat → Bool) (N : Nat → Nat) (k m : Nat) : soloK P N k (m + 1) = soloK P N k m ++ soloRow (P k m) k m (N m) := by
  simp [soloK, List.range_succ]
theorem soloK_len (P : Nat → Nat → Nat → Bool) (N : Nat → Nat) (k m : Nat) (h : ∀ i, i < m → N i ≤ 301) : (soloK P N k m).length ≤ m * 301 := by
  induction m with
  | zero => simp [soloK]
  | succ m ih =>
    rw [soloK_succ, List.length_append]
    have h1 := ih (fun i hi => h i (by omega))
    have h2 := soloRow_len (P k m) k m (N m)
    have h3 := h m (by omega)
    omega
/-- The reports of the kinds 1 to n. -/
def solos (P : Nat → Nat → Nat → Bool) (N : Nat → Nat) (m n : Nat) : List Rp := (List.range n).flatMap (fun k => soloK P N (k + 1) m)
theorem solos_succ (P : Nat → Nat → Nat → Bool) (N : Nat → Nat) (m n : Nat) : solos P N m (n + 1) = solos P N m n ++ soloK P N (n + 1) m := by
  simp [solos, List.range_succ]
theorem solos_len (P : Nat → Nat → Nat → Bool) (N : Nat → Nat) (m n : Nat) (h : ∀ i, i < m → N i ≤ 301) : (solos P N m n).length ≤ n * (m * 301) := by
  induction n with
  | zero => simp [solos]
  | succ n ih =>
    rw [solos_succ, List.length_append, Nat.succ_mul]
    have := soloK_len P N (n + 1) m h
    omega
end Go.Proofs.Ytecmfdkhcffpmaa
