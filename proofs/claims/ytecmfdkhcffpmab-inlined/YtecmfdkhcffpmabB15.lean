/- PureA3, PureR1. -/
import Derived.Test.YtecmfdkhcffpmabB14
/- Plain: what the program's edges and races mean. -/
namespace Go.Proofs.Ytecmfdkhcffpmab
open Go.RowKit
set_option linter.unusedSimpArgs false
set_option linter.unusedVariables false
open Mc
theorem efOp_bit (hd off : Bool) (op h l : Nat) : (efOp hd off op h).testBit l = (op.testBit l || (!hd && !off && h.testBit l)) := by
  unfold efOp
  cases hd <;> cases off <;> simp
theorem efTk_bit (hd : Bool) (tk t l : Nat) : (efTk hd tk t).testBit l = (tk.testBit l || (hd && t.testBit l)) := by
  unfold efTk
  cases hd <;> simp
theorem efItem_T (k : Kp3) (l m : Nat) : ∀ z : Ef, (efItem z k).T l m = (z.T l m || k.L.any (fun r => r.h.testBit l && (tkP k.b r.p r.h).testBit m)) := by
  unfold efItem
  induction k.L with
  | nil => intro z; simp
  | cons r L ih => intro z; rw [List.foldl_cons, ih]; simp [efStep, withT, Bool.or_assoc]
theorem efItem_op (k : Kp3) (l : Nat) : ∀ z : Ef, (efItem z k).op.testBit l = (z.op.testBit l || k.L.any (fun r => !k.hd && !r.off && r.h.testBit l)) := by
  unfold efItem
  induction k.L with
  | nil => intro z; simp
  | cons r L ih => intro z; rw [List.foldl_cons, ih]; simp [efStep, efOp_bit, Bool.or_assoc]
theorem efItem_tk (k : Kp3) (l : Nat) : ∀ z : Ef, (efItem z k).tk.testBit l = (z.tk.testBit l || k.L.any (fun r => k.hd && (tkP k.b r.p r.h).testBit l)) := by
  unfold efItem
  induction k.L with
  | nil => intro z; simp
  | cons r L ih => intro z; rw [List.foldl_cons, ih]; simp [efStep, efTk_bit, Bool.or_assoc]
theorem efFold_T (l m : Nat) (K : List Kp3) : ∀ z : Ef, (K.foldl efItem z).T l m = (z.T l m || K.any (fun k => k.L.any (fun r => r.h.testBit l && (tkP k.b r.p r.h).testBit m))) := by
  induction K with
  | nil => intro z; simp
  | cons k K ih => intro z; rw [List.foldl_cons, ih, efItem_T, List.any_cons, Bool.or_assoc]
theorem efFold_op (l : Nat) (K : List Kp3) : ∀ z : Ef, (K.foldl efItem z).op.testBit l = (z.op.testBit l || K.any (fun k => k.L.any (fun r => !k.hd && !r.off && r.h.testBit l))) := by
  induction K with
  | nil => intro z; simp
  | cons k K ih => intro z; rw [List.foldl_cons, ih, efItem_op, List.any_cons, Bool.or_assoc]
theorem efFold_tk (l : Nat) (K : List Kp3) : ∀ z : Ef, (K.foldl efItem z).tk.testBit l = (z.tk.testBit l || K.any (fun k => k.L.any (fun r => k.hd && (tkP k.b r.p r.h).testBit l))) := by
  induction K with
  | nil => intro z; simp
  | cons k K ih => intro z; rw [List.foldl_cons, ih, efItem_tk, List.any_cons, Bool.or_assoc]
/-- An edge by an item's own state; a lock open to handlers; a lock that a handler takes. -/
def EdgeI (hd : Bool) (b : List UInt8) (l m : Nat) : Prop := ∃ s : St3, Rch hd b s ∧ s.2.1.testBit l = true ∧ (tkP b s.1 s.2.1).testBit m = true
def OpenI (hd : Bool) (b : List UInt8) (l : Nat) : Prop := hd = false ∧ ∃ s : St3, Rch hd b s ∧ s.2.2 = false ∧ s.2.1.testBit l = true
def TakenI (hd : Bool) (b : List UInt8) (m : Nat) : Prop := hd = true ∧ ∃ s : St3, Rch hd b s ∧ (tkP b s.1 s.2.1).testBit m = true
/-- An edge of a source. -/
def Eg (its : List Wd.It) (l m : Nat) : Prop := (∃ i, i < its.length ∧ EdgeI (isH its i) (bodyOf its i) l m) ∨ ((∃ i, i < its.length ∧ OpenI (isH its i) (bodyOf its i) l) ∧ (∃ j, j < its.length ∧ TakenI (isH its j) (bodyOf its j) m))
/-- What is known belongs to the items. -/
structure KOf (its : List Wd.It) (K : List Kp3) : Prop where
  len : K.length = its.length
  at_ : ∀ (i : Nat) (k : Kp3), K[i]? = some k → k.hd = isH its i ∧ k.b = bodyOf its i ∧ ∀ s, Rch k.hd k.b s ↔ ∃ r ∈ k.L, r.st = s
theorem KOf.any {its : List Wd.It} {K : List Kp3} (h : KOf its K) (P : Kp3 → Bool) (Q : Nat → Prop) (hq : ∀ i k, K[i]? = some k → (P k = true ↔ Q i)) : K.any P = true ↔ ∃ i, i < its.length ∧ Q i := by
  rw [List.any_eq_true]
  constructor
  · rintro ⟨k, hk, e⟩
    obtain ⟨i, hi⟩ := List.getElem?_of_mem hk
    exact ⟨i, by rw [← h.len]; exact (List.getElem?_eq_some_iff.1 hi).1, (hq i k hi).1 e⟩
  · rintro ⟨i, hi, e⟩
    have hi' : i < K.length := by rw [h.len]; exact hi
    exact ⟨K[i], List.getElem_mem hi', (hq i K[i] (List.getElem?_eq_getElem hi')).2 e⟩
theorem any_rch {k : Kp3} (h : ∀ s, Rch k.hd k.b s ↔ ∃ r ∈ k.L, r.st = s) (P : Rc → Bool) (Q : St3 → Prop) (hq : ∀ r : Rc, P r = true ↔ Q r.st) : k.L.any P = true ↔ ∃ s : St3, Rch k.hd k.b s ∧ Q s := by
  rw [List.any_eq_true]
  constructor
  · rintro ⟨r, hr, e⟩
    exact ⟨r.st, (h _).2 ⟨r, hr, rfl⟩, (hq r).1 e⟩
  · rintro ⟨s, hs, e⟩
    obtain ⟨r, hr, rfl⟩ := (h s).1 hs
    exact ⟨r, hr, (hq r).2 e⟩
theorem edgesP_iff {its : List Wd.It} {K : List Kp3} (h : KOf its K) (l m : Nat) : edgesP K l m = true ↔ Eg its l m := by
  unfold edgesP withT efAll
  rw [efFold_T, efFold_op, efFold_tk]
  simp only [Nat.zero_testBit, Bool.false_or, Bool.or_eq_true, Bool.and_eq_true]
  refine or_congr ?_ (and_congr ?_ ?_)
  · refine h.any _ (fun i => EdgeI (isH its i) (bodyOf its i) l m) (fun i k hk => ?_)
    obtain ⟨e1, e2, e3⟩ := h.at_ i k hk
    rw [← e1, ← e2]
    exact any_rch e3 _ (fun s => s.2.1.testBit l = true ∧ (tkP k.b s.1 s.2.1).testBit m = true) (fun r => by simp [Rc.st])
  · refine h.any _ (fun i => OpenI (isH its i) (bodyOf its i) l) (fun i k hk => ?_)
    obtain ⟨e1, e2, e3⟩ := h.at_ i k hk
    rw [← e1, ← e2]
    unfold OpenI
    rw [any_rch e3 _ (fun s => k.hd = false ∧ s.2.2 = false ∧ s.2.1.testBit l = true) (fun r => by simp [Rc.st, and_assoc])]
    constructor
    · rintro ⟨s, a, b, c⟩; exact ⟨b, s, a, c⟩
    · rintro ⟨b, s, a, c⟩; exact ⟨s, a, b, c⟩
  · refine h.any _ (fun i => TakenI (isH its i) (bodyOf its i) m) (fun i k hk => ?_)
    obtain ⟨e1, e2, e3⟩ := h.at_ i k hk
    rw [← e1, ← e2]
    unfold TakenI
    rw [any_rch e3 _ (fun s => k.hd = true ∧ (tkP k.b s.1 s.2.1).testBit m = true) (fun r => by simp [Rc.st])]
    constructor
    · rintro ⟨s, a, b, c⟩; exact ⟨b, s, a, c⟩
    · rintro ⟨b, s, a, c⟩; exact ⟨s, a, b, c⟩
/-- At a cell, writing or not. -/
def AtC (b : List UInt8) (c p : Nat) : Prop := (atB b p = 114 ∨ atB b p = 119) ∧ numP b p = (c : Int)
theorem visP_snoc (b : List UInt8) (c : Nat) (L : List Rc) (r : Rc) : visP b c (L ++ [r]) = viStep b c (visP b c L) r := by simp [visP]
theorem visP_ei (b : List UInt8) (c x : Nat) (R : List Rc) : (visP b c R.reverse).ei x = true ↔ ∃ r ∈ R, AtC b c r.p ∧ hn r.h = x := by
  induction R with
  | nil => simp [visP]
  | cons r R ih =>
    rw [List.reverse_cons, visP_snoc]
    unfold viStep
    by_cases h : (atB b r.p = 114 ∨ atB b r.p = 119) ∧ numP b r.p = (c : Int)
    · rw [if_pos h]
      by_cases hx : x = hn r.h
      · simp only [hx, if_true, true_iff]
        exact ⟨r, by simp, h, rfl⟩
      · simp only [hx, if_false, ih]
        constructor
        · rintro ⟨q, hq, e⟩; exact ⟨q, by simp [hq], e⟩
        · rintro ⟨q, hq, e⟩
          rcases List.mem_cons.1 hq with rfl | hq
          · exact absurd e.2.symm hx
          · exact ⟨q, hq, e⟩
    · rw [if_neg h, ih]
      constructor
      · rintro ⟨q, hq, e⟩; exact ⟨q, by simp [hq], e⟩
      · rintro ⟨q, hq, e⟩
        rcases List.mem_cons.1 hq with rfl | hq
        · exact absurd e.1 h
        · exact ⟨q, hq, e⟩
theorem visP_wr (b : List UInt8) (c x : Nat) (R : List Rc) : (visP b c R.reverse).wr x = true ↔ ∃ r ∈ R, (AtC b c r.p ∧ atB b r.p = 119) ∧ hn r.h = x := by
  induction R with
  | nil => simp [visP]
  | cons r R ih =>
    rw [List.reverse_cons, visP_snoc]
    unfold viStep
    by_cases h : (atB b r.p = 114 ∨ atB b r.p = 119) ∧ numP b r.p = (c : Int)
    · rw [if_pos h]
      by_cases hx : x = hn r.h
      · simp only [hx, if_true, Bool.or_eq_true, decide_eq_true_eq]
        rw [← hx, ih]
        constructor
        · rintro (⟨q, hq, e⟩ | e)
          · exact ⟨q, by simp [hq], e⟩
          · exact ⟨r, by simp, ⟨h, e⟩, hx.symm⟩
        · rintro ⟨q, hq, e⟩
          rcases List.mem_cons.1 hq with rfl | hq
          · exact Or.inr e.1.2
          · exact Or.inl ⟨q, hq, e⟩
      · simp only [hx, if_false, ih]
        constructor
        · rintro ⟨q, hq, e⟩; exact ⟨q, by simp [hq], e⟩
        · rintro ⟨q, hq, e⟩
          rcases List.mem_cons.1 hq with rfl | hq
          · exact absurd e.2.symm hx
          · exact ⟨q, hq, e⟩
    · rw [if_neg h, ih]
      constructor
      · rintro ⟨q, hq, e⟩; exact ⟨q, by simp [hq], e⟩
      · rintro ⟨q, hq, e⟩
        rcases List.mem_cons.1 hq with rfl | hq
        · exact absurd e.1.1 h
        · exact ⟨q, hq, e⟩
theorem visP_ei' (b : List UInt8) (c x : Nat) (L : List Rc) : (visP b c L).ei x = true ↔ ∃ r ∈ L, AtC b c r.p ∧ hn r.h = x := by
  have := visP_ei b c x L.reverse
  rw [List.reverse_reverse] at this
  simpa using this
theorem visP_wr' (b : List UInt8) (c x : Nat) (L : List Rc) : (visP b c L).wr x = true ↔ ∃ r ∈ L, (AtC b c r.p ∧ atB b r.p = 119) ∧ hn r.h = x := by
  have := visP_wr b c x L.reverse
  rw [List.reverse_reverse] at this
  simpa using this
/-- One writes, the other is at the same cell, and no lock is held by both. -/
def Meet (h1 : Bool) (b1 : List UInt8) (h2 : Bool) (b2 : List UInt8) (c : Nat) : Prop := ∃ s t : St3, Rch h1 b1 s ∧ Rch h2 b2 t ∧ (AtC b1 c s.1 ∧ atB b1 s.1 = 119) ∧ AtC b2 c t.1 ∧ s.2.1 &&& t.2.1 = 0
structure KpOK (k : Kp3) : Prop where
  all : ∀ s, Rch k.hd k.b s ↔ ∃ r ∈ k.L, r.st = s
  low : ∀ r ∈ k.L, r.h < 64
theorem clashV_iff {k o : Kp3} (hk : KpOK k) (ho : KpOK o) (c : Nat) : clashV (visP k.b c k.L) (visP o.b c o.L) = true ↔ Meet k.hd k.b o.hd o.b c ∨ Meet o.hd o.b k.hd k.b c := by
  unfold clashV
  simp only [List.any_eq_true, List.mem_range, Bool.and_eq_true, decide_eq_true_eq, Bool.or_eq_true]
  constructor
  · rintro ⟨x, hx, y, hy, ⟨⟨h1, h2⟩, h3⟩, h4⟩
    rw [visP_ei'] at h1 h2
    obtain ⟨r, hr, e1, e2⟩ := h1
    obtain ⟨q, hq, e3, e4⟩ := h2
    rcases h4 with h4 | h4
    · rw [visP_wr'] at h4
      obtain ⟨r', hr', e5, e6⟩ := h4
      refine Or.inl ⟨r'.st, q.st, (hk.all _).2 ⟨r', hr', rfl⟩, (ho.all _).2 ⟨q, hq, rfl⟩, e5, e3, ?_⟩
      exact (hn_disj r'.h (hk.low r' hr') q.h (ho.low q hq)).1 (by rw [e6, e4]; exact h3)
    · rw [visP_wr'] at h4
      obtain ⟨q', hq', e5, e6⟩ := h4
      refine Or.inr ⟨q'.st, r.st, (ho.all _).2 ⟨q', hq', rfl⟩, (hk.all _).2 ⟨r, hr, rfl⟩, e5, e1, ?_⟩
      refine (hn_disj q'.h (ho.low q' hq') r.h (hk.low r hr)).1 ?_
      rw [e6, e2, Nat.and_comm]; exact h3
  · rintro (⟨s, t, hs, ht, h1, h2, h3⟩ | ⟨s, t, hs, ht, h1, h2, h3⟩)
    · obtain ⟨r, hr, rfl⟩ := (hk.all s).1 hs
      obtain ⟨q, hq, rfl⟩ := (ho.all t).1 ht
      refine ⟨hn r.h, hn_lt _ (hk.low r hr), hn q.h, hn_lt _ (ho.low q hq), ⟨⟨?_, ?_⟩, ?_⟩, Or.inl ?_⟩
      · rw [visP_ei']; exact ⟨r, hr, h1.1, rfl⟩
      · rw [visP_ei']; exact ⟨q, hq, h2, rfl⟩
      · exact (hn_disj r.h (hk.low r hr) q.h (ho.low q hq)).2 h3
      · rw [visP_wr']; exact ⟨r, hr, h1, rfl⟩
    · obtain ⟨r, hr, rfl⟩ := (hk.all t).1 ht
      obtain ⟨q, hq, rfl⟩ := (ho.all s).1 hs
      refine ⟨hn r.h, hn_lt _ (hk.low r hr), hn q.h, hn_lt _ (ho.low q hq), ⟨⟨?_, ?_⟩, ?_⟩, Or.inr ?_⟩
      · rw [visP_ei']; exact ⟨r, hr, h2, rfl⟩
      · rw [visP_ei']; exact ⟨q, hq, h1.1, rfl⟩
      · refine (hn_disj r.h (hk.low r hr) q.h (ho.low q hq)).2 ?_
        rw [Nat.and_comm]; exact h3
      · rw [visP_wr']; exact ⟨q, hq, h1, rfl⟩
/-- A race at a cell. -/
def Race (its : List Wd.It) (c : Nat) : Prop := ∃ i j, i < its.length ∧ j < its.length ∧ (i = j → isH its i = true) ∧ Meet (isH its i) (bodyOf its i) (isH its j) (bodyOf its j) c
theorem raceTo_iff {its : List Wd.It} {K : List Kp3} (h : KOf its K) (hok : ∀ k ∈ K, KpOK k) (c n : Nat) (hn : n ≤ K.length) : raceTo c K n = true ↔ ∃ i j, i < n ∧ j < n ∧ (i = j → isH its i = true) ∧ Meet (isH its i) (bodyOf its i) (isH its j) (bodyOf its j) c := by
  induction n with
  | zero => simp [raceTo]
  | succ n ih =>
    have hn' : n < K.length := by omega
    have hk : K[n]? = some K[n] := List.getElem?_eq_getElem hn'
    rw [raceTo_succ hk, Bool.or_eq_true, ih (by omega)]
    unfold raceNew
    obtain ⟨e1, e2, e3⟩ := h.at_ n _ hk
    have ok1 := hok _ (List.getElem_mem hn')
    simp only [Bool.or_eq_true, Bool.and_eq_true, clashV_iff ok1 ok1, or_self]
    have hany : (K.take n).any (fun o => clashV (visP K[n].b c K[n].L) (visP o.b c o.L)) = true ↔ ∃ i, i < n ∧ (Meet (isH its n) (bodyOf its n) (isH its i) (bodyOf its i) c ∨ Meet (isH its i) (bodyOf its i) (isH its n) (bodyOf its n) c) := by
      rw [List.any_eq_true]
      constructor
      · rintro ⟨o, ho, e⟩
        obtain ⟨i, hi⟩ := List.getElem?_of_mem ho
        have hi1 : i < n := by have := (List.getElem?_eq_some_iff.1 hi).1; simp at this; omega
        rw [List.getElem?_take, if_pos hi1] at hi
        obtain ⟨f1, f2, f3⟩ := h.at_ i _ hi
        rw [clashV_iff ok1 (hok o (List.mem_of_getElem? hi)), e1, e2, f1, f2] at e
        exact ⟨i, hi1, e⟩
      · rintro ⟨i, hi1, e⟩
        have hi' : i < K.length := by omega
        have hi : K[i]? = some K[i] := List.getElem?_eq_getElem hi'
        obtain ⟨f1, f2, f3⟩ := h.at_ i _ hi
        refine ⟨K[i], List.mem_of_getElem? (i := i) (by rw [List.getElem?_take, if_pos hi1]; exact hi), ?_⟩
        rw [clashV_iff ok1 (hok _ (List.getElem_mem hi')), e1, e2, f1, f2]
        exact e
    rw [hany, e1, e2]
    constructor
    · rintro (⟨i, j, hi, hj, a, b⟩ | ⟨a, b⟩ | ⟨i, hi, b | b⟩)
      · exact ⟨i, j, by omega, by omega, a, b⟩
      · exact ⟨n, n, by omega, by omega, fun _ => a, b⟩
      · exact ⟨n, i, by omega, by omega, fun e => by omega, b⟩
      · exact ⟨i, n, by omega, by omega, fun e => by omega, b⟩
    · rintro ⟨i, j, hi, hj, a, b⟩
      by_cases h1 : i = n
      · by_cases h2 : j = n
        · subst h1; subst h2; exact Or.inr (Or.inl ⟨a rfl, b⟩)
        · subst h1; exact Or.inr (Or.inr ⟨j, by omega, Or.inl b⟩)
      · by_cases h2 : j = n
        · subst h2; exact Or.inr (Or.inr ⟨i, by omega, Or.inr b⟩)
        · exact Or.inl ⟨i, j, by omega, by omega, a, b⟩
theorem raceP_iff {its : List Wd.It} {K : List Kp3} (h : KOf its K) (hok : ∀ k ∈ K, KpOK k) (c : Nat) : raceP c K = true ↔ Race its c := by
  unfold raceP Race
  rw [raceTo_iff h hok c _ (Nat.le_refl _), h.len]
theorem kdP_iff {its : List Wd.It} {K : List Kp3} (h : KOf its K) (k i p : Nat) (hi : i < its.length) (hk : k ≠ 0) : kdP K k i p = true ↔ BadAt (isH its i) (bodyOf its i) k p := by
  have hi' : i < K.length := by rw [h.len]; exact hi
  have he : K[i]? = some K[i] := List.getElem?_eq_getElem hi'
  obtain ⟨f1, f2, f3⟩ := h.at_ i _ he
  unfold kdP
  rw [he, ← f1, ← f2]
  simp only [decide_eq_true_eq]
  exact kAt_iff _ _ _ f3 p k (by omega)
theorem lenP_eq {its : List Wd.It} {K : List Kp3} (h : KOf its K) (i : Nat) (hi : i < its.length) : lenP K i = (bodyOf its i).length + 1 := by
  have hi' : i < K.length := by rw [h.len]; exact hi
  have he : K[i]? = some K[i] := List.getElem?_eq_getElem hi'
  obtain ⟨f1, f2, f3⟩ := h.at_ i _ he
  unfold lenP
  rw [he, ← f2]
theorem soloK_congrN (P Q : Nat → Nat → Nat → Bool) (N M : Nat → Nat) (k m : Nat) (hN : ∀ i, i < m → N i = M i) (h : ∀ i, i < m → ∀ p, p < N i → P k i p = Q k i p) : soloK P N k m = soloK Q M k m := by
  induction m with
  | zero => rfl
  | succ m ih => rw [soloK_succ, soloK_succ, ih (fun i hi => hN i (by omega)) (fun i hi => h i (by omega)), soloRow_congr _ _ _ _ _ (h m (by omega)), hN m (by omega)]
theorem solos_congrN (P Q : Nat → Nat → Nat → Bool) (N M : Nat → Nat) (m n : Nat) (hN : ∀ i, i < m → N i = M i) (h : ∀ k, k < n → ∀ i, i < m → ∀ p, p < N i → P (k + 1) i p = Q (k + 1) i p) : solos P N m n = solos Q M m n := by
  induction n with
  | zero => rfl
  | succ n ih => rw [solos_succ, solos_succ, ih (fun k hk => h k (by omega)), soloK_congrN P Q N M (n + 1) m hN (h n (by omega))]
/-- All reports, by the words. -/
noncomputable def soloS (its : List Wd.It) : List Rp := open Classical in solos (fun k i p => decide (BadAt (isH its i) (bodyOf its i) k p)) (fun i => (bodyOf its i).length + 1) its.length 5
noncomputable def edgeS (its : List Wd.It) : Tb := open Classical in fun l m => decide (Eg its l m)
noncomputable def raceS (its : List Wd.It) : List Rp := open Classical in raceL (fun c => decide (Race its c)) 4
noncomputable def analyseS (its : List Wd.It) : List Rp := soloS its ++ ringL (fwK (edgeS its) 6) 6 ++ raceS its
theorem bool_iff {b : Bool} {p : Prop} [Decidable p] (h : b = true ↔ p) : b = decide p := by
  by_cases hp : p
  · rw [h.2 hp]; simp [hp]
  · simp only [hp, decide_false]
    cases b
    · rfl
    · exact absurd (h.1 rfl) hp
open Classical in
theorem edgesP_eq {its : List Wd.It} {K : List Kp3} (h : KOf its K) : edgesP K = edgeS its := by
  funext l m
  exact bool_iff (edgesP_iff h l m)
open Classical in
theorem analyseP_eq {its : List Wd.It} {K : List Kp3} (h : KOf its K) (hok : ∀ k ∈ K, KpOK k) : analyseP K = analyseS its := by
  unfold analyseP analyseS
  rw [edgesP_eq h]
  congr 1
  · congr 1
    unfold soloS
    rw [h.len]
    refine solos_congrN _ _ _ _ _ _ (fun i hi => lenP_eq h i hi) (fun k hk i hi p hp => ?_)
    exact bool_iff (kdP_iff h (k + 1) i p hi (by omega))
  · refine raceL_congr _ _ _ (fun c hc => ?_)
    exact bool_iff (raceP_iff h hok c)
end Go.Proofs.Ytecmfdkhcffpmab
/- Plain: what going round a table means. -/
namespace Go.Proofs.Ytecmfdkhcffpmab
open Go.RowKit
set_option linter.unusedSimpArgs false
set_option linter.unusedVariables false
theorem fwJ_eq (T : Tb) (k i n l m : Nat) : fwJ T k i n l m = if l = i ∧ m < n then (T l m || (T i k && T k m)) else T l m := by
  induction n generalizing l m with
  | zero => simp [fwJ]
  | succ n ih =>
    show upT (fwJ T k i n) i n (fwJ T k i n i n || (fwJ T k i n i k && fwJ T k i n k n)) l m = _
    have h1 : fwJ T k i n i n = T i n := by rw [ih, if_neg (by omega)]
    have h2 : fwJ T k i n i k = T i k := by
      rw [ih]
      split
      · cases T i k <;> simp
      · rfl
    have h3 : fwJ T k i n k n = T k n := by rw [ih, if_neg (by omega)]
    rw [h1, h2, h3]
    unfold upT
    by_cases e : l = i ∧ m = n
    · rw [if_pos e, if_pos (by omega), e.1, e.2]
    · rw [if_neg e, ih]
      by_cases e2 : l = i ∧ m < n
      · rw [if_pos e2, if_pos (by omega)]
      · rw [if_neg e2, if_neg (by omega)]
theorem fwI_eq (T : Tb) (k n l m : Nat) : fwI T k n l m = if l < n ∧ m < 6 then (T l m || (T l k && T k m)) else T l m := by
  induction n generalizing l m with
  | zero => simp [fwI]
  | succ n ih =>
    show fwJ (fwI T k n) k n 6 l m = _
    rw [fwJ_eq]
    have h1 : ∀ x, fwI T k n n x = T n x := fun x => by rw [ih, if_neg (by omega)]
    have h3 : ∀ x, fwI T k n k x = T k x := by
      intro x
      rw [ih]
      split
      · cases T k k <;> cases T k x <;> rfl
      · rfl
    by_cases e : l = n ∧ m < 6
    · rw [if_pos e, if_pos (by omega), e.1, h1, h1, h3]
    · rw [if_neg e, ih]
      by_cases e2 : l < n ∧ m < 6
      · rw [if_pos e2, if_pos (by omega)]
      · rw [if_neg e2, if_neg (by omega)]
/-- A way from lock to lock, over locks below k. -/
inductive Way (T : Tb) (k : Nat) : Nat → Nat → Prop
  | one {i j : Nat} (h : T i j = true) : Way T k i j
  | more {i x j : Nat} (h : T i x = true) (hx : x < k) (r : Way T k x j) : Way T k i j
theorem Way.up {T : Tb} {k i j : Nat} (h : Way T k i j) : Way T (k + 1) i j := by
  induction h with
  | one h => exact .one h
  | more h hx _ ih => exact .more h (by omega) ih
theorem Way.join {T : Tb} {k i x j : Nat} (h : Way T k i x) (hx : x < k) (r : Way T k x j) : Way T k i j := by
  induction h with
  | one h => exact .more h hx r
  | more h hy _ ih => exact .more h hy (ih hx r)
theorem way_succ (T : Tb) (k i j : Nat) : Way T (k + 1) i j ↔ Way T k i j ∨ (Way T k i k ∧ Way T k k j) := by
  constructor
  · intro h
    induction h with
    | one h => exact Or.inl (.one h)
    | @more i x j h hx _ ih =>
      by_cases e : x = k
      · subst e
        rcases ih with ih | ih
        · exact Or.inr ⟨.one h, ih⟩
        · exact Or.inr ⟨.one h, ih.2⟩
      · rcases ih with ih | ih
        · exact Or.inl (.more h (by omega) ih)
        · exact Or.inr ⟨.more h (by omega) ih.1, ih.2⟩
  · rintro (h | ⟨h, r⟩)
    · exact h.up
    · exact h.up.join (by omega) r.up
theorem fwK_way (T : Tb) (k : Nat) (hk : k ≤ 6) (i j : Nat) (hi : i < 6) (hj : j < 6) : fwK T k i j = true ↔ Way T k i j := by
  induction k generalizing i j with
  | zero =>
    constructor
    · intro h; exact .one h
    · intro h
      cases h with
      | one h => exact h
      | more _ hx _ => omega
  | succ k ih =>
    show fwI (fwK T k) k 6 i j = true ↔ _
    rw [fwI_eq, if_pos ⟨hi, hj⟩, way_succ, Bool.or_eq_true, Bool.and_eq_true, ih (by omega) i j hi hj, ih (by omega) i k hi (by omega), ih (by omega) k j (by omega) hj]
end Go.Proofs.Ytecmfdkhcffpmab
