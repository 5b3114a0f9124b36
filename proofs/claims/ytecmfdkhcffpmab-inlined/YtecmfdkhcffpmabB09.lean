/- PureK, PureM5. -/
import Derived.Test.YtecmfdkhcffpmabB03
import Derived.Test.YtecmfdkhcffpmabB08
/- Plain: what Run answers. -/
namespace Go.Proofs.Ytecmfdkhcffpmab
open Go.RowKit
set_option linter.unusedSimpArgs false
set_option linter.unusedVariables false
open Mc
namespace Mc
open Wd
def u8 (t : Int) : UInt8 := UInt8.ofNat t.toNat
theorem bt_u8 {t : Int} (h0 : 0 ≤ t) (h1 : t ≤ 255) : bt (u8 t) = t := by
  unfold bt u8
  rw [UInt8.toNat_ofNat', Nat.mod_eq_of_lt (by omega)]; omega
/-- The trace, in bytes. -/
def traceB (its : List It) (n : Nat) : Ma → List UInt8 → List UInt8
  | S, a :: o :: r => u8 (command its S n (bt a - 48).toNat (bt o)).1 :: (if bad (command its S n (bt a - 48).toNat (bt o)).1 = true then [] else traceB its n (command its S n (bt a - 48).toNat (bt o)).2 r)
  | _, _ => []
def errP (l : List UInt8) : Int := match readP l with
  | .error x => x.1
  | .ok _ => 0
/-- What Run refuses. -/
def refuses (l : List UInt8) (cpus : Int) (s : List UInt8) : Int :=
  if 240 < l.length ∨ 200000 < s.length then 1
  else if errP l ≠ 0 then errP l
  else if cpus < 1 ∨ 3 < cpus then 6
  else if scriptB cpus s = false then 7 else 0
theorem alone_letter (b : List UInt8) (f : Fr) (hd off second : Bool) : 0 ≤ (alone b f hd off second).1 ∧ (alone b f hd off second).1 ≤ 255 := by
  have := atB_bd b f.pos
  unfold alone
  repeat' split
  all_goals simp only; omega
theorem step_letter (its : List It) (S : Ma) (n c : Nat) (second : Bool) : 0 ≤ (Mc.step its S n c second).1 ∧ (Mc.step its S n c second).1 ≤ 255 := by
  unfold Mc.step
  simp only
  split
  · simp
  split
  · split <;> simp
  split
  · unfold takes
    repeat' split
    all_goals simp
  split
  · split <;> simp
  split
  · simp
  · exact alone_letter _ _ _ _ _
theorem command_letter (its : List It) (S : Ma) (n c : Nat) (what : Int) : 0 ≤ (command its S n c what).1 ∧ (command its S n c what).1 ≤ 255 := by
  unfold command
  split
  · exact step_letter _ _ _ _ _
  split
  · unfold comes
    repeat' split
    all_goals simp
  split <;> simp
end Mc
/-- What Run answers. -/
def runB (l : List UInt8) (cpus : Int) (s : List UInt8) : List UInt8 × Int :=
  if refuses l cpus s ≠ 0 then ([], refuses l cpus s)
  else match Wd.readP l with
    | .error _ => ([], 0)
    | .ok its => (traceB its cpus.toNat (begin_ its) s, 0)
end Go.Proofs.Ytecmfdkhcffpmab
/- Brackets in a body, and their partners. -/
namespace Go.Proofs.Ytecmfdkhcffpmab
open Go.RowKit
set_option linter.unusedSimpArgs false
set_option linter.unusedVariables false
namespace Mc
open Wd
/-- A choice: its bracket at i, its bar at j, its end at k. -/
def Alt (b : List UInt8) (i j k : Nat) : Prop := ∃ pre x y r, b = pre ++ 40 :: (x ++ 124 :: (y ++ 41 :: r)) ∧ pre.length = i ∧ i + 1 + x.length = j ∧ j + 1 + y.length = k ∧ Bd x ∧ Bd y
/-- A loop: its bracket at i, its end at k. -/
def Star (b : List UInt8) (i k : Nat) : Prop := ∃ pre x r, b = pre ++ 91 :: (x ++ 93 :: r) ∧ pre.length = i ∧ i + 1 + x.length = k ∧ Bd x
theorem Alt.mid {b : List UInt8} {i j k : Nat} (h : Alt b i j k) (p q : List UInt8) : Alt (p ++ (b ++ q)) (p.length + i) (p.length + j) (p.length + k) := by
  obtain ⟨pre, x, y, r, e, h1, h2, h3, h4, h5⟩ := h
  exact ⟨p ++ pre, x, y, r ++ q, by rw [e]; simp, by simp [h1], by omega, by omega, h4, h5⟩
theorem Star.mid {b : List UInt8} {i k : Nat} (h : Star b i k) (p q : List UInt8) : Star (p ++ (b ++ q)) (p.length + i) (p.length + k) := by
  obtain ⟨pre, x, r, e, h1, h2, h4⟩ := h
  exact ⟨p ++ pre, x, r ++ q, by rw [e]; simp, by simp [h1], by omega, h4⟩
/-- What stands at a place of a body, as far as brackets go. -/
structure Br (b : List UInt8) (p : Nat) : Prop where
  o : at_ b p = 40 → ∃ j k, Alt b p j k
  m : at_ b p = 124 → ∃ i k, Alt b i p k
  c : at_ b p = 41 → ∃ i j, Alt b i j p
  s : at_ b p = 91 → ∃ k, Star b p k
  e : at_ b p = 93 → ∃ i, Star b i p
theorem Br.mid {b : List UInt8} {p : Nat} (h : Br b p) (a q : List UInt8) (hp : p < b.length) : Br (a ++ (b ++ q)) (a.length + p) := by
  have e : at_ (a ++ (b ++ q)) (a.length + p) = at_ b p := by rw [at_right, at_app_l hp]
  constructor <;> rw [e] <;> intro hc
  · obtain ⟨j, k, hh⟩ := h.o hc; exact ⟨_, _, hh.mid a q⟩
  · obtain ⟨j, k, hh⟩ := h.m hc; exact ⟨_, _, hh.mid a q⟩
  · obtain ⟨j, k, hh⟩ := h.c hc; exact ⟨_, _, hh.mid a q⟩
  · obtain ⟨k, hh⟩ := h.s hc; exact ⟨_, hh.mid a q⟩
  · obtain ⟨k, hh⟩ := h.e hc; exact ⟨_, hh.mid a q⟩
theorem Br.none {b : List UInt8} {p : Nat} (h : at_ b p ≠ 40 ∧ at_ b p ≠ 124 ∧ at_ b p ≠ 41 ∧ at_ b p ≠ 91 ∧ at_ b p ≠ 93) : Br b p :=
  ⟨fun e => absurd e h.1, fun e => absurd e h.2.1, fun e => absurd e h.2.2.1, fun e => absurd e h.2.2.2.1, fun e => absurd e h.2.2.2.2⟩
theorem Br.only {b : List UInt8} {p : Nat} {v : Int} (hv : at_ b p = v) (h40 : v = 40 → ∃ j k, Alt b p j k) (h124 : v = 124 → ∃ i k, Alt b i p k) (h41 : v = 41 → ∃ i j, Alt b i j p) (h91 : v = 91 → ∃ k, Star b p k) (h93 : v = 93 → ∃ i, Star b i p) : Br b p := by
  subst hv; exact ⟨h40, h124, h41, h91, h93⟩
theorem bt124 : bt 124 = 124 := rfl
theorem bt41 : bt 41 = 41 := rfl
theorem bt93 : bt 93 = 93 := rfl
theorem br_all {b : List UInt8} (h : Bd b) : ∀ p, p < b.length → Br b p := by
  induction h with
  | nil => intro p hp; simp at hp
  | lock c d r h1 h2 _ ih =>
    intro p hp
    match p, hp with
    | 0, _ => exact Br.none (by rw [at_cons_zero]; omega)
    | 1, _ => exact Br.none (by rw [at_cons_succ, at_cons_zero]; simp [lk] at h2; omega)
    | p + 2, hp =>
      have := (ih p (by simpa using hp)).mid [c, d] [] (by simpa using hp)
      simpa [Nat.add_comm] using this
  | cell c d r h1 h2 _ ih =>
    intro p hp
    match p, hp with
    | 0, _ => exact Br.none (by rw [at_cons_zero]; omega)
    | 1, _ => exact Br.none (by rw [at_cons_succ, at_cons_zero]; simp [cl] at h2; omega)
    | p + 2, hp =>
      have := (ih p (by simpa using hp)).mid [c, d] [] (by simpa using hp)
      simpa [Nat.add_comm] using this
  | one c r h1 _ ih =>
    intro p hp
    match p, hp with
    | 0, _ => exact Br.none (by rw [at_cons_zero]; rw [up_iff] at h1; omega)
    | p + 1, hp =>
      have := (ih p (by simpa using hp)).mid [c] [] (by simpa using hp)
      simpa [Nat.add_comm] using this
  | alt x y r hx hy hr ix iy ir =>
    intro p hp
    have hA : Alt (40 :: (x ++ 124 :: (y ++ 41 :: r))) 0 (1 + x.length) (1 + x.length + 1 + y.length) := ⟨[], x, y, r, rfl, rfl, by omega, rfl, hx, hy⟩
    by_cases c0 : p = 0
    · subst c0
      exact Br.only (v := 40) rfl (fun _ => ⟨_, _, hA⟩) (by intro e; cases e) (by intro e; cases e) (by intro e; cases e) (by intro e; cases e)
    by_cases c1 : p < 1 + x.length
    · have := (ix (p - 1) (by omega)).mid [40] (124 :: (y ++ 41 :: r)) (by omega)
      have e : [(40 : UInt8)].length + (p - 1) = p := by simp; omega
      rw [e] at this; exact this
    by_cases c2 : p = 1 + x.length
    · have hv : at_ (40 :: (x ++ 124 :: (y ++ 41 :: r))) p = 124 := by
        have : at_ ((40 :: x) ++ (124 :: (y ++ 41 :: r))) ((40 :: x).length + 0) = at_ (124 :: (y ++ 41 :: r)) 0 := at_right _ _ _
        have this := this.trans (at_cons_zero _ _)
        simp only [bt124, bt41, bt93] at this
        rw [c2]; simpa [Nat.add_comm] using this
      refine Br.only hv (by intro e; cases e) (fun _ => ⟨0, _, by rw [c2]; exact hA⟩) (by intro e; cases e) (by intro e; cases e) (by intro e; cases e)
    by_cases c3 : p < 1 + x.length + 1 + y.length
    · have := (iy (p - (x.length + 2)) (by omega)).mid (40 :: (x ++ [124])) (41 :: r) (by omega)
      have e : (40 :: (x ++ [124]) : List UInt8).length + (p - (x.length + 2)) = p := by simp; omega
      rw [e] at this; simpa using this
    by_cases c4 : p = 1 + x.length + 1 + y.length
    · have hv : at_ (40 :: (x ++ 124 :: (y ++ 41 :: r))) p = 41 := by
        have : at_ ((40 :: (x ++ 124 :: y)) ++ (41 :: r)) ((40 :: (x ++ 124 :: y)).length + 0) = at_ (41 :: r) 0 := at_right _ _ _
        have this := this.trans (at_cons_zero _ _)
        simp only [bt124, bt41, bt93] at this
        have e : (40 :: (x ++ 124 :: y) : List UInt8).length + 0 = p := by simp; omega
        rw [e] at this; simpa using this
      refine Br.only hv (by intro e; cases e) (by intro e; cases e) (fun _ => ⟨0, _, by rw [c4]; exact hA⟩) (by intro e; cases e) (by intro e; cases e)
    · have hl : p < (40 :: (x ++ 124 :: (y ++ 41 :: r))).length := hp
      simp at hl
      have := (ir (p - (x.length + y.length + 3)) (by omega)).mid (40 :: (x ++ 124 :: (y ++ [41]))) [] (by omega)
      have e : (40 :: (x ++ 124 :: (y ++ [41])) : List UInt8).length + (p - (x.length + y.length + 3)) = p := by simp; omega
      rw [e] at this; simpa using this
  | star x r hx hr ix ir =>
    intro p hp
    have hS : Star (91 :: (x ++ 93 :: r)) 0 (1 + x.length) := ⟨[], x, r, rfl, rfl, by omega, hx⟩
    by_cases c0 : p = 0
    · subst c0
      exact Br.only (v := 91) rfl (by intro e; cases e) (by intro e; cases e) (by intro e; cases e) (fun _ => ⟨_, hS⟩) (by intro e; cases e)
    by_cases c1 : p < 1 + x.length
    · have := (ix (p - 1) (by omega)).mid [91] (93 :: r) (by omega)
      have e : [(91 : UInt8)].length + (p - 1) = p := by simp; omega
      rw [e] at this; exact this
    by_cases c2 : p = 1 + x.length
    · have hv : at_ (91 :: (x ++ 93 :: r)) p = 93 := by
        have : at_ ((91 :: x) ++ (93 :: r)) ((91 :: x).length + 0) = at_ (93 :: r) 0 := at_right _ _ _
        have this := this.trans (at_cons_zero _ _)
        simp only [bt124, bt41, bt93] at this
        rw [c2]; simpa [Nat.add_comm] using this
      refine Br.only hv (by intro e; cases e) (by intro e; cases e) (by intro e; cases e) (by intro e; cases e) (fun _ => ⟨0, by rw [c2]; exact hS⟩)
    · have hl : p < (91 :: (x ++ 93 :: r)).length := hp
      simp at hl
      have := (ir (p - (x.length + 2)) (by omega)).mid (91 :: (x ++ [93])) [] (by omega)
      have e : (91 :: (x ++ [93]) : List UInt8).length + (p - (x.length + 2)) = p := by simp; omega
      rw [e] at this; simpa using this
/-- Looking ahead goes over a body. -/
theorem aheadL_over {x : List UInt8} (h : Bd x) (c : Int) (hc : c = 124 ∨ c = 41 ∨ c = 93) (r : List UInt8) (d : Int) (hd : 0 ≤ d) (i : Nat) : aheadL c (x ++ r) d i = aheadL c r d (i + x.length) := by
  induction h generalizing d i r with
  | nil => rfl
  | lock a e t h1 h2 _ ih =>
    have n1 : ¬ (d = 0 ∧ bt a = c) := by omega
    have n2 : ¬ (d = 0 ∧ bt e = c) := by simp [lk] at h2; omega
    have d1 : dp (bt a) = 0 := by rcases h1 with e | e <;> rw [e] <;> decide
    have d2 : dp (bt e) = 0 := by simp [lk] at h2; unfold dp; rw [if_neg (by omega), if_neg (by omega)]
    simp only [List.cons_append, aheadL, n1, n2, if_false, d1, d2, Int.add_zero]
    rw [ih _ _ hd]; simp; congr 1; omega
  | cell a e t h1 h2 _ ih =>
    have n1 : ¬ (d = 0 ∧ bt a = c) := by omega
    have n2 : ¬ (d = 0 ∧ bt e = c) := by simp [cl] at h2; omega
    have d1 : dp (bt a) = 0 := by rcases h1 with e | e <;> rw [e] <;> decide
    have d2 : dp (bt e) = 0 := by simp [cl] at h2; unfold dp; rw [if_neg (by omega), if_neg (by omega)]
    simp only [List.cons_append, aheadL, n1, n2, if_false, d1, d2, Int.add_zero]
    rw [ih _ _ hd]; simp; congr 1; omega
  | one a t h1 _ ih =>
    rw [up_iff] at h1
    have n1 : ¬ (d = 0 ∧ bt a = c) := by omega
    have d1 : dp (bt a) = 0 := by unfold dp; rw [if_neg (by omega), if_neg (by omega)]
    simp only [List.cons_append, aheadL, n1, if_false, d1, Int.add_zero]
    rw [ih _ _ hd]; simp; congr 1; omega
  | alt x y t _ _ _ ix iy it =>
    have n1 : ¬ (d = 0 ∧ bt 40 = c) := by have : bt 40 = 40 := rfl; omega
    have n2 : ¬ (d + 1 = 0 ∧ bt 124 = c) := by omega
    have n3 : ¬ (d + 1 = 0 ∧ bt 41 = c) := by omega
    have d1 : dp (bt 40) = 1 := by decide
    have d2 : dp (bt 124) = 0 := by decide
    have d3 : dp (bt 41) = -1 := by decide
    have e : 40 :: (x ++ 124 :: (y ++ 41 :: t)) ++ r = 40 :: (x ++ (124 :: (y ++ (41 :: (t ++ r))))) := by simp
    rw [e, aheadL, if_neg n1, d1, ix _ _ (by omega), aheadL, if_neg n2, d2, Int.add_zero, iy _ _ (by omega), aheadL, if_neg n3, d3, show d + 1 + -1 = d by omega, it _ _ hd]
    congr 1; simp; omega
  | star x t _ _ ix it =>
    have n1 : ¬ (d = 0 ∧ bt 91 = c) := by have : bt 91 = 91 := rfl; omega
    have n3 : ¬ (d + 1 = 0 ∧ bt 93 = c) := by omega
    have d1 : dp (bt 91) = 1 := by decide
    have d3 : dp (bt 93) = -1 := by decide
    have e : 91 :: (x ++ 93 :: t) ++ r = 91 :: (x ++ (93 :: (t ++ r))) := by simp
    rw [e, aheadL, if_neg n1, d1, ix _ _ (by omega), aheadL, if_neg n3, d3, show d + 1 + -1 = d by omega, it _ _ hd]
    congr 1; simp; omega
theorem Alt.bar {b : List UInt8} {i j k : Nat} (h : Alt b i j k) : ahead b i 124 = j := by
  obtain ⟨pre, x, y, r, e, h1, h2, h3, h4, h5⟩ := h
  unfold ahead
  have : b.drop (i + 1) = x ++ 124 :: (y ++ 41 :: r) := by rw [e, ← h1]; simp
  rw [this, aheadL_over h4 124 (Or.inl rfl) _ 0 (by omega), aheadL, if_pos ⟨rfl, rfl⟩]; omega
theorem Alt.close {b : List UInt8} {i j k : Nat} (h : Alt b i j k) : ahead b j 41 = k := by
  obtain ⟨pre, x, y, r, e, h1, h2, h3, h4, h5⟩ := h
  unfold ahead
  have : b.drop (j + 1) = y ++ 41 :: r := by
    have e2 : b = (pre ++ 40 :: (x ++ [124])) ++ (y ++ 41 :: r) := by rw [e]; simp
    rw [e2, List.drop_left' (by simp; omega)]
  rw [this, aheadL_over h5 41 (by simp) _ 0 (by omega), aheadL, if_pos ⟨rfl, rfl⟩]; omega
theorem Star.close {b : List UInt8} {i k : Nat} (h : Star b i k) : ahead b i 93 = k := by
  obtain ⟨pre, x, r, e, h1, h2, h4⟩ := h
  unfold ahead
  have : b.drop (i + 1) = x ++ 93 :: r := by rw [e, ← h1]; simp
  rw [this, aheadL_over h4 93 (by simp) _ 0 (by omega), aheadL, if_pos ⟨rfl, rfl⟩]; omega
theorem Alt.lt {b : List UInt8} {i j k : Nat} (h : Alt b i j k) : i < j ∧ j < k ∧ k < b.length := by
  obtain ⟨pre, x, y, r, e, h1, h2, h3, h4, h5⟩ := h
  have : b.length = pre.length + 1 + x.length + 1 + y.length + 1 + r.length := by rw [e]; simp; omega
  omega
theorem Star.lt {b : List UInt8} {i k : Nat} (h : Star b i k) : i < k ∧ k < b.length := by
  obtain ⟨pre, x, r, e, h1, h2, h4⟩ := h
  have : b.length = pre.length + 1 + x.length + 1 + r.length := by rw [e]; simp; omega
  omega
/-- Looking back goes over a body. -/
theorem backN_over {x : List UInt8} (h : Bd x) (pre r : List UInt8) (d : Int) (hd : 0 ≤ d) : backN (pre ++ (x ++ r)) (pre.length + x.length) d = backN (pre ++ (x ++ r)) pre.length d := by
  induction h generalizing pre r d with
  | nil => rfl
  | lock a e t h1 h2 _ ih =>
    have d1 : dp (bt a) = 0 := by rcases h1 with e | e <;> rw [e] <;> decide
    have d2 : dp (bt e) = 0 := by simp [lk] at h2; unfold dp; rw [if_neg (by omega), if_neg (by omega)]
    have b1 : at_ (pre ++ (a :: e :: t ++ r)) pre.length = bt a := by have := at_right pre (a :: e :: t ++ r) 0; rw [Nat.add_zero] at this; rw [this]; exact at_cons_zero _ _
    have b2 : at_ (pre ++ (a :: e :: t ++ r)) (pre.length + 1) = bt e := by rw [at_right]; exact (at_cons_succ _ _ _).trans (at_cons_zero _ _)
    have e1 : pre ++ (a :: e :: t ++ r) = (pre ++ [a, e]) ++ (t ++ r) := by simp
    have := ih (pre ++ [a, e]) r d hd
    rw [← e1] at this
    have l1 : (pre ++ [a, e]).length + t.length = pre.length + (a :: e :: t).length := by simp; omega
    have l2 : (pre ++ [a, e]).length = pre.length + 1 + 1 := by simp
    rw [l1, l2] at this
    rw [this, backN, b2, if_neg (by simp [lk] at h2; omega), d2, Int.sub_zero, backN, b1, if_neg (by omega), d1, Int.sub_zero]
  | cell a e t h1 h2 _ ih =>
    have d1 : dp (bt a) = 0 := by rcases h1 with e | e <;> rw [e] <;> decide
    have d2 : dp (bt e) = 0 := by simp [cl] at h2; unfold dp; rw [if_neg (by omega), if_neg (by omega)]
    have b1 : at_ (pre ++ (a :: e :: t ++ r)) pre.length = bt a := by have := at_right pre (a :: e :: t ++ r) 0; rw [Nat.add_zero] at this; rw [this]; exact at_cons_zero _ _
    have b2 : at_ (pre ++ (a :: e :: t ++ r)) (pre.length + 1) = bt e := by rw [at_right]; exact (at_cons_succ _ _ _).trans (at_cons_zero _ _)
    have e1 : pre ++ (a :: e :: t ++ r) = (pre ++ [a, e]) ++ (t ++ r) := by simp
    have := ih (pre ++ [a, e]) r d hd
    rw [← e1] at this
    have l1 : (pre ++ [a, e]).length + t.length = pre.length + (a :: e :: t).length := by simp; omega
    have l2 : (pre ++ [a, e]).length = pre.length + 1 + 1 := by simp
    rw [l1, l2] at this
    rw [this, backN, b2, if_neg (by simp [cl] at h2; omega), d2, Int.sub_zero, backN, b1, if_neg (by omega), d1, Int.sub_zero]
  | one a t h1 _ ih =>
    rw [up_iff] at h1
    have d1 : dp (bt a) = 0 := by unfold dp; rw [if_neg (by omega), if_neg (by omega)]
    have b1 : at_ (pre ++ (a :: t ++ r)) pre.length = bt a := by have := at_right pre (a :: t ++ r) 0; rw [Nat.add_zero] at this; rw [this]; exact at_cons_zero _ _
    have e1 : pre ++ (a :: t ++ r) = (pre ++ [a]) ++ (t ++ r) := by simp
    have := ih (pre ++ [a]) r d hd
    rw [← e1] at this
    have l1 : (pre ++ [a]).length + t.length = pre.length + (a :: t).length := by simp; omega
    have l2 : (pre ++ [a]).length = pre.length + 1 := by simp
    rw [l1, l2] at this
    rw [this, backN, b1, if_neg (by omega), d1, Int.sub_zero]
  | alt x y t _ _ _ ix iy it =>
    generalize hB : pre ++ (40 :: (x ++ 124 :: (y ++ 41 :: t)) ++ r) = B
    have e1 : B = (pre ++ 40 :: (x ++ 124 :: (y ++ [41]))) ++ (t ++ r) := by rw [← hB]; simp
    have e2 : B = (pre ++ 40 :: (x ++ [124])) ++ (y ++ (41 :: (t ++ r))) := by rw [← hB]; simp
    have e3 : B = (pre ++ [40]) ++ (x ++ (124 :: (y ++ (41 :: (t ++ r))))) := by rw [← hB]; simp
    have i1 := it (pre ++ 40 :: (x ++ 124 :: (y ++ [41]))) r d hd
    have i2 := iy (pre ++ 40 :: (x ++ [124])) (41 :: (t ++ r)) (d + 1) (by omega)
    have i3 := ix (pre ++ [40]) (124 :: (y ++ (41 :: (t ++ r)))) (d + 1) (by omega)
    rw [← e1] at i1; rw [← e2] at i2; rw [← e3] at i3
    have c1 : at_ B (pre.length + x.length + 2 + y.length) = 41 := by
      rw [e2, at_right' _ _ _ y.length (by simp; omega)]
      have := at_right y (41 :: (t ++ r)) 0
      rw [Nat.add_zero] at this; rw [this]; rfl
    have c2 : at_ B (pre.length + x.length + 1) = 124 := by
      rw [e3, at_right' _ _ _ x.length (by simp; omega)]
      have := at_right x (124 :: (y ++ (41 :: (t ++ r)))) 0
      rw [Nat.add_zero] at this; rw [this]; rfl
    have c3 : at_ B pre.length = 40 := by
      rw [← hB]; have := at_right pre (40 :: (x ++ 124 :: (y ++ 41 :: t)) ++ r) 0
      rw [Nat.add_zero] at this; rw [this]; rfl
    have l1 : pre.length + (40 :: (x ++ 124 :: (y ++ 41 :: t))).length = (pre ++ 40 :: (x ++ 124 :: (y ++ [41]))).length + t.length := by simp; omega
    have l2 : (pre ++ 40 :: (x ++ 124 :: (y ++ [41]))).length = (pre.length + x.length + 2 + y.length) + 1 := by simp; omega
    have l3 : pre.length + x.length + 2 + y.length = (pre ++ 40 :: (x ++ [124])).length + y.length := by simp; omega
    have l4 : (pre ++ 40 :: (x ++ [124])).length = (pre.length + x.length + 1) + 1 := by simp; omega
    have l5 : pre.length + x.length + 1 = (pre ++ [40]).length + x.length := by simp; omega
    have l6 : (pre ++ [40]).length = pre.length + 1 := by simp
    have p1 : dp 41 = -1 := by decide
    have p2 : dp 124 = 0 := by decide
    have p3 : dp 40 = 1 := by decide
    rw [l1, i1, l2, backN, c1, if_neg (by omega), p1, show d - -1 = d + 1 by omega, l3, i2, l4, backN, c2, if_neg (by omega), p2, Int.sub_zero, l5, i3, l6, backN, c3, if_neg (by omega), p3, show d + 1 - 1 = d by omega]
  | star x t _ _ ix it =>
    generalize hB : pre ++ (91 :: (x ++ 93 :: t) ++ r) = B
    have e1 : B = (pre ++ 91 :: (x ++ [93])) ++ (t ++ r) := by rw [← hB]; simp
    have e3 : B = (pre ++ [91]) ++ (x ++ (93 :: (t ++ r))) := by rw [← hB]; simp
    have i1 := it (pre ++ 91 :: (x ++ [93])) r d hd
    have i3 := ix (pre ++ [91]) (93 :: (t ++ r)) (d + 1) (by omega)
    rw [← e1] at i1; rw [← e3] at i3
    have c2 : at_ B (pre.length + x.length + 1) = 93 := by
      rw [e3, at_right' _ _ _ x.length (by simp; omega)]
      have := at_right x (93 :: (t ++ r)) 0
      rw [Nat.add_zero] at this; rw [this]; rfl
    have c3 : at_ B pre.length = 91 := by
      rw [← hB]; have := at_right pre (91 :: (x ++ 93 :: t) ++ r) 0
      rw [Nat.add_zero] at this; rw [this]; rfl
    have l1 : pre.length + (91 :: (x ++ 93 :: t)).length = (pre ++ 91 :: (x ++ [93])).length + t.length := by simp; omega
    have l4 : (pre ++ 91 :: (x ++ [93])).length = (pre.length + x.length + 1) + 1 := by simp; omega
    have l5 : pre.length + x.length + 1 = (pre ++ [91]).length + x.length := by simp; omega
    have l6 : (pre ++ [91]).length = pre.length + 1 := by simp
    have p2 : dp 93 = -1 := by decide
    have p3 : dp 91 = 1 := by decide
    rw [l1, i1, l4, backN, c2, if_neg (by omega), p2, show d - -1 = d + 1 by omega, l5, i3, l6, backN, c3, if_neg (by omega), p3, show d + 1 - 1 = d by omega]
theorem Star.back {b : List UInt8} {i k : Nat} (h : Star b i k) : back b k = i := by
  obtain ⟨pre, x, r, e, h1, h2, h4⟩ := h
  unfold Mc.back
  have e1 : b = (pre ++ [91]) ++ (x ++ (93 :: r)) := by rw [e]; simp
  have i1 := backN_over h4 (pre ++ [91]) (93 :: r) 0 (by omega)
  rw [← e1] at i1
  have c3 : at_ b pre.length = 91 := by
    rw [e]; have := at_right pre (91 :: (x ++ 93 :: r)) 0
    rw [Nat.add_zero] at this; rw [this]; rfl
  have l1 : k = (pre ++ [91]).length + x.length := by simp; omega
  have l2 : (pre ++ [91]).length = pre.length + 1 := by simp
  rw [l1, i1, l2, backN, c3, if_pos ⟨rfl, rfl⟩, h1]
/-- The next place lies in the body, or is its end. -/
theorem behind_in {b : List UInt8} (h : Bd b) (p : Nat) (hp : p < b.length) (second : Bool) : behind b p second ≤ b.length := by
  have hb := br_all h p hp
  have hpk := pairOK_bd h p hp
  have ha : atB b p = at_ b p := by simp [atB, hp]
  unfold behind
  rw [ha]
  split
  · rename_i hc
    have : p + 1 < b.length := by
      rcases hc with e | e | e | e
      · exact (hpk.1 (Or.inl e)).1
      · exact (hpk.1 (Or.inr e)).1
      · exact (hpk.2 (Or.inl e)).1
      · exact (hpk.2 (Or.inr e)).1
    omega
  split
  · rename_i hc
    obtain ⟨j, k, hA⟩ := hb.o hc.1
    rw [hA.bar]; have := hA.lt; omega
  split
  · rename_i hc
    obtain ⟨j, k, hA⟩ := hb.m hc
    rw [hA.close]; have := hA.lt; omega
  split
  · rename_i hc
    obtain ⟨k, hA⟩ := hb.s hc.1
    rw [hA.close]; have := hA.lt; omega
  split
  · rename_i hc
    obtain ⟨i, hA⟩ := hb.e hc
    rw [hA.back]; have := hA.lt; omega
  · omega
end Mc
end Go.Proofs.Ytecmfdkhcffpmab
