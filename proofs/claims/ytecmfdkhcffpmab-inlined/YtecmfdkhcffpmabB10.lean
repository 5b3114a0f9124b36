/- PureP4, PureP2, PureP5, PureP0. -/
import Derived.Test.YtecmfdkhcffpmabB09
import Derived.Test.YtecmfdkhcffpmabB08
import Derived.Test.YtecmfdkhcffpmabB03
/- Plain: the places of a body, and that a step leads from place to place. -/
namespace Go.Proofs.Ytecmfdkhcffpmab
open Go.RowKit
set_option linter.unusedSimpArgs false
set_option linter.unusedVariables false
namespace Mc
open Wd

/-- A byte with a name behind it. -/
def head4 (v : Int) : Prop := v = 43 ∨ v = 45 ∨ v = 114 ∨ v = 119
/-- A byte that stands alone. -/
def sole (v : Int) : Prop := v = 60 ∨ v = 62 ∨ v = 122 ∨ v = 40 ∨ v = 41 ∨ v = 124 ∨ v = 91 ∨ v = 93
def Kd (b : List UInt8) : Prop := ∀ p, p < b.length → head4 (at_ b p) ∨ sole (at_ b p) ∨ up (at_ b p) = true ∨ (0 < p ∧ head4 (at_ b (p - 1)))
theorem Kd.app {a b : List UInt8} (ha : Kd a) (hb : Kd b) : Kd (a ++ b) := by
  intro p hp
  by_cases h : p < a.length
  · rw [at_app_l h, at_app_l (show p - 1 < a.length by omega)]
    exact ha p h
  · obtain ⟨q, rfl⟩ : ∃ q, p = a.length + q := ⟨p - a.length, by omega⟩
    have hq : q < b.length := by simp at hp; omega
    rw [at_right]
    rcases hb q hq with h1 | h1 | h1 | ⟨h0, h1⟩
    · exact Or.inl h1
    · exact Or.inr (Or.inl h1)
    · exact Or.inr (Or.inr (Or.inl h1))
    · refine Or.inr (Or.inr (Or.inr ⟨by omega, ?_⟩))
      rw [show a.length + q - 1 = a.length + (q - 1) by omega, at_right]
      exact h1
theorem Kd.nil : Kd [] := fun p hp => by simp at hp
theorem Kd.one {c : UInt8} (h : sole (bt c) ∨ up (bt c) = true) : Kd [c] := by
  intro p hp
  have e : p = 0 := by simp at hp; exact hp
  subst e
  rw [at_cons_zero]
  rcases h with h | h
  · exact Or.inr (Or.inl h)
  · exact Or.inr (Or.inr (Or.inl h))
theorem Kd.two {c d : UInt8} (h : head4 (bt c)) : Kd [c, d] := by
  intro p hp
  have e : p = 0 ∨ p = 1 := by simp at hp; omega
  rcases e with e | e <;> subst e
  · rw [at_cons_zero]; exact Or.inl h
  · refine Or.inr (Or.inr (Or.inr ⟨by omega, ?_⟩))
    rw [show 1 - 1 = 0 by omega, at_cons_zero]; exact h
theorem kd_bd {b : List UInt8} (h : Bd b) : Kd b := by
  induction h with
  | nil => exact Kd.nil
  | lock c d r h1 h2 _ ih => exact Kd.app (a := [c, d]) (Kd.two (by unfold head4; omega)) ih
  | cell c d r h1 h2 _ ih => exact Kd.app (a := [c, d]) (Kd.two (by unfold head4; omega)) ih
  | one c r h1 _ ih =>
    refine Kd.app (a := [c]) (Kd.one ?_) ih
    unfold sole
    rcases h1 with h | h | h | h
    · exact Or.inl (by omega)
    · exact Or.inl (by omega)
    · exact Or.inl (by omega)
    · exact Or.inr h
  | alt a b r _ _ _ ia ib ir =>
    have k1 : Kd [(40 : UInt8)] := Kd.one (Or.inl (by unfold sole; decide))
    have k2 : Kd [(124 : UInt8)] := Kd.one (Or.inl (by unfold sole; decide))
    have k3 : Kd [(41 : UInt8)] := Kd.one (Or.inl (by unfold sole; decide))
    exact k1.app (ia.app (k2.app (ib.app (k3.app ir))))
  | star a r _ _ ia ir =>
    have k1 : Kd [(91 : UInt8)] := Kd.one (Or.inl (by unfold sole; decide))
    have k2 : Kd [(93 : UInt8)] := Kd.one (Or.inl (by unfold sole; decide))
    exact k1.app (ia.app (k2.app ir))
/-- A place: no name of a lock or cell stands there. -/
structure Pl (b : List UInt8) (p : Nat) : Prop where
  le : p ≤ b.length
  tk : p = 0 ∨ ¬ head4 (at_ b (p - 1))
theorem Pl.zero (b : List UInt8) : Pl b 0 := ⟨Nat.zero_le _, Or.inl rfl⟩
theorem noUp_at {b : List UInt8} (h : noUp b) {p : Nat} (hp : p < b.length) : up (at_ b p) = false := by
  have e : at_ b p = bt b[p] := by simp [at_, bt, hp]
  rw [e]; exact h _ (List.getElem_mem hp)
theorem Pl.kind {b : List UInt8} (hb : Bd b) (hu : noUp b) {p : Nat} (h : Pl b p) (hp : p < b.length) : head4 (at_ b p) ∨ sole (at_ b p) := by
  rcases kd_bd hb p hp with h1 | h1 | h1 | ⟨h0, h1⟩
  · exact Or.inl h1
  · exact Or.inr h1
  · rw [noUp_at hu hp] at h1; cases h1
  · rcases h.tk with e | e
    · omega
    · exact absurd h1 e
theorem Alt.ats {b : List UInt8} {i j k : Nat} (h : Alt b i j k) : at_ b i = 40 ∧ at_ b j = 124 ∧ at_ b k = 41 := by
  obtain ⟨pre, x, y, r, e, h1, h2, h3, _, _⟩ := h
  refine ⟨?_, ?_, ?_⟩
  · rw [e, at_right' pre _ i 0 (by omega), at_cons_zero]; rfl
  · rw [e, show pre ++ 40 :: (x ++ 124 :: (y ++ 41 :: r)) = (pre ++ 40 :: x) ++ (124 :: (y ++ 41 :: r)) by simp, at_right' _ _ j 0 (by simp; omega), at_cons_zero]; rfl
  · rw [e, show pre ++ 40 :: (x ++ 124 :: (y ++ 41 :: r)) = (pre ++ 40 :: (x ++ 124 :: y)) ++ (41 :: r) by simp, at_right' _ _ k 0 (by simp; omega), at_cons_zero]; rfl
theorem Star.ats {b : List UInt8} {i k : Nat} (h : Star b i k) : at_ b i = 91 ∧ at_ b k = 93 := by
  obtain ⟨pre, x, r, e, h1, h2, _⟩ := h
  refine ⟨?_, ?_⟩
  · rw [e, at_right' pre _ i 0 (by omega), at_cons_zero]; rfl
  · rw [e, show pre ++ 91 :: (x ++ 93 :: r) = (pre ++ 91 :: x) ++ (93 :: r) by simp, at_right' _ _ k 0 (by simp; omega), at_cons_zero]; rfl
theorem behind_pl {b : List UInt8} (h : Bd b) (p : Nat) (hpl : Pl b p) (hp : p < b.length) (second : Bool) : Pl b (behind b p second) := by
  refine ⟨behind_in h p hp second, ?_⟩
  have hb := br_all h p hp
  have hpk := pairOK_bd h p hp
  have ha : atB b p = at_ b p := by simp [atB, hp]
  unfold behind
  rw [ha]
  split
  · rename_i hc
    right
    rw [show p + 2 - 1 = p + 1 by omega]
    unfold head4
    rcases hc with e | e | e | e
    · have := hpk.1 (Or.inl e); omega
    · have := hpk.1 (Or.inr e); omega
    · have := hpk.2 (Or.inl e); omega
    · have := hpk.2 (Or.inr e); omega
  rename_i hn
  split
  · rename_i hc
    obtain ⟨j, k, hA⟩ := hb.o hc.1
    right; rw [hA.bar, show j + 1 - 1 = j by omega, hA.ats.2.1]; unfold head4; omega
  split
  · rename_i hc
    obtain ⟨j, k, hA⟩ := hb.m hc
    right; rw [hA.close, show k + 1 - 1 = k by omega, hA.ats.2.2]; unfold head4; omega
  split
  · rename_i hc
    obtain ⟨k, hA⟩ := hb.s hc.1
    right; rw [hA.close, show k + 1 - 1 = k by omega, hA.ats.2]; unfold head4; omega
  split
  · rename_i hc
    obtain ⟨i, hA⟩ := hb.e hc
    rw [hA.back]
    by_cases e : i = 0
    · exact Or.inl e
    · right
      intro hh
      have hl := hA.lt
      have hk := pairOK_bd h (i - 1) (by omega)
      rw [show i - 1 + 1 = i by omega, hA.ats.1] at hk
      rcases hh with e1 | e1 | e1 | e1
      · have := hk.1 (Or.inl e1); omega
      · have := hk.1 (Or.inr e1); omega
      · have := hk.2 (Or.inl e1); omega
      · have := hk.2 (Or.inr e1); omega
  · right
    rw [show p + 1 - 1 = p by omega]
    exact hn
end Mc
end Go.Proofs.Ytecmfdkhcffpmab
/- Plain: the machine of three processors, of which those from n on are empty, is that of n. -/
namespace Go.Proofs.Ytecmfdkhcffpmab
open Go.RowKit
set_option linter.unusedSimpArgs false
set_option linter.unusedVariables false
namespace Mc
open Wd

/-- Processors from n on are empty. -/
def Rest (n : Nat) (S : Ma) : Prop := ∀ d, n ≤ d → S.cp d = noCp
theorem cpHolds_no (l : Nat) : cpHolds noCp l = false := by simp [cpHolds, noCp, noFr, holds]
theorem holderFrom_nil {S : Ma} {l : Nat} : ∀ (m k : Nat), (∀ d, k ≤ d → S.cp d = noCp) → holderFrom S l k m = none
  | 0, _, _ => rfl
  | m + 1, k, h => by
    rw [holderFrom, h k (Nat.le_refl _), cpHolds_no]
    simp only [Bool.false_eq_true, if_false]
    exact holderFrom_nil m (k + 1) (fun d hd => h d (by omega))
theorem holderFrom_more {S : Ma} {l : Nat} (j : Nat) : ∀ (m k : Nat), (∀ d, k + m ≤ d → S.cp d = noCp) → holderFrom S l k m = holderFrom S l k (m + j)
  | 0, k, h => (holderFrom_nil (0 + j) k (fun d hd => h d (by omega))).symm
  | m + 1, k, h => by
    rw [show m + 1 + j = (m + j) + 1 by omega, holderFrom, holderFrom, holderFrom_more j m (k + 1) (fun d hd => h d (by omega))]
theorem holder_three {n : Nat} {S : Ma} (hr : Rest n S) (hn : n ≤ 3) (l : Nat) : holder S n l = holder S 3 l := by
  obtain ⟨j, hj⟩ : ∃ j, n + j = 3 := ⟨3 - n, by omega⟩
  unfold holder
  rw [← hj]
  exact holderFrom_more j n 0 (fun d hd => hr d (by omega))
theorem holderFrom_in {S : Ma} {l : Nat} : ∀ (m k d : Nat), holderFrom S l k m = some d → k ≤ d ∧ d < k + m
  | 0, _, _, h => by cases h
  | m + 1, k, d, h => by
    rw [holderFrom] at h
    split at h
    · cases h; omega
    · have := holderFrom_in m (k + 1) d h; omega
theorem holder_in {S : Ma} {n l d : Nat} (h : holder S n l = some d) : d < n := by have := holderFrom_in n 0 d h; omega
theorem clashAt_no {its : List It} {S : Ma} {c : Nat} {x own : Int} {d : Nat} (h : S.cp d = noCp) : clashAt its S c x own d = false := by
  have e : works S d = noFr := by simp [works, h, noCp, noFr]
  simp [clashAt, e, stands, noFr]
theorem clashFrom_nil {its : List It} {S : Ma} {c : Nat} {x own : Int} : ∀ (m k : Nat), (∀ d, k ≤ d → S.cp d = noCp) → clashFrom its S c x own k m = false
  | 0, _, _ => rfl
  | m + 1, k, h => by
    rw [clashFrom, clashAt_no (h k (Nat.le_refl _))]
    simp only [Bool.false_eq_true, if_false]
    exact clashFrom_nil m (k + 1) (fun d hd => h d (by omega))
theorem clashFrom_more {its : List It} {S : Ma} {c : Nat} {x own : Int} (j : Nat) : ∀ (m k : Nat), (∀ d, k + m ≤ d → S.cp d = noCp) → clashFrom its S c x own k m = clashFrom its S c x own k (m + j)
  | 0, k, h => (clashFrom_nil (0 + j) k (fun d hd => h d (by omega))).symm
  | m + 1, k, h => by
    rw [show m + 1 + j = (m + j) + 1 by omega, clashFrom, clashFrom, clashFrom_more j m (k + 1) (fun d hd => h d (by omega))]
theorem clash_three {its : List It} {n : Nat} {S : Ma} (hr : Rest n S) (hn : n ≤ 3) (c : Nat) (f : Fr) : clash its S n c f = clash its S 3 c f := by
  obtain ⟨j, hj⟩ : ∃ j, n + j = 3 := ⟨3 - n, by omega⟩
  unfold clash
  rw [← hj]
  exact clashFrom_more j n 0 (fun d hd => hr d (by omega))
/-- Who holds the lock that is wanted where d works. -/
def nx (its : List It) (S : Ma) (d : Nat) : Option Nat := (wantsF its (works S d)).bind (holder S 3)
/-- Whether those who hold lead to c, so many asked. -/
def leadsTo (its : List It) (S : Ma) (c : Nat) : Nat → Option Nat → Bool
  | 0, _ => false
  | _ + 1, none => false
  | m + 1, some d => if d = c then true else leadsTo its S c m (nx its S d)
theorem ringFrom_to {its : List It} {n : Nat} {S : Ma} (hr : Rest n S) (hn : n ≤ 3) (c : Nat) : ∀ (m k l : Nat), ringFrom its S n c (k + 1) m l = leadsTo its S c m (holder S 3 l)
  | 0, _, _ => by cases h : holder S 3 _ <;> rfl
  | m + 1, k, l => by
    rw [ringFrom, holder_three hr hn]
    cases holder S 3 l with
    | none => rfl
    | some d =>
      simp only [leadsTo]
      by_cases e : d = c
      · simp [e]
      · simp only [e, if_false]
        unfold nx
        cases wantsF its (works S d) with
        | none => cases m <;> rfl
        | some l' => exact ringFrom_to hr hn c m (k + 1) l'
theorem leadsTo_more {its : List It} {S : Ma} {c d0 : Nat} (hc : c < 3) (h0 : d0 < 3) (hne : d0 ≠ c) : leadsTo its S c 3 (nx its S d0) = leadsTo its S c 2 (nx its S d0) := by
  have hlt : ∀ d e, nx its S d = some e → e < 3 := by
    intro d e h
    unfold nx at h
    cases hw : wantsF its (works S d) with
    | none => rw [hw] at h; cases h
    | some l => rw [hw] at h; exact holder_in h
  cases h1 : nx its S d0 with
  | none => rfl
  | some d1 =>
    rw [leadsTo, leadsTo]
    by_cases e1 : d1 = c
    · simp [e1]
    simp only [e1, if_false]
    cases h2 : nx its S d1 with
    | none => rfl
    | some d2 =>
      rw [leadsTo, leadsTo]
      by_cases e2 : d2 = c
      · simp [e2]
      simp only [e2, if_false]
      have l1 := hlt _ _ h1
      have l2 := hlt _ _ h2
      have hh : d2 = d1 ∨ d2 = d0 ∨ d1 = d0 := by omega
      have hx : nx its S d2 ≠ some c := by
        rcases hh with e | e | e
        · rw [e, h2]; simpa using e2
        · rw [e, h1]; simpa using e1
        · rw [e] at h2; rw [h1] at h2; have e3 : d2 = d1 := by cases h2; rfl
          rw [e3, e, h1]; simpa using e1
      cases h3 : nx its S d2 with
      | none => rfl
      | some d3 =>
        rw [h3] at hx
        have e3 : d3 ≠ c := by simpa using hx
        simp [leadsTo, e3]
theorem ring_three {its : List It} {n : Nat} {S : Ma} (hr : Rest n S) (hn : n ≤ 3) (c l d0 : Nat) (hc : c < n) (hl : holder S 3 l = some d0) (hne : d0 ≠ c) : ring its S n c l = leadsTo its S c 3 (some d0) := by
  have h0 : d0 < n := holder_in (n := n) (l := l) (S := S) (by rw [holder_three hr hn]; exact hl)
  have e1 : ring its S n c l = leadsTo its S c n (nx its S d0) := by
    unfold ring
    rw [ringFrom, holder_three hr hn, hl]
    simp only [hne, if_false]
    unfold nx
    cases wantsF its (works S d0) with
    | none => cases n <;> rfl
    | some l' => exact ringFrom_to hr hn c n 0 l'
  rw [e1, leadsTo]
  simp only [hne, if_false]
  have hn2 : n = 2 ∨ n = 3 := by omega
  rcases hn2 with e | e
  · rw [e]
  · rw [e]; exact leadsTo_more (by omega) (by omega) hne
theorem takes_three {its : List It} {n : Nat} {S : Ma} (hr : Rest n S) (hn : n ≤ 3) (c : Nat) (f : Fr) (l : Nat) (hc : c < n) : takes its S n c f l = takes its S 3 c f l := by
  unfold takes
  rw [holder_three hr hn]
  cases hl : holder S 3 l with
  | none => rfl
  | some d =>
    simp only
    by_cases e : d = c
    · simp [e]
    · have hr3 : Rest 3 S := fun d hd => hr d (by omega)
      rw [ring_three hr hn c l d hc hl e, ring_three hr3 (Nat.le_refl _) c l d (by omega) hl e]
theorem step_three {its : List It} {n : Nat} {S : Ma} (hr : Rest n S) (hn : n ≤ 3) (c : Nat) (hc : c < n) (second : Bool) : step its S n c second = step its S 3 c second := by
  unfold Mc.step
  simp only [takes_three hr hn c _ _ hc, clash_three hr hn]
theorem command_three {its : List It} {n : Nat} {S : Ma} (hr : Rest n S) (hn : n ≤ 3) (c : Nat) (hc : c < n) (what : Int) : command its S n c what = command its S 3 c what := by
  unfold command
  rw [step_three hr hn c hc]
theorem Rest.setCp {n : Nat} {S : Ma} (hr : Rest n S) (c : Nat) (hc : c < n) (x : Cp) : Rest n (setCp S c x) := by
  intro d hd
  show (if d = c then x else S.cp d) = noCp
  rw [if_neg (by omega)]
  exact hr d hd
theorem Rest.leaves {n : Nat} {S : Ma} (hr : Rest n S) (c : Nat) (hc : c < n) (p : Nat) : Rest n (leaves S c p) := by
  unfold Mc.leaves
  exact Rest.setCp (S := setPl (setRd S _ true) _ p) hr c hc _
theorem Rest.step {its : List It} {n : Nat} {S : Ma} (hr : Rest n S) (m c : Nat) (hc : c < n) (second : Bool) : Rest n (step its S m c second).2 := by
  unfold Mc.step
  simp only
  split
  · exact hr
  split
  · split
    · exact hr
    · exact hr.setCp c hc _
  split
  · exact hr.setCp c hc _
  split
  · split
    · exact hr
    · exact hr.leaves c hc _
  split
  · exact hr
  · exact (hr.setCp c hc _).setCp c hc _
theorem Rest.command {its : List It} {n : Nat} {S : Ma} (hr : Rest n S) (m c : Nat) (hc : c < n) (what : Int) : Rest n (command its S m c what).2 := by
  unfold Mc.command
  split
  · exact hr.step m c hc _
  split
  · unfold comes
    split
    · exact hr
    split
    · split
      · exact hr
      · exact hr.setCp c hc _
    · split
      · exact hr
      · exact Rest.setCp (S := setRd S _ false) hr c hc _
  split
  · exact hr
  · exact hr.leaves c hc _
theorem Rest.begin_ (its : List It) (n : Nat) : Rest n (begin_ its) := fun _ _ => rfl
end Mc
end Go.Proofs.Ytecmfdkhcffpmab
/- Plain: on the machine all frames stand at places. -/
namespace Go.Proofs.Ytecmfdkhcffpmab
open Go.RowKit
set_option linter.unusedSimpArgs false
set_option linter.unusedVariables false
namespace Mc
open Wd

/-- A frame stands at a place. -/
def Sits (its : List It) (f : Fr) : Prop := f.there = true → Pl (bodyOf its f.item) f.pos
structure Ats (its : List It) (n : Nat) (S : Ma) : Prop where
  t : ∀ c, c < n → Sits its (S.cp c).t
  h : ∀ c, c < n → Sits its (S.cp c).h
  pl : ∀ i, i < its.length → Pl (bodyOf its i) (S.pl i)
theorem Sits.no (its : List It) : Sits its noFr := fun h => by simp [noFr] at h
theorem Ats.setCp {its : List It} {n : Nat} {S : Ma} (h : Ats its n S) (c : Nat) (x : Cp) (ht : Sits its x.t) (hh : Sits its x.h) : Ats its n (setCp S c x) := by
  refine ⟨fun d hd => ?_, fun d hd => ?_, h.pl⟩ <;> unfold Mc.setCp <;> by_cases e : d = c <;> simp only [e, if_true, if_false]
  · exact ht
  · exact h.t d hd
  · exact hh
  · exact h.h d hd
theorem Ats.setRd {its : List It} {n : Nat} {S : Ma} (h : Ats its n S) (i : Nat) (b : Bool) : Ats its n (setRd S i b) := ⟨h.t, h.h, h.pl⟩
theorem Ats.setPl {its : List It} {n : Nat} {S : Ma} (h : Ats its n S) (i p : Nat) (hp : i < its.length → Pl (bodyOf its i) p) : Ats its n (setPl S i p) := by
  refine ⟨h.t, h.h, fun j hj => ?_⟩
  unfold Mc.setPl
  by_cases e : j = i
  · subst e; simp only [if_true]; exact hp hj
  · simp only [e, if_false]; exact h.pl j hj
theorem Ats.begin_ (its : List It) (n : Nat) : Ats its n (begin_ its) := ⟨fun _ _ => Sits.no its, fun _ _ => Sits.no its, fun _ _ => Pl.zero _⟩
theorem Ats.works {its : List It} {n : Nat} {S : Ma} (h : Ats its n S) (c : Nat) (hc : c < n) : Sits its (works S c) := by
  unfold Mc.works
  split
  · exact h.h c hc
  · exact h.t c hc
theorem Ats.put {its : List It} {n : Nat} {S : Ma} (h : Ats its n S) (c : Nat) (hc : c < n) (f : Fr) (hf : Sits its f) : Ats its n (put S c f) := by
  unfold Mc.put
  refine h.setCp c _ ?_ ?_ <;> unfold putCp <;> split
  · exact h.t c hc
  · exact hf
  · exact hf
  · exact h.h c hc
theorem Ats.leaves {its : List It} {n : Nat} {S : Ma} (h : Ats its n S) (c : Nat) (hc : c < n) (p : Nat) (hp : Pl (bodyOf its (S.cp c).t.item) p) : Ats its n (leaves S c p) := by
  unfold Mc.leaves
  exact ((h.setRd _ _).setPl _ p (fun _ => hp)).setCp c _ (Sits.no its) (h.h c hc)
theorem behind_43 {b : List UInt8} {p : Nat} (second : Bool) (h : atB b p = 43) : behind b p second = p + 2 := by simp [behind, h]
theorem behind_122 {b : List UInt8} {p : Nat} (second : Bool) (h : atB b p = 122) : behind b p second = p + 1 := by simp [behind, h]
theorem takes_sits {its : List It} (hf : Fine its) {n : Nat} {S : Ma} (c : Nat) (f : Fr) (l : Nat) (hfr : f.there = true → f.item < its.length) (hs : Sits its f) (h43 : atB (bodyOf its f.item) f.pos = 43) : Sits its (takes its S n c f l).2 := by
  unfold takes
  split
  · split
    · exact hs
    · split
      · exact hs
      · exact hs
  · intro ht
    have ht : f.there = true := ht
    have := behind_pl (hf.bd _ (hfr ht)) f.pos (hs ht) (atB_lt (by rw [h43]; decide)) false
    rw [behind_43 _ h43] at this
    exact this
theorem alone_sits {its : List It} (hf : Fine its) {f : Fr} {hd off second : Bool} (hfr : f.there = true → f.item < its.length) (hs : Sits its f) (hp : f.pos < (bodyOf its f.item).length) : Sits its (alone (bodyOf its f.item) f hd off second).2.1 := by
  have hb : f.there = true → Pl (bodyOf its f.item) (behind (bodyOf its f.item) f.pos second) := fun ht => behind_pl (hf.bd _ (hfr ht)) f.pos (hs ht) hp second
  unfold alone
  split
  · split
    · exact hb
    · exact hs
  · split
    · split
      · exact hs
      · exact hb
    · exact hb
theorem Ats.step {its : List It} (hf : Fine its) {n : Nat} {S : Ma} (h : Ats its n S) (hi : Inv its n S) (c : Nat) (hc : c < n) (second : Bool) : Ats its n (step its S n c second).2 := by
  have hs := h.works c hc
  have hfr := works_fr hi c hc
  unfold Mc.step
  simp only
  split
  · exact h
  rename_i hth
  have hth : (Mc.works S c).there = true := by simpa using hth
  split
  · split
    · exact h
    · exact h.put c hc _ (Sits.no its)
  rename_i h101
  have hp := atB_lt h101
  split
  · rename_i h43
    exact h.put c hc _ (takes_sits hf c _ _ hfr.item hs h43)
  split
  · rename_i h122
    split
    · exact h
    · rename_i hb
      simp only [not_or] at hb
      have e : Mc.works S c = (S.cp c).t := by unfold Mc.works; rw [if_neg hb.1]
      have := behind_pl (hf.bd _ (hfr.item hth)) _ (hs hth) hp false
      rw [behind_122 _ h122] at this
      rw [e] at this ⊢
      exact h.leaves c hc _ this
  split
  · exact h
  · unfold Mc.lone setOff
    simp only
    have hput := h.put c hc _ (alone_sits hf (hd := (S.cp c).h.there) (off := (S.cp c).off) (second := second) hfr.item hs hp)
    exact hput.setCp c _ (hput.t c hc) (hput.h c hc)
theorem Ats.command {its : List It} (hf : Fine its) {n : Nat} {S : Ma} (h : Ats its n S) (hi : Inv its n S) (c : Nat) (hc : c < n) (what : Int) : Ats its n (command its S n c what).2 := by
  unfold Mc.command
  split
  · exact h.step hf hi c hc _
  split
  · unfold comes
    split
    · exact h
    rename_i h1
    simp only [not_or] at h1
    split
    · split
      · exact h
      · exact h.setCp c _ (h.t c hc) (fun _ => Pl.zero _)
    · split
      · exact h
      · exact (h.setRd _ false).setCp c _ (fun _ => h.pl _ (show (what - 48).toNat < its.length by omega)) (h.h c hc)
  split
  · exact h
  · rename_i hb
    simp only [not_or] at hb
    exact h.leaves c hc _ (h.t c hc (by simpa using hb.1))
end Mc
end Go.Proofs.Ytecmfdkhcffpmab
/- Plain: the program's words for what goes wrong with an item by itself. -/
namespace Go.Proofs.Ytecmfdkhcffpmab
open Go.RowKit
set_option linter.unusedSimpArgs false
set_option linter.unusedVariables false
open Mc
def hasB (h : Nat) (l : Int) : Bool := decide (0 ≤ l) && decide (l < 6) && holds h l.toNat
/-- The number of the lock or cell that the program reads at a place. -/
def numP (b : List UInt8) (p : Nat) : Int := if atB b p = 43 ∨ atB b p = 45 ∨ atB b p = 114 ∨ atB b p = 119 then num b p else -1
/-- What goes wrong, in the program's words. -/
def faultP (hd : Bool) (b : List UInt8) (p h : Nat) (off : Bool) : Int :=
  if atB b p = 43 then (if hasB h (numP b p) = true then 68 else 0)
  else if atB b p = 45 then (if hasB h (numP b p) = true then 0 else 85)
  else if atB b p = 122 then (if hd = true ∨ off = true ∨ (h == 0) = false then 83 else 0)
  else if atB b p = 60 ∨ atB b p = 62 then (if hd = true then 73 else 0)
  else if atB b p = 101 then (if (h == 0) = false ∨ (off = true ∧ hd = false) then 69 else 0)
  else 0
theorem numP_bd {b : List UInt8} (hok : PairOK b) (p : Nat) : -1 ≤ numP b p ∧ numP b p ≤ 5 := by
  unfold numP
  split
  · rename_i hc
    have hp : p < b.length := atB_lt (by rcases hc with e | e | e | e <;> rw [e] <;> decide)
    simp only [atB, hp, if_true] at hc
    have hk := hok p hp
    rcases hc with e | e | e | e
    · have := hk.1 (Or.inl e); rw [num, if_pos this.1]; split <;> omega
    · have := hk.1 (Or.inr e); rw [num, if_pos this.1]; split <;> omega
    · have := hk.2 (Or.inl e); rw [num, if_pos this.1]; split <;> omega
    · have := hk.2 (Or.inr e); rw [num, if_pos this.1]; split <;> omega
  · omega

end Go.Proofs.Ytecmfdkhcffpmab
