/- Plain: items with which something goes wrong, and what is told of them. -/
import Derived.Test.YtecmfdkhcffpmabB45
namespace Go.Proofs.Ytecmfdkhcffpmab
open Go.RowKit
set_option linter.unusedSimpArgs false
set_option linter.unusedVariables false
open Mc
namespace Mc
open Wd
def lkB (a : Nat) : UInt8 := b8 (97 + a)
def clB (k : Nat) : UInt8 := b8 (48 + k)
def harmI (d a b k : Nat) : List (UInt8 × List UInt8) :=
  if d = 0 then [(116, [43, lkB a, 122, 45, lkB a])]
  else if d = 1 then [(116, [45, lkB a])]
  else if d = 2 then [(116, [91, 43, lkB a, 93])]
  else if d = 3 then [(116, [40, 43, lkB a, 124, 41])]
  else if d = 4 then [(104, [43, lkB a, 62, 45, lkB a])]
  else if d = 5 then [(116, [60, 122])]
  else if d = 6 then [(116, [43, lkB a, 43, lkB b, 45, lkB b, 45, lkB a]), (116, [43, lkB b, 43, lkB a, 45, lkB a, 45, lkB b])]
  else if d = 7 then [(116, [43, lkB a, 45, lkB a]), (104, [43, lkB a, 45, lkB a])]
  else if d = 8 then [(116, [43, lkB a, 119, clB k, 45, lkB a]), (116, [43, lkB b, 114, clB k, 45, lkB b])]
  else [(104, [119, clB k])]
def harmK (d : Nat) : Nat := if d = 0 then 3 else if d = 1 then 2 else if d = 2 then 1 else if d = 3 then 4 else if d = 4 then 5 else if d = 5 then 3 else if d = 6 then 6 else if d = 7 then 6 else 7
def harmP (d : Nat) : Int := if d = 0 then 2 else if d = 1 then 0 else if d = 2 then 1 else if d = 3 then 5 else if d = 4 then 2 else if d = 5 then 1 else -1
theorem wv_l {c : UInt8} {a : Nat} (hc : bt c = 43 ∨ bt c = 45) (ha : a < 6) : Wv [c, lkB a] := wv_two c (lkB a) hc (lk_b8 ha)
theorem wv_c {c : UInt8} {k : Nat} (hc : bt c = 114 ∨ bt c = 119) (hk : k < 4) : Wv [c, clB k] :=
  ⟨fun n => run2c c (clB k) hc (cl_b8 hk), ok2 (by rcases hc with h | h <;> rw [h] <;> decide) (cl_ok (cl_b8 hk))⟩
theorem wv_1 {c : UInt8} (hc : bt c = 60 ∨ bt c = 62 ∨ bt c = 122) : Wv [c] :=
  ⟨fun n => run1 c hc, ok1 (by rcases hc with h | h | h <;> rw [h] <;> decide)⟩
theorem wv_star {a : Nat} (ha : a < 6) : Wv [91, 43, lkB a, 93] := by
  match a, ha with
  | 0, _ | 1, _ | 2, _ | 3, _ | 4, _ | 5, _ =>
    refine ⟨fun n => rfl, ?_⟩
    unfold okB
    decide
theorem wv_alt {a : Nat} (ha : a < 6) : Wv [40, 43, lkB a, 124, 41] := by
  match a, ha with
  | 0, _ | 1, _ | 2, _ | 3, _ | 4, _ | 5, _ =>
    refine ⟨fun n => rfl, ?_⟩
    unfold okB
    decide
theorem harm_wv {d a b k : Nat} (ha : a < 6) (hb : b < 6) (hk : k < 4) : ∀ x ∈ harmI d a b k, WvI x := by
  have p43 : ∀ {a}, a < 6 → Wv [43, lkB a] := fun h => wv_l (by decide) h
  have p45 : ∀ {a}, a < 6 → Wv [45, lkB a] := fun h => wv_l (by decide) h
  intro x hx
  unfold harmI at hx
  split at hx
  · simp at hx; subst hx
    exact ⟨Or.inl rfl, wv_app (p43 ha) (wv_app (wv_1 (c := 122) (by decide)) (p45 ha))⟩
  split at hx
  · simp at hx; subst hx
    exact ⟨Or.inl rfl, p45 ha⟩
  split at hx
  · simp at hx; subst hx
    exact ⟨Or.inl rfl, wv_star ha⟩
  split at hx
  · simp at hx; subst hx
    exact ⟨Or.inl rfl, wv_alt ha⟩
  split at hx
  · simp at hx; subst hx
    exact ⟨Or.inr rfl, wv_app (p43 ha) (wv_app (wv_1 (c := 62) (by decide)) (p45 ha))⟩
  split at hx
  · simp at hx; subst hx
    exact ⟨Or.inl rfl, wv_app (wv_1 (c := 60) (by decide)) (wv_1 (c := 122) (by decide))⟩
  split at hx
  · simp at hx
    rcases hx with rfl | rfl
    · exact ⟨Or.inl rfl, wv_app (p43 ha) (wv_app (p43 hb) (wv_app (p45 hb) (p45 ha)))⟩
    · exact ⟨Or.inl rfl, wv_app (p43 hb) (wv_app (p43 ha) (wv_app (p45 ha) (p45 hb)))⟩
  split at hx
  · simp at hx
    rcases hx with rfl | rfl
    · exact ⟨Or.inl rfl, wv_app (p43 ha) (p45 ha)⟩
    · exact ⟨Or.inr rfl, wv_app (p43 ha) (p45 ha)⟩
  split at hx
  · simp at hx
    rcases hx with rfl | rfl
    · exact ⟨Or.inl rfl, wv_app (p43 ha) (wv_app (wv_c (c := 119) (by decide) hk) (p45 ha))⟩
    · exact ⟨Or.inl rfl, wv_app (p43 hb) (wv_app (wv_c (c := 114) (by decide) hk) (p45 hb))⟩
  · simp at hx; subst hx
    exact ⟨Or.inr rfl, wv_c (by decide) hk⟩
theorem harm_len (d a b k : Nat) : (harmI d a b k).length ≤ 2 ∧ (flat (harmI d a b k)).length ≤ 22 := by
  unfold harmI
  repeat' split
  all_goals simp [flat]
theorem solo_mem {its : List It} {k i p : Nat} (hk : 1 ≤ k) (hk5 : k ≤ 5) (hi : i < its.length) (hp : p < (bodyOf its i).length + 1) (hb : BadAt (isH its i) (bodyOf its i) k p) : ((k : Int), (i : Int), (p : Int)) ∈ analyseS its := by
  unfold analyseS
  rw [List.mem_append, List.mem_append]
  left; left
  unfold soloS solos
  rw [List.mem_flatMap]
  refine ⟨k - 1, by simp; omega, ?_⟩
  rw [show k - 1 + 1 = k by omega]
  unfold soloK
  rw [List.mem_flatMap]
  refine ⟨i, by simpa using hi, ?_⟩
  unfold soloRow
  rw [List.mem_map]
  refine ⟨p, ?_, rfl⟩
  rw [List.mem_filter]
  exact ⟨by simpa using hp, by simpa using hb⟩
theorem ring_mem {its : List It} {l : Nat} (hl : l < 6) (hw : Way (edgeS its) 6 l l) : ((6 : Int), (-1 : Int), (l : Int)) ∈ analyseS its := by
  unfold analyseS
  rw [List.mem_append, List.mem_append]
  left; right
  unfold ringL
  rw [List.mem_map]
  refine ⟨l, ?_, rfl⟩
  rw [List.mem_filter]
  exact ⟨by simpa using hl, (fwK_way _ 6 (Nat.le_refl _) l l hl hl).2 hw⟩
theorem race_mem {its : List It} {c : Nat} (hc : c < 4) (hr : Race its c) : ((7 : Int), (-1 : Int), (c : Int)) ∈ analyseS its := by
  unfold analyseS
  rw [List.mem_append]
  right
  unfold raceS raceL
  rw [List.mem_map]
  refine ⟨c, ?_, rfl⟩
  rw [List.mem_filter]
  exact ⟨by simpa using hc, by simpa using hr⟩
theorem body_app {rs hs : List (UInt8 × List UInt8)} {j : Nat} {x : UInt8 × List UInt8} (h : hs[j]? = some x) : rs.length + j < ((rs ++ hs).map itOf).length ∧ bodyOf ((rs ++ hs).map itOf) (rs.length + j) = x.2 ∧ isH ((rs ++ hs).map itOf) (rs.length + j) = (bt x.1 == 104) := by
  have hj := (List.getElem?_eq_some_iff.1 h).1
  have e : ((rs ++ hs).map itOf)[rs.length + j]? = some (itOf x) := by
    rw [List.getElem?_map, List.getElem?_append_right (by omega), show rs.length + j - rs.length = j by omega, h]; rfl
  refine ⟨by simp; omega, ?_, ?_⟩
  · unfold bodyOf; rw [List.getD_eq_getElem?_getD, e]; rfl
  · unfold isH; rw [List.getD_eq_getElem?_getD, e]; rfl
theorem solo_app {rs hs : List (UInt8 × List UInt8)} {k p : Nat} {x : UInt8 × List UInt8} (hk : 1 ≤ k) (hk5 : k ≤ 5) (h : hs[0]? = some x) (hp : p < x.2.length + 1) {hd : Bool} (hh : (bt x.1 == 104) = hd) (hb : BadAt hd x.2 k p) : ((k : Int), (rs.length : Int), (p : Int)) ∈ analyseS ((rs ++ hs).map itOf) := by
  obtain ⟨h1, h2, h3⟩ := body_app (rs := rs) h
  have := solo_mem (its := (rs ++ hs).map itOf) (k := k) (i := rs.length + 0) (p := p) hk hk5 h1 (by rw [h2]; exact hp) (by rw [h2, h3, hh]; exact hb)
  exact this
/-- One step from the beginning. -/
theorem rch1 {hd : Bool} {b : List UInt8} {s : St3} (c : Bool) (h : stp hd b (0, 0, hd) c = s) : Rch hd b s := by
  rw [← h]; exact Rch.begin.step c
theorem rch2 {hd : Bool} {b : List UInt8} {s : St3} (c d : Bool) (h : stp hd b (stp hd b (0, 0, hd) c) d = s) : Rch hd b s := by
  rw [← h]; exact (Rch.begin.step c).step d
theorem h0 : ∀ a, a < 6 → stp false [43, lkB a, 122, 45, lkB a] (0, 0, false) false = (2, 2 ^ a, false) ∧ kd false [43, lkB a, 122, 45, lkB a] (2, 2 ^ a, false) = 3 := by decide
theorem h1 : ∀ a, a < 6 → kd false [45, lkB a] (0, 0, false) = 2 := by decide
theorem h2 : ∀ a, a < 6 → stp false [91, 43, lkB a, 93] (stp false [91, 43, lkB a, 93] (stp false [91, 43, lkB a, 93] (stp false [91, 43, lkB a, 93] (0, 0, false) false) false) false) false = (1, 2 ^ a, false) ∧ kd false [91, 43, lkB a, 93] (1, 2 ^ a, false) = 1 := by decide
theorem h3 : ∀ a, a < 6 → stp false [40, 43, lkB a, 124, 41] (stp false [40, 43, lkB a, 124, 41] (stp false [40, 43, lkB a, 124, 41] (0, 0, false) false) false) false = (5, 2 ^ a, false) ∧ kd false [40, 43, lkB a, 124, 41] (5, 2 ^ a, false) = 4 := by decide
theorem h4 : ∀ a, a < 6 → stp true [43, lkB a, 62, 45, lkB a] (0, 0, true) false = (2, 2 ^ a, true) ∧ kd true [43, lkB a, 62, 45, lkB a] (2, 2 ^ a, true) = 5 := by decide
theorem h5 : stp false [60, 122] (0, 0, false) false = (1, 0, true) ∧ kd false [60, 122] (1, 0, true) = 3 := by decide
theorem h6 : ∀ a, a < 6 → ∀ b, b < 6 → (a == b || (decide (stp false [43, lkB a, 43, lkB b, 45, lkB b, 45, lkB a] (0, 0, false) false = (2, 2 ^ a, false)) && (tkP [43, lkB a, 43, lkB b, 45, lkB b, 45, lkB a] 2 (2 ^ a)).testBit b)) = true := by decide
theorem h7 : ∀ a, a < 6 → stp false [43, lkB a, 45, lkB a] (0, 0, false) false = (2, 2 ^ a, false) ∧ (tkP [43, lkB a, 45, lkB a] 0 0).testBit a = true := by decide
theorem h8 : ∀ a, a < 6 → ∀ k, k < 4 → (decide (stp false [43, lkB a, 119, clB k, 45, lkB a] (0, 0, false) false = (2, 2 ^ a, false)) && decide (atB [43, lkB a, 119, clB k, 45, lkB a] 2 = 119) && decide (numP [43, lkB a, 119, clB k, 45, lkB a] 2 = k)) = true := by decide
theorem h8' : ∀ a, a < 6 → ∀ k, k < 4 → (decide (stp false [43, lkB a, 114, clB k, 45, lkB a] (0, 0, false) false = (2, 2 ^ a, false)) && decide (atB [43, lkB a, 114, clB k, 45, lkB a] 2 = 114) && decide (numP [43, lkB a, 114, clB k, 45, lkB a] 2 = k)) = true := by decide
theorem h9 : ∀ k, k < 4 → atB [119, clB k] 0 = 119 ∧ numP [119, clB k] 0 = k := by decide
theorem pow_and : ∀ a, a < 6 → ∀ b, b < 6 → (a == b || (2 ^ a &&& 2 ^ b == 0)) = true := by decide
theorem edge_it {rs hs : List (UInt8 × List UInt8)} {j l m : Nat} {x : UInt8 × List UInt8} (h : hs[j]? = some x) {hd : Bool} (hh : (bt x.1 == 104) = hd) (he : EdgeI hd x.2 l m) : Eg ((rs ++ hs).map itOf) l m := by
  obtain ⟨h1, h2, h3⟩ := body_app (rs := rs) h
  exact Or.inl ⟨_, h1, by rw [h2, h3, hh]; exact he⟩
/-- What goes wrong is told. -/
theorem harm_told (rs : List (UInt8 × List UInt8)) {d a b k : Nat} (hd : d < 10) (ha : a < 6) (hb : b < 6) (hk : k < 4) (hab : a ≠ b) :
    ((harmK d : Int), (if harmK d = 6 then (-1, (a : Int)) else if harmK d = 7 then (-1, (k : Int)) else ((rs.length : Int), harmP d) : Int × Int)) ∈ analyseS ((rs ++ harmI d a b k).map itOf) := by
  match d, hd with
  | 0, _ => exact solo_app (rs := rs) (k := 3) (p := 2) (x := (116, [43, lkB a, 122, 45, lkB a])) (by decide) (by decide) rfl (by simp) (hd := false) rfl ⟨_, _, rch1 false (h0 a ha).1, (h0 a ha).2⟩
  | 1, _ => exact solo_app (rs := rs) (k := 2) (p := 0) (x := (116, [45, lkB a])) (by decide) (by decide) rfl (by simp) (hd := false) rfl ⟨_, _, Rch.begin, h1 a ha⟩
  | 2, _ => exact solo_app (rs := rs) (k := 1) (p := 1) (x := (116, [91, 43, lkB a, 93])) (by decide) (by decide) rfl (by simp) (hd := false) rfl ⟨_, _, by rw [← (h2 a ha).1]; exact (((Rch.begin.step false).step false).step false).step false, (h2 a ha).2⟩
  | 3, _ => exact solo_app (rs := rs) (k := 4) (p := 5) (x := (116, [40, 43, lkB a, 124, 41])) (by decide) (by decide) rfl (by simp) (hd := false) rfl ⟨_, _, by rw [← (h3 a ha).1]; exact ((Rch.begin.step false).step false).step false, (h3 a ha).2⟩
  | 4, _ => exact solo_app (rs := rs) (k := 5) (p := 2) (x := (104, [43, lkB a, 62, 45, lkB a])) (by decide) (by decide) rfl (by simp) (hd := true) rfl ⟨_, _, rch1 false (h4 a ha).1, (h4 a ha).2⟩
  | 5, _ => exact solo_app (rs := rs) (k := 3) (p := 1) (x := (116, [60, 122])) (by decide) (by decide) rfl (by simp) (hd := false) rfl ⟨_, _, rch1 false h5.1, h5.2⟩
  | 6, _ =>
    have e1 := h6 a ha b hb
    have e2 := h6 b hb a ha
    simp only [Bool.or_eq_true, beq_iff_eq, Bool.and_eq_true, decide_eq_true_eq] at e1 e2
    rcases e1 with e1 | ⟨e1, t1⟩
    · exact absurd e1 hab
    rcases e2 with e2 | ⟨e2, t2⟩
    · exact absurd e2.symm hab
    have g1 : Eg ((rs ++ harmI 6 a b k).map itOf) a b := edge_it (j := 0) (x := (116, [43, lkB a, 43, lkB b, 45, lkB b, 45, lkB a])) rfl (hd := false) rfl ⟨_, rch1 false e1, by simp, t1⟩
    have g2 : Eg ((rs ++ harmI 6 a b k).map itOf) b a := edge_it (j := 1) (x := (116, [43, lkB b, 43, lkB a, 45, lkB a, 45, lkB b])) rfl (hd := false) rfl ⟨_, rch1 false e2, by simp, t2⟩
    exact ring_mem ha (.more (eg_way g1) hb (.one (eg_way g2)))
  | 7, _ =>
    obtain ⟨i1, i2, i3⟩ := body_app (rs := rs) (hs := harmI 7 a b k) (j := 0) (x := (116, [43, lkB a, 45, lkB a])) rfl
    obtain ⟨j1, j2, j3⟩ := body_app (rs := rs) (hs := harmI 7 a b k) (j := 1) (x := (104, [43, lkB a, 45, lkB a])) rfl
    have g : Eg ((rs ++ harmI 7 a b k).map itOf) a a := by
      right
      refine ⟨⟨_, i1, ?_⟩, ⟨_, j1, ?_⟩⟩
      · rw [i2, i3]
        exact ⟨rfl, _, rch1 false (h7 a ha).1, rfl, by simp⟩
      · rw [j2, j3]
        exact ⟨rfl, _, Rch.begin, (h7 a ha).2⟩
    exact ring_mem ha (.one (eg_way g))
  | 8, _ =>
    obtain ⟨i1, i2, i3⟩ := body_app (rs := rs) (hs := harmI 8 a b k) (j := 0) (x := (116, [43, lkB a, 119, clB k, 45, lkB a])) rfl
    obtain ⟨j1, j2, j3⟩ := body_app (rs := rs) (hs := harmI 8 a b k) (j := 1) (x := (116, [43, lkB b, 114, clB k, 45, lkB b])) rfl
    have e1 := h8 a ha k hk
    have e2 := h8' b hb k hk
    have e3 := pow_and a ha b hb
    simp only [Bool.or_eq_true, beq_iff_eq, Bool.and_eq_true, decide_eq_true_eq] at e1 e2 e3
    rcases e3 with e3 | e3
    · exact absurd e3 hab
    refine race_mem hk ⟨_, _, i1, j1, fun e => by omega, ?_⟩
    rw [i2, i3, j2, j3]
    exact ⟨_, _, rch1 false e1.1.1, rch1 false e2.1.1, ⟨⟨Or.inr e1.1.2, e1.2⟩, e1.1.2⟩, ⟨Or.inl e2.1.2, e2.2⟩, e3⟩
  | 9, _ =>
    obtain ⟨i1, i2, i3⟩ := body_app (rs := rs) (hs := harmI 9 a b k) (j := 0) (x := (104, [119, clB k])) rfl
    refine race_mem hk ⟨_, _, i1, i1, fun _ => by rw [i3]; rfl, ?_⟩
    rw [i2, i3]
    have e := h9 k hk
    exact ⟨_, _, Rch.begin, Rch.begin, ⟨⟨Or.inr e.1, e.2⟩, e.1⟩, ⟨Or.inr e.1, e.2⟩, by simp⟩
end Mc
end Go.Proofs.Ytecmfdkhcffpmab
