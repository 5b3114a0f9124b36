/- A function comes back to itself just if there is one that cannot be unfolded. -/
import Derived.Test.YtecmfdkhcffpmaaSame4
namespace Go.Proofs.Ytecmfdkhcffpmaa
set_option linter.unusedSimpArgs false
set_option linter.unusedVariables false
namespace Wd
theorem jLoop_eq (C : Nat → Bool) (k i : Nat) (hk : k < 8) (hi : i < 8) (m : Nat) (hm : m ≤ 8) (x y : Nat) (hx : x < 8) (hy : y < 8) :
    jLoop C k i m (x * 8 + y) = if x = i ∧ y < m then (C (i * 8 + y) || (C (i * 8 + k) && C (k * 8 + y))) else C (x * 8 + y) := by
  induction m generalizing x y with
  | zero => simp [jLoop]
  | succ m ih =>
    have h1 := ih (by omega) i m hi (by omega)
    have h2 := ih (by omega) i k hi hk
    have h3 := ih (by omega) k m hk (by omega)
    have h4 := ih (by omega) x y hx hy
    rw [if_neg (by omega)] at h1 h3
    have h2' : jLoop C k i m (i * 8 + k) = C (i * 8 + k) := by
      rw [h2]
      split
      · cases C (i * 8 + k) <;> simp
      · rfl
    simp only [jLoop, upd]
    by_cases e : x * 8 + y = i * 8 + m
    · have e1 : x = i := by omega
      have e2 : y = m := by omega
      subst e1 e2
      rw [if_pos rfl, h1, h2', h3, if_pos ⟨rfl, by omega⟩]
    · rw [if_neg e, h4]
      by_cases hc : x = i ∧ y < m
      · rw [if_pos hc, if_pos ⟨hc.1, by omega⟩]
      · rw [if_neg hc, if_neg (by omega)]
theorem iLoop_eq (B : Nat → Bool) (k : Nat) (hk : k < 8) (n : Nat) (hn : n ≤ 8) (x y : Nat) (hx : x < 8) (hy : y < 8) :
    iLoop B k n (x * 8 + y) = if x < n then (B (x * 8 + y) || (B (x * 8 + k) && B (k * 8 + y))) else B (x * 8 + y) := by
  induction n generalizing x y with
  | zero => simp [iLoop]
  | succ n ih =>
    simp only [iLoop]
    rw [jLoop_eq _ k n hk (by omega) 8 (by omega) x y hx hy]
    have h1 := ih (by omega) n y (by omega) hy
    have h2 := ih (by omega) n k (by omega) hk
    have h3 := ih (by omega) k y hk hy
    have h4 := ih (by omega) x y hx hy
    rw [if_neg (by omega)] at h1 h2
    have h3' : iLoop B k n (k * 8 + y) = B (k * 8 + y) := by
      rw [h3]
      split
      · cases B (k * 8 + y) <;> simp
      · rfl
    by_cases e : x = n
    · subst e
      rw [if_pos ⟨rfl, hy⟩, h1, h2, h3', if_pos (by omega)]
    · rw [if_neg (by omega), h4]
      by_cases hc : x < n
      · rw [if_pos hc, if_pos (by omega)]
      · rw [if_neg hc, if_neg (by omega)]
theorem kLoop_step (b : Nat → Bool) (k : Nat) (hk : k < 8) (x y : Nat) (hx : x < 8) (hy : y < 8) :
    kLoop b (k + 1) (x * 8 + y) = (kLoop b k (x * 8 + y) || (kLoop b k (x * 8 + k) && kLoop b k (k * 8 + y))) := by
  simp only [kLoop]
  rw [iLoop_eq _ k hk 8 (by omega) x y hx hy, if_pos hx]
theorem kLoop_mono (b : Nat → Bool) (k : Nat) (hk : k ≤ 8) (x y : Nat) (hx : x < 8) (hy : y < 8) (h : b (x * 8 + y) = true) : kLoop b k (x * 8 + y) = true := by
  induction k with
  | zero => exact h
  | succ k ih => rw [kLoop_step b k (by omega) x y hx hy, ih (by omega)]; rfl
theorem kLoop_trans (b : Nat → Bool) (k : Nat) (hk : k ≤ 8) (x m y : Nat) (hx : x < 8) (hmk : m < k) (hy : y < 8) (h1 : kLoop b k (x * 8 + m) = true) (h2 : kLoop b k (m * 8 + y) = true) : kLoop b k (x * 8 + y) = true := by
  induction k generalizing x m y with
  | zero => omega
  | succ k ih =>
    have hm : m < 8 := by omega
    rw [kLoop_step b k (by omega) _ _ hx hm] at h1
    rw [kLoop_step b k (by omega) _ _ hm hy] at h2
    rw [kLoop_step b k (by omega) _ _ hx hy]
    simp only [Bool.or_eq_true, Bool.and_eq_true] at h1 h2 ⊢
    by_cases e : m = k
    · subst e
      have a1 : kLoop b m (x * 8 + m) = true := by
        rcases h1 with h1 | h1
        · exact h1
        · exact h1.1
      have a2 : kLoop b m (m * 8 + y) = true := by
        rcases h2 with h2 | h2
        · exact h2
        · exact h2.2
      exact Or.inr ⟨a1, a2⟩
    · have hlt : m < k := by omega
      have ih' := ih (by omega)
      rcases h1 with h1 | ⟨h1, h1'⟩
      · rcases h2 with h2 | ⟨h2, h2'⟩
        · exact Or.inl (ih' x m y hx hlt hy h1 h2)
        · exact Or.inr ⟨ih' x m k hx hlt (by omega) h1 h2, h2'⟩
      · rcases h2 with h2 | ⟨h2, h2'⟩
        · exact Or.inr ⟨h1, ih' k m y (by omega) hlt hy h1' h2⟩
        · exact Or.inr ⟨h1, h2'⟩
theorem kLoop_least (b : Nat → Bool) (S : Nat → Nat → Prop) (hS : ∀ x y, x < 8 → y < 8 → b (x * 8 + y) = true → S x y) (hT : ∀ x m y, x < 8 → m < 8 → y < 8 → S x m → S m y → S x y) (k : Nat) (hk : k ≤ 8) (x y : Nat) (hx : x < 8) (hy : y < 8)
    (h : kLoop b k (x * 8 + y) = true) : S x y := by
  induction k generalizing x y with
  | zero => exact hS x y hx hy h
  | succ k ih =>
    rw [kLoop_step b k (by omega) _ _ hx hy] at h
    simp only [Bool.or_eq_true, Bool.and_eq_true] at h
    rcases h with h | ⟨h1, h2⟩
    · exact ih (by omega) x y hx hy h
    · exact hT x k y hx (by omega) hy (ih (by omega) x k hx (by omega) h1) (ih (by omega) k y (by omega) hy h2)
/-- Is the function y called, by and by, from the function x? -/
def reach (b : Nat → Bool) (x y : Nat) : Bool := kLoop b 8 (x * 8 + y)
theorem reach_trans {b : Nat → Bool} {x m y : Nat} (hx : x < 8) (hm : m < 8) (hy : y < 8) (h1 : reach b x m = true) (h2 : reach b m y = true) : reach b x y = true := kLoop_trans b 8 (by omega) x m y hx hm hy h1 h2
theorem reach_one {b : Nat → Bool} {x y : Nat} (hx : x < 8) (hy : y < 8) (h : b (x * 8 + y) = true) : reach b x y = true := kLoop_mono b 8 (by omega) x y hx hy h
theorem reach_first {b : Nat → Bool} {x y : Nat} (hx : x < 8) (hy : y < 8) (h : reach b x y = true) : ∃ g, g < 8 ∧ b (x * 8 + g) = true ∧ (g = y ∨ reach b g y = true) := by
  refine kLoop_least b (fun x y => ∃ g, g < 8 ∧ b (x * 8 + g) = true ∧ (g = y ∨ reach b g y = true)) ?_ ?_ 8 (by omega) x y hx hy h
  · intro x y _ hy hb; exact ⟨y, hy, hb, Or.inl rfl⟩
  · rintro x m y hx hm hy ⟨g, hg, hb, hgm⟩ ⟨g', hg', hb', hgy⟩
    have hmy : reach b m y = true := by
      rcases hgy with e | e
      · subst e; exact reach_one hm hg' hb'
      · exact reach_trans hm hg' hy (reach_one hm hg' hb') e
    refine ⟨g, hg, hb, Or.inr ?_⟩
    rcases hgm with e | e
    · subst e; exact hmy
    · exact reach_trans hg hm hy e hmy
/-- How many functions are called, by and by, from x. -/
def count (b : Nat → Bool) (x : Nat) : Nat := (List.range 8).countP (reach b x)
theorem countP_lt {p q : Nat → Bool} (l : List Nat) (h : ∀ x ∈ l, p x = true → q x = true) (hx : ∃ x ∈ l, q x = true ∧ p x = false) : l.countP p < l.countP q := by
  induction l with
  | nil => simp at hx
  | cons a r ih =>
    have hle : r.countP p ≤ r.countP q := List.countP_mono_left (fun y hy => h y (by simp [hy]))
    obtain ⟨x, hxm, hq, hp⟩ := hx
    simp only [List.mem_cons] at hxm
    rcases hxm with e | hxm
    · subst e
      rw [List.countP_cons_of_neg (by simp [hp]), List.countP_cons_of_pos hq]
      omega
    · have := ih (fun y hy => h y (by simp [hy])) ⟨x, hxm, hq, hp⟩
      by_cases ha : p a = true
      · rw [List.countP_cons_of_pos ha, List.countP_cons_of_pos (h a (by simp) ha)]; omega
      · rw [List.countP_cons_of_neg ha]
        by_cases hqa : q a = true
        · rw [List.countP_cons_of_pos hqa]; omega
        · rw [List.countP_cons_of_neg hqa]; omega
theorem count_lt {b : Nat → Bool} (hirr : ∀ i, i < 8 → reach b i i = false) {x g : Nat} (hx : x < 8) (hg : g < 8) (h : b (x * 8 + g) = true) : count b g < count b x := by
  refine countP_lt _ ?_ ⟨g, by simpa using hg, reach_one hx hg h, hirr g hg⟩
  intro y hy hr
  exact reach_trans hx hg (by simpa using hy) (reach_one hx hg h) hr
theorem count_bd {b : Nat → Bool} (hirr : ∀ i, i < 8 → reach b i i = false) {x : Nat} (hx : x < 8) : count b x < 8 := by
  have := countP_lt (p := reach b x) (q := fun _ => true) (List.range 8) (by simp) ⟨x, by simpa using hx, rfl, hirr x hx⟩
  simpa [count] using this
end Wd
end Go.Proofs.Ytecmfdkhcffpmaa
