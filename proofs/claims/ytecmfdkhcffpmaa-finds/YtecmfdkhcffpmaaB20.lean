/- Same5, Same6, Same7. -/
import Derived.Test.YtecmfdkhcffpmaaB19
/- A function comes back to itself just if there is one that cannot be unfolded. -/
namespace Go.Proofs.Ytecmfdkhcffpmaa
set_option linter.unusedSimpArgs false
set_option linter.unusedVariables false
namespace Wd
theorem jLoop_eq (C : Nat → Bool) (k i : Nat) (hk : k < 8) (hi : i < 8) (m : Nat) (hm : m ≤ 8) (x y : Nat) (hx : x < 8) (hy : y < 8) :
    jLoop C k i m (x * 8 + y) = if x = i ∧ y < m then (C (i * 8 + y) || (C (i * 8 + k) && C (k * 8 + y))) else C (x * 8 + y) := by
  induction m generalizing x y with
  | zero => simp [jLoop]
  | succ m ih =>
    have h1 := ih (by omega) i m hi (by omega)
    have h2 := ih (by omega) i k hi hk
    have h3 := ih (by omega) k m hk (by omega)
    have h4 := ih (by omega) x y hx hy
    rw [if_neg (by omega)] at h1 h3
    have h2' : jLoop C k i m (i * 8 + k) = C (i * 8 + k) := by
      rw [h2]
      split
      · cases C (i * 8 + k) <;> simp
      · rfl
    simp only [jLoop, upd]
    by_cases e : x * 8 + y = i * 8 + m
    · have e1 : x = i := by omega
      have e2 : y = m := by omega
      subst e1 e2
      rw [if_pos rfl, h1, h2', h3, if_pos ⟨rfl, by omega⟩]
    · rw [if_neg e, h4]
      by_cases hc : x = i ∧ y < m
      · rw [if_pos hc, if_pos ⟨hc.1, by omega⟩]
      · rw [if_neg hc, if_neg (by omega)]
theorem iLoop_eq (B : Nat → Bool) (k : Nat) (hk : k < 8) (n : Nat) (hn : n ≤ 8) (x y : Nat) (hx : x < 8) (hy : y < 8) :
    iLoop B k n (x * 8 + y) = if x < n then (B (x * 8 + y) || (B (x * 8 + k) && B (k * 8 + y))) else B (x * 8 + y) := by
  induction n generalizing x y with
  | zero => simp [iLoop]
  | succ n ih =>
    simp only [iLoop]
    rw [jLoop_eq _ k n hk (by omega) 8 (by omega) x y hx hy]
    have h1 := ih (by omega) n y (by omega) hy
    have h2 := ih (by omega) n k (by omega) hk
    have h3 := ih (by omega) k y hk hy
    have h4 := ih (by omega) x y hx hy
    rw [if_neg (by omega)] at h1 h2
    have h3' : iLoop B k n (k * 8 + y) = B (k * 8 + y) := by
      rw [h3]
      split
      · cases B (k * 8 + y) <;> simp
      · rfl
    by_cases e : x = n
    · subst e
      rw [if_pos ⟨rfl, hy⟩, h1, h2, h3', if_pos (by omega)]
    · rw [if_neg (by omega), h4]
      by_cases hc : x < n
      · rw [if_pos hc, if_pos (by omega)]
      · rw [if_neg hc, if_neg (by omega)]
theorem kLoop_step (b : Nat → Bool) (k : Nat) (hk : k < 8) (x y : Nat) (hx : x < 8) (hy : y < 8) :
    kLoop b (k + 1) (x * 8 + y) = (kLoop b k (x * 8 + y) || (kLoop b k (x * 8 + k) && kLoop b k (k * 8 + y))) := by
  simp only [kLoop]
  rw [iLoop_eq _ k hk 8 (by omega) x y hx hy, if_pos hx]
theorem kLoop_mono (b : Nat → Bool) (k : Nat) (hk : k ≤ 8) (x y : Nat) (hx : x < 8) (hy : y < 8) (h : b (x * 8 + y) = true) : kLoop b k (x * 8 + y) = true := by
  induction k with
  | zero => exact h
  | succ k ih => rw [kLoop_step b k (by omega) x y hx hy, ih (by omega)]; rfl
theorem kLoop_trans (b : Nat → Bool) (k : Nat) (hk : k ≤ 8) (x m y : Nat) (hx : x < 8) (hmk : m < k) (hy : y < 8) (h1 : kLoop b k (x * 8 + m) = true) (h2 : kLoop b k (m * 8 + y) = true) : kLoop b k (x * 8 + y) = true := by
  induction k generalizing x m y with
  | zero => omega
  | succ k ih =>
    have hm : m < 8 := by omega
    rw [kLoop_step b k (by omega) _ _ hx hm] at h1
    rw [kLoop_step b k (by omega) _ _ hm hy] at h2
    rw [kLoop_step b k (by omega) _ _ hx hy]
    simp only [Bool.or_eq_true, Bool.and_eq_true] at h1 h2 ⊢
    by_cases e : m = k
    · subst e
      have a1 : kLoop b m (x * 8 + m) = true := by
        rcases h1 with h1 | h1
        · exact h1
        · exact h1.1
      have a2 : kLoop b m (m * 8 + y) = true := by
        rcases h2 with h2 | h2
        · exact h2
        · exact h2.2
      exact Or.inr ⟨a1, a2⟩
    · have hlt : m < k := by omega
      have ih' := ih (by omega)
      rcases h1 with h1 | ⟨h1, h1'⟩
      · rcases h2 with h2 | ⟨h2, h2'⟩
        · exact Or.inl (ih' x m y hx hlt hy h1 h2)
        · exact Or.inr ⟨ih' x m k hx hlt (by omega) h1 h2, h2'⟩
      · rcases h2 with h2 | ⟨h2, h2'⟩
        · exact Or.inr ⟨h1, ih' k m y (by omega) hlt hy h1' h2⟩
        · exact Or.inr ⟨h1, h2'⟩
theorem kLoop_least (b : Nat → Bool) (S : Nat → Nat → Prop) (hS : ∀ x y, x < 8 → y < 8 → b (x * 8 + y) = true → S x y) (hT : ∀ x m y, x < 8 → m < 8 → y < 8 → S x m → S m y → S x y) (k : Nat) (hk : k ≤ 8) (x y : Nat) (hx : x < 8) (hy : y < 8)
    (h : kLoop b k (x * 8 + y) = true) : S x y := by
  induction k generalizing x y with
  | zero => exact hS x y hx hy h
  | succ k ih =>
    rw [kLoop_step b k (by omega) _ _ hx hy] at h
    simp only [Bool.or_eq_true, Bool.and_eq_true] at h
    rcases h with h | ⟨h1, h2⟩
    · exact ih (by omega) x y hx hy h
    · exact hT x k y hx (by omega) hy (ih (by omega) x k hx (by omega) h1) (ih (by omega) k y (by omega) hy h2)
/-- Is the function y called, by and by, from the function x? -/
def reach (b : Nat → Bool) (x y : Nat) : Bool := kLoop b 8 (x * 8 + y)
theorem reach_trans {b : Nat → Bool} {x m y : Nat} (hx : x < 8) (hm : m < 8) (hy : y < 8) (h1 : reach b x m = true) (h2 : reach b m y = true) : reach b x y = true := kLoop_trans b 8 (by omega) x m y hx hm hy h1 h2
theorem reach_one {b : Nat → Bool} {x y : Nat} (hx : x < 8) (hy : y < 8) (h : b (x * 8 + y) = true) : reach b x y = true := kLoop_mono b 8 (by omega) x y hx hy h
theorem reach_first {b : Nat → Bool} {x y : Nat} (hx : x < 8) (hy : y < 8) (h : reach b x y = true) : ∃ g, g < 8 ∧ b (x * 8 + g) = true ∧ (g = y ∨ reach b g y = true) := by
  refine kLoop_least b (fun x y => ∃ g, g < 8 ∧ b (x * 8 + g) = true ∧ (g = y ∨ reach b g y = true)) ?_ ?_ 8 (by omega) x y hx hy h
  · intro x y _ hy hb; exact ⟨y, hy, hb, Or.inl rfl⟩
  · rintro x m y hx hm hy ⟨g, hg, hb, hgm⟩ ⟨g', hg', hb', hgy⟩
    have hmy : reach b m y = true := by
      rcases hgy with e | e
      · subst e; exact reach_one hm hg' hb'
      · exact reach_trans hm hg' hy (reach_one hm hg' hb') e
    refine ⟨g, hg, hb, Or.inr ?_⟩
    rcases hgm with e | e
    · subst e; exact hmy
    · exact reach_trans hg hm hy e hmy
/-- How many functions are called, by and by, from x. -/
def count (b : Nat → Bool) (x : Nat) : Nat := (List.range 8).countP (reach b x)
theorem countP_lt {p q : Nat → Bool} (l : List Nat) (h : ∀ x ∈ l, p x = true → q x = true) (hx : ∃ x ∈ l, q x = true ∧ p x = false) : l.countP p < l.countP q := by
  induction l with
  | nil => simp at hx
  | cons a r ih =>
    have hle : r.countP p ≤ r.countP q := List.countP_mono_left (fun y hy => h y (by simp [hy]))
    obtain ⟨x, hxm, hq, hp⟩ := hx
    simp only [List.mem_cons] at hxm
    rcases hxm with e | hxm
    · subst e
      rw [List.countP_cons_of_neg (by simp [hp]), List.countP_cons_of_pos hq]
      omega
    · have := ih (fun y hy => h y (by simp [hy])) ⟨x, hxm, hq, hp⟩
      by_cases ha : p a = true
      · rw [List.countP_cons_of_pos ha, List.countP_cons_of_pos (h a (by simp) ha)]; omega
      · rw [List.countP_cons_of_neg ha]
        by_cases hqa : q a = true
        · rw [List.countP_cons_of_pos hqa]; omega
        · rw [List.countP_cons_of_neg hqa]; omega
theorem count_lt {b : Nat → Bool} (hirr : ∀ i, i < 8 → reach b i i = false) {x g : Nat} (hx : x < 8) (hg : g < 8) (h : b (x * 8 + g) = true) : count b g < count b x := by
  refine countP_lt _ ?_ ⟨g, by simpa using hg, reach_one hx hg h, hirr g hg⟩
  intro y hy hr
  exact reach_trans hx hg (by simpa using hy) (reach_one hx hg h) hr
theorem count_bd {b : Nat → Bool} (hirr : ∀ i, i < 8 → reach b i i = false) {x : Nat} (hx : x < 8) : count b x < 8 := by
  have := countP_lt (p := reach b x) (q := fun _ => true) (List.range 8) (by simp) ⟨x, by simpa using hx, rfl, hirr x hx⟩
  simpa [count] using this
end Wd
end Go.Proofs.Ytecmfdkhcffpmaa
/- Rounds of unfolding: a function is left just if one comes back to itself. -/
namespace Go.Proofs.Ytecmfdkhcffpmaa
set_option linter.unusedSimpArgs false
set_option linter.unusedVariables false
namespace Wd
/-- The functions as they are taken out of a text whose names are right. -/
structure Init (F : Nat → Fn) : Prop where
  done0 : ∀ j, (F j).done = false
  there : ∀ f c, c ∈ (F f).body → up (bt c) = true → (F (bt c - 65).toNat).there = true
  bare : ∀ f, (F f).there = false → (F f).body = []
def callB (F : Nat → Fn) (j : Nat) : Bool := decide (j / 8 < 8) && callRow (F (j / 8)).body (j % 8)
theorem callB_at (F : Nat → Fn) (x g : Nat) (hx : x < 8) (hg : g < 8) : callB F (x * 8 + g) = callRow (F x).body g := by
  simp only [callB]
  rw [show (x * 8 + g) / 8 = x from by omega, show (x * 8 + g) % 8 = g from by omega]
  simp [hx]
theorem callRow_iff (b : List UInt8) (g : Nat) : callRow b g = true ↔ ∃ c ∈ b, bt c = 65 + (g : Int) := by simp [callRow]
theorem allDone_iff (G : Nat → Fn) (l : List UInt8) : allDone G l = true ↔ ∀ c ∈ l, up (bt c) = true → (G (bt c - 65).toNat).done = true := by
  unfold allDone
  rw [Option.isNone_iff_eq_none]
  unfold first
  rw [List.find?_range_eq_none]
  constructor
  · intro h c hc hu
    obtain ⟨i, hi, e⟩ := List.getElem_of_mem hc
    have := h i hi
    have ea : at_ l i = bt c := by simp [at_, bt, hi, e]
    simp [undoneP, ea, hu] at this
    exact this
  · intro h i hi
    have ea : at_ l i = bt l[i] := by simp [at_, bt, hi]
    have := h l[i] (List.getElem_mem hi)
    simp only [undoneP, ea]
    cases hu : up (bt l[i]) with
    | false => rfl
    | true => simp [this hu]
def SameFB (G F : Nat → Fn) : Prop := ∀ j, (G j).there = (F j).there ∧ (G j).body = (F j).body
theorem newFn_same (G : Nat → Fn) (f : Fn) : (newFn G f).there = f.there ∧ (newFn G f).body = f.body ∧ (newFn G f).done = true := by
  unfold newFn; split <;> exact ⟨rfl, rfl, rfl⟩
theorem readyStep_same {G F : Nat → Fn} (h : SameFB G F) (n : Nat) : SameFB (readyStep G n) F := by
  intro j
  unfold readyStep
  split
  · by_cases e : j = n
    · subst e; simp only [if_true]
      obtain ⟨a, b, _⟩ := newFn_same G (G j)
      rw [a, b]; exact h j
    · simp only [e, if_false]; exact h j
  · exact h j
theorem readyTo_same {G F : Nat → Fn} (h : SameFB G F) (n : Nat) : SameFB (readyTo G n) F := by
  induction n with
  | zero => exact h
  | succ n ih => exact readyStep_same ih n
theorem roundsTo_same (F : Nat → Fn) (r : Nat) : SameFB (roundsTo F r) F := by
  induction r with
  | zero => exact fun j => ⟨rfl, rfl⟩
  | succ r ih => exact readyTo_same ih 8
theorem readyStep_done {G : Nat → Fn} {j : Nat} (h : (G j).done = true) (n : Nat) : (readyStep G n j).done = true := by
  unfold readyStep
  split
  · by_cases e : j = n
    · subst e; simp only [if_true]; exact (newFn_same G (G j)).2.2
    · simp only [e, if_false]; exact h
  · exact h
theorem readyTo_done {G : Nat → Fn} {j : Nat} (n m : Nat) (h : (readyTo G n j).done = true) : (readyTo G (n + m) j).done = true := by
  induction m with
  | zero => exact h
  | succ m ih => exact readyStep_done ih (n + m)
theorem allDone_mono {G H : Nat → Fn} (h : ∀ j, (G j).done = true → (H j).done = true) (l : List UInt8) (hd : allDone G l = true) : allDone H l = true := by
  rw [allDone_iff] at hd ⊢
  exact fun c hc hu => h _ (hd c hc hu)
theorem ready_done {G : Nat → Fn} {u : Nat} (hu : u < 8) (ht : (G u).there = true) (hd : allDone G (G u).body = true) : (readyTo G 8 u).done = true := by
  have hs := readyTo_same (G := G) (F := G) (fun j => ⟨rfl, rfl⟩) u
  have h1 : (readyTo G (u + 1) u).done = true := by
    simp only [readyTo]
    generalize hH : readyTo G u = H at hs
    have hall : allDone H (H u).body = true := by
      rw [(hs u).2]
      refine allDone_mono (fun j hj => ?_) _ hd
      rw [← hH]
      have := readyTo_done (G := G) (j := j) 0 u hj
      simpa using this
    by_cases hdn : (H u).done = true
    · exact readyStep_done hdn u
    · unfold readyStep
      rw [if_pos ⟨by rw [(hs u).1]; exact ht, by simpa using hdn, hall⟩]
      simp only [if_true]
      exact (newFn_same H (H u)).2.2
  have := readyTo_done (u + 1) (8 - (u + 1)) h1
  rwa [show u + 1 + (8 - (u + 1)) = 8 from by omega] at this
/-- A function that comes back to itself is never unfolded. -/
def NoneDone (F G : Nat → Fn) : Prop := SameFB G F ∧ ∀ i, i < 8 → reach (callB F) i i = true → (G i).done = false
theorem readyStep_none {F G : Nat → Fn} (h : NoneDone F G) (n : Nat) (hn : n < 8) : NoneDone F (readyStep G n) := by
  refine ⟨readyStep_same h.1 n, ?_⟩
  intro i hi hr
  unfold readyStep
  split
  · next hc =>
    by_cases e : i = n
    · exfalso
      subst e
      obtain ⟨g, hg, hb, hgi⟩ := reach_first hi hi hr
      have hgg : reach (callB F) g g = true := by
        rcases hgi with e | e
        · subst e; exact hr
        · exact reach_trans hg hi hg e (reach_one hi hg hb)
      have hnd := h.2 g hg hgg
      rw [callB_at F i g hi hg, callRow_iff] at hb
      obtain ⟨c, hcm, hce⟩ := hb
      have := (allDone_iff G (G i).body).1 hc.2.2 c (by rw [(h.1 i).2]; exact hcm) (by rw [up_iff]; omega)
      rw [hce, show (65 + (g : Int) - 65).toNat = g from by omega] at this
      rw [this] at hnd
      cases hnd
    · simp only [e, if_false]; exact h.2 i hi hr
  · exact h.2 i hi hr
theorem readyTo_none {F G : Nat → Fn} (h : NoneDone F G) (n : Nat) (hn : n ≤ 8) : NoneDone F (readyTo G n) := by
  induction n with
  | zero => exact h
  | succ n ih => exact readyStep_none (ih (by omega)) n (by omega)
theorem roundsTo_none {F : Nat → Fn} (hI : Init F) (r : Nat) : NoneDone F (roundsTo F r) := by
  induction r with
  | zero => exact ⟨fun j => ⟨rfl, rfl⟩, fun i _ _ => hI.done0 i⟩
  | succ r ih => exact readyTo_none ih 8 (by omega)
/-- Without one, every function is unfolded in time. -/
theorem roundsTo_done {F : Nat → Fn} (hI : Init F) (hirr : ∀ i, i < 8 → reach (callB F) i i = false) (r : Nat) (u : Nat) (hu : u < 8) (ht : (F u).there = true) (hc : count (callB F) u < r) : (roundsTo F r u).done = true := by
  induction r generalizing u with
  | zero => omega
  | succ r ih =>
    have hs := roundsTo_same F r
    simp only [roundsTo]
    refine ready_done hu (by rw [(hs u).1]; exact ht) ?_
    rw [allDone_iff]
    intro c hcm hup
    rw [(hs u).2] at hcm
    have hup' := (up_iff _).1 hup
    have hg : (bt c - 65).toNat < 8 := by omega
    have hb : callB F (u * 8 + (bt c - 65).toNat) = true := by
      rw [callB_at F u _ hu hg, callRow_iff]; exact ⟨c, hcm, by omega⟩
    have := count_lt hirr hu hg hb
    exact ih _ hg (hI.there u c hcm hup) (by omega)
theorem left_iff (G : Nat → Fn) : left G = true ↔ ∃ j, j < 8 ∧ (G j).there = true ∧ (G j).done = false := by
  unfold left first
  rw [List.find?_isSome]
  simp [leftP]
theorem first_iff (p : Nat → Bool) (n : Nat) : (first p n).isSome = true ↔ ∃ j, j < n ∧ p j = true := by
  unfold first
  rw [List.find?_isSome]
  simp
theorem left_same {F : Nat → Fn} (hI : Init F) : left (roundsTo F 8) = (first (fun i => reach (callB F) i i) 8).isSome := by
  rw [Bool.eq_iff_iff, left_iff, first_iff]
  constructor
  · rintro ⟨j, hj, ht, hd⟩
    apply Classical.byContradiction
    intro hno
    have hirr : ∀ i, i < 8 → reach (callB F) i i = false := by
      intro i hi
      cases hr : reach (callB F) i i with
      | false => rfl
      | true => exact absurd ⟨i, hi, hr⟩ hno
    rw [(roundsTo_same F 8 j).1] at ht
    rw [roundsTo_done hI hirr 8 j hj ht (count_bd hirr hj)] at hd
    cases hd
  · rintro ⟨i, hi, hr⟩
    refine ⟨i, hi, ?_, (roundsTo_none hI 8).2 i hi hr⟩
    rw [(roundsTo_same F 8 i).1]
    obtain ⟨g, hg, hb, _⟩ := reach_first hi hi hr
    rw [callB_at F i g hi hg, callRow_iff] at hb
    obtain ⟨c, hc, _⟩ := hb
    cases ht : (F i).there with
    | true => rfl
    | false => rw [hI.bare i ht] at hc; simp at hc
end Wd
end Go.Proofs.Ytecmfdkhcffpmaa
/- The functions of a text whose names are right: by the program's taking apart and by the document's looking. -/
namespace Go.Proofs.Ytecmfdkhcffpmaa
set_option linter.unusedSimpArgs false
set_option linter.unusedVariables false
namespace Wd
theorem namesFrom_none (F : Nat → Fn) (ps : List Part) (seen : Nat → Bool) (h : namesFrom F ps seen = none) :
    (∀ p ∈ ps, unknown F p.body = none) ∧ (∀ p ∈ ps, up p.letter = true → seen (p.letter - 65).toNat = false) ∧ ps.Pairwise (fun a b => up a.letter = true → b.letter ≠ a.letter) := by
  induction ps generalizing seen with
  | nil => simp
  | cons p r ih =>
    simp only [namesFrom] at h
    split at h
    · cases h
    · next hc =>
      cases hu : unknown F p.body with
      | some u => rw [hu] at h; cases h
      | none =>
        rw [hu] at h
        simp only at h
        obtain ⟨i1, i2, i3⟩ := ih _ h
        have hp : up p.letter = true → seen (p.letter - 65).toNat = false := by
          intro hup
          cases hs : seen (p.letter - 65).toNat with
          | false => rfl
          | true => exact absurd ⟨hup, hs⟩ hc
        refine ⟨?_, ?_, ?_⟩
        · intro q hq
          simp only [List.mem_cons] at hq
          rcases hq with hq | hq
          · subst hq; exact hu
          · exact i1 q hq
        · intro q hq hup
          simp only [List.mem_cons] at hq
          rcases hq with hq | hq
          · subst hq; exact hp hup
          · have := i2 q hq hup
            by_cases hpu : up p.letter = true
            · rw [if_pos hpu] at this
              by_cases e : (q.letter - 65).toNat = (p.letter - 65).toNat
              · rw [if_pos e] at this; cases this
              · rw [if_neg e] at this; exact this
            · rw [if_neg hpu] at this; exact this
        · refine List.Pairwise.cons ?_ i3
          intro q hq hpu e
          have := i2 q hq (by rw [e]; exact hpu)
          rw [if_pos hpu, if_pos (by rw [e])] at this
          cases this
theorem fold_skip (ps : List Part) (F : Nat → Fn) (j : Nat) (h : ∀ q ∈ ps, ¬ (up q.letter = true ∧ (q.letter - 65).toNat = j)) : (ps.foldl addF F) j = F j := by
  induction ps generalizing F with
  | nil => rfl
  | cons p r ih =>
    rw [List.foldl_cons, ih _ (fun q hq => h q (by simp [hq]))]
    unfold addF
    split
    · next hu =>
      have := h p (by simp)
      have hne : ¬ j = (p.letter - 65).toNat := fun e => this ⟨hu, e.symm⟩
      simp only [if_neg hne]
    · rfl
theorem fold_at (ps : List Part) (F : Nat → Fn) (h : ps.Pairwise (fun a b => up a.letter = true → b.letter ≠ a.letter)) (p : Part) (hp : p ∈ ps) (hu : up p.letter = true) : (ps.foldl addF F) (p.letter - 65).toNat = ⟨true, p.body, false, false, []⟩ := by
  induction ps generalizing F with
  | nil => simp at hp
  | cons q r ih =>
    rw [List.foldl_cons]
    obtain ⟨h1, h2⟩ := List.pairwise_cons.1 h
    simp only [List.mem_cons] at hp
    rcases hp with hp | hp
    · subst hp
      rw [fold_skip]
      · unfold addF; rw [if_pos hu]; simp
      · rintro x hx ⟨hxu, e⟩
        apply h1 x hx hu
        have a1 := (up_iff _).1 hu
        have a2 := (up_iff _).1 hxu
        omega
    · exact ih _ h2 hp
/-- A function of a text whose names are right. -/
theorem fns_at (rs : List (UInt8 × List UInt8)) (h : ∀ x ∈ rs, okRaw x) (hn : misnamed (flat rs) = none) (f : Nat) (hf : f < 8) :
    (∃ p ∈ lay 0 rs, p.letter = 65 + (f : Int) ∧ fnsOf rs f = ⟨true, p.body, false, false, []⟩ ∧ head (flat rs) (65 + (f : Int)) = some p.pos ∧ body (flat rs) p.pos = p.body) ∨ (fnsOf rs f = fn0 ∧ head (flat rs) (65 + (f : Int)) = none) := by
  have hns := names_same rs h
  rw [hn, split_of rs h] at hns
  obtain ⟨n1, n2, n3⟩ := namesFrom_none _ _ _ hns
  have hl := lay_facts rs [] h
  simp only [List.nil_append, List.length_nil] at hl
  rw [head_lay rs h]
  cases hq : (lay 0 rs).find? (fun p => p.letter == 65 + (f : Int)) with
  | some p =>
    left
    have hp := List.mem_of_find?_eq_some hq
    have hc := List.find?_some hq
    simp at hc
    refine ⟨p, hp, hc, ?_, rfl, (hl p hp).2.1⟩
    have := fold_at (lay 0 rs) (fun _ => fn0) n3 p hp (by rw [up_iff]; omega)
    rw [show (p.letter - 65).toNat = f from by omega] at this
    exact this
  | none =>
    right
    refine ⟨?_, rfl⟩
    rw [List.find?_eq_none] at hq
    apply fold_skip
    rintro q hqm ⟨hu, e⟩
    have a := (up_iff _).1 hu
    apply hq q hqm
    simp; omega
theorem fns_big (rs : List (UInt8 × List UInt8)) (f : Nat) (hf : ¬ f < 8) : fnsOf rs f = fn0 := by
  apply fold_skip
  rintro q hqm ⟨hu, e⟩
  have a := (up_iff _).1 hu
  omega
theorem unknown_none {F : Nat → Fn} {l : List UInt8} (h : unknown F l = none) : ∀ c ∈ l, up (bt c) = true → (F (bt c - 65).toNat).there = true := by
  intro c hc hu
  unfold unknown first at h
  rw [List.find?_range_eq_none] at h
  obtain ⟨i, hi, e⟩ := List.getElem_of_mem hc
  have := h i hi
  have ea : at_ l i = bt c := by simp [at_, bt, hi, e]
  simp [unkP, ea, hu] at this
  exact this
theorem init_of (rs : List (UInt8 × List UInt8)) (h : ∀ x ∈ rs, okRaw x) (hn : misnamed (flat rs) = none) : Init (fnsOf rs) ∧ ∀ p ∈ lay 0 rs, ∀ c ∈ p.body, up (bt c) = true → (fnsOf rs (bt c - 65).toNat).there = true := by
  have hns := names_same rs h
  rw [hn, split_of rs h] at hns
  obtain ⟨n1, n2, n3⟩ := namesFrom_none _ _ _ hns
  have hth : ∀ p ∈ lay 0 rs, ∀ c ∈ p.body, up (bt c) = true → (fnsOf rs (bt c - 65).toNat).there = true := fun p hp => unknown_none (n1 p hp)
  refine ⟨⟨?_, ?_, ?_⟩, hth⟩
  · intro j
    by_cases hj : j < 8
    · rcases fns_at rs h hn j hj with ⟨p, hp, _, e, _⟩ | ⟨e, _⟩
      · rw [e]
      · rw [e]; rfl
    · rw [fns_big rs j hj]; rfl
  · intro f c hc hu
    by_cases hj : f < 8
    · rcases fns_at rs h hn f hj with ⟨p, hp, _, e, _⟩ | ⟨e, _⟩
      · rw [e] at hc; exact hth p hp c hc hu
      · rw [e] at hc; simp [fn0] at hc
    · rw [fns_big rs f hj] at hc; simp [fn0] at hc
  · intro f hb
    by_cases hj : f < 8
    · rcases fns_at rs h hn f hj with ⟨p, hp, _, e, _⟩ | ⟨e, _⟩
      · rw [e] at hb; cases hb
      · rw [e]; rfl
    · rw [fns_big rs f hj]; rfl
theorem calls_same (rs : List (UInt8 × List UInt8)) (h : ∀ x ∈ rs, okRaw x) (hn : misnamed (flat rs) = none) : callsTo (flat rs) 8 = callB (fnsOf rs) := by
  funext j
  simp only [callsTo, callB]
  by_cases hj : j / 8 < 8
  · congr 1
    unfold calls
    rcases fns_at rs h hn (j / 8) hj with ⟨p, hp, _, e, hh, hb⟩ | ⟨e, hh⟩
    · rw [hh]; simp only; rw [hb, e]
    · rw [hh, e]; rfl
  · simp [hj]
theorem round_same (rs : List (UInt8 × List UInt8)) (h : ∀ x ∈ rs, okRaw x) (hn : misnamed (flat rs) = none) : left (roundsTo (split (flat rs)).F 8) = round (flat rs) := by
  rw [split_of rs h]
  show left (roundsTo (fnsOf rs) 8) = _
  rw [left_same (init_of rs h hn).1, round, calls_same rs h hn]
  rfl
end Wd
end Go.Proofs.Ytecmfdkhcffpmaa
