/- Rounds of unfolding: a function is left just if one comes back to itself. -/
import Derived.Test.YtecmfdkhcffpmaaSame5
namespace Go.Proofs.Ytecmfdkhcffpmaa
set_option linter.unusedSimpArgs false
set_option linter.unusedVariables false
namespace Wd
/-- The functions as they are taken out of a text whose names are right. -/
structure Init (F : Nat → Fn) : Prop where
  done0 : ∀ j, (F j).done = false
  there : ∀ f c, c ∈ (F f).body → up (bt c) = true → (F (bt c - 65).toNat).there = true
  bare : ∀ f, (F f).there = false → (F f).body = []
def callB (F : Nat → Fn) (j : Nat) : Bool := decide (j / 8 < 8) && callRow (F (j / 8)).body (j % 8)
theorem callB_at (F : Nat → Fn) (x g : Nat) (hx : x < 8) (hg : g < 8) : callB F (x * 8 + g) = callRow (F x).body g := by
  simp only [callB]
  rw [show (x * 8 + g) / 8 = x from by omega, show (x * 8 + g) % 8 = g from by omega]
  simp [hx]
theorem callRow_iff (b : List UInt8) (g : Nat) : callRow b g = true ↔ ∃ c ∈ b, bt c = 65 + (g : Int) := by simp [callRow]
theorem allDone_iff (G : Nat → Fn) (l : List UInt8) : allDone G l = true ↔ ∀ c ∈ l, up (bt c) = true → (G (bt c - 65).toNat).done = true := by
  unfold allDone
  rw [Option.isNone_iff_eq_none]
  unfold first
  rw [List.find?_range_eq_none]
  constructor
  · intro h c hc hu
    obtain ⟨i, hi, e⟩ := List.getElem_of_mem hc
    have := h i hi
    have ea : at_ l i = bt c := by simp [at_, bt, hi, e]
    simp [undoneP, ea, hu] at this
    exact this
  · intro h i hi
    have ea : at_ l i = bt l[i] := by simp [at_, bt, hi]
    have := h l[i] (List.getElem_mem hi)
    simp only [undoneP, ea]
    cases hu : up (bt l[i]) with
    | false => rfl
    | true => simp [this hu]
def SameFB (G F : Nat → Fn) : Prop := ∀ j, (G j).there = (F j).there ∧ (G j).body = (F j).body
theorem newFn_same (G : Nat → Fn) (f : Fn) : (newFn G f).there = f.there ∧ (newFn G f).body = f.body ∧ (newFn G f).done = true := by
  unfold newFn; split <;> exact ⟨rfl, rfl, rfl⟩
theorem readyStep_same {G F : Nat → Fn} (h : SameFB G F) (n : Nat) : SameFB (readyStep G n) F := by
  intro j
  unfold readyStep
  split
  · by_cases e : j = n
    · subst e; simp only [if_true]
      obtain ⟨a, b, _⟩ := newFn_same G (G j)
      rw [a, b]; exact h j
    · simp only [e, if_false]; exact h j
  · exact h j
theorem readyTo_same {G F : Nat → Fn} (h : SameFB G F) (n : Nat) : SameFB (readyTo G n) F := by
  induction n with
  | zero => exact h
  | succ n ih => exact readyStep_same ih n
theorem roundsTo_same (F : Nat → Fn) (r : Nat) : SameFB (roundsTo F r) F := by
  induction r with
  | zero => exact fun j => ⟨rfl, rfl⟩
  | succ r ih => exact readyTo_same ih 8
theorem readyStep_done {G : Nat → Fn} {j : Nat} (h : (G j).done = true) (n : Nat) : (readyStep G n j).done = true := by
  unfold readyStep
  split
  · by_cases e : j = n
    · subst e; simp only [if_true]; exact (newFn_same G (G j)).2.2
    · simp only [e, if_false]; exact h
  · exact h
theorem readyTo_done {G : Nat → Fn} {j : Nat} (n m : Nat) (h : (readyTo G n j).done = true) : (readyTo G (n + m) j).done = true := by
  induction m with
  | zero => exact h
  | succ m ih => exact readyStep_done ih (n + m)
theorem allDone_mono {G H : Nat → Fn} (h : ∀ j, (G j).done = true → (H j).done = true) (l : List UInt8) (hd : allDone G l = true) : allDone H l = true := by
  rw [allDone_iff] at hd ⊢
  exact fun c hc hu => h _ (hd c hc hu)
theorem ready_done {G : Nat → Fn} {u : Nat} (hu : u < 8) (ht : (G u).there = true) (hd : allDone G (G u).body = true) : (readyTo G 8 u).done = true := by
  have hs := readyTo_same (G := G) (F := G) (fun j => ⟨rfl, rfl⟩) u
  have h1 : (readyTo G (u + 1) u).done = true := by
    simp only [readyTo]
    generalize hH : readyTo G u = H at hs
    have hall : allDone H (H u).body = true := by
      rw [(hs u).2]
      refine allDone_mono (fun j hj => ?_) _ hd
      rw [← hH]
      have := readyTo_done (G := G) (j := j) 0 u hj
      simpa using this
    by_cases hdn : (H u).done = true
    · exact readyStep_done hdn u
    · unfold readyStep
      rw [if_pos ⟨by rw [(hs u).1]; exact ht, by simpa using hdn, hall⟩]
      simp only [if_true]
      exact (newFn_same H (H u)).2.2
  have := readyTo_done (u + 1) (8 - (u + 1)) h1
  rwa [show u + 1 + (8 - (u + 1)) = 8 from by omega] at this
/-- A function that comes back to itself is never unfolded. -/
def NoneDone (F G : Nat → Fn) : Prop := SameFB G F ∧ ∀ i, i < 8 → reach (callB F) i i = true → (G i).done = false
theorem readyStep_none {F G : Nat → Fn} (h : NoneDone F G) (n : Nat) (hn : n < 8) : NoneDone F (readyStep G n) := by
  refine ⟨readyStep_same h.1 n, ?_⟩
  intro i hi hr
  unfold readyStep
  split
  · next hc =>
    by_cases e : i = n
    · exfalso
      subst e
      obtain ⟨g, hg, hb, hgi⟩ := reach_first hi hi hr
      have hgg : reach (callB F) g g = true := by
        rcases hgi with e | e
        · subst e; exact hr
        · exact reach_trans hg hi hg e (reach_one hi hg hb)
      have hnd := h.2 g hg hgg
      rw [callB_at F i g hi hg, callRow_iff] at hb
      obtain ⟨c, hcm, hce⟩ := hb
      have := (allDone_iff G (G i).body).1 hc.2.2 c (by rw [(h.1 i).2]; exact hcm) (by rw [up_iff]; omega)
      rw [hce, show (65 + (g : Int) - 65).toNat = g from by omega] at this
      rw [this] at hnd
      cases hnd
    · simp only [e, if_false]; exact h.2 i hi hr
  · exact h.2 i hi hr
theorem readyTo_none {F G : Nat → Fn} (h : NoneDone F G) (n : Nat) (hn : n ≤ 8) : NoneDone F (readyTo G n) := by
  induction n with
  | zero => exact h
  | succ n ih => exact readyStep_none (ih (by omega)) n (by omega)
theorem roundsTo_none {F : Nat → Fn} (hI : Init F) (r : Nat) : NoneDone F (roundsTo F r) := by
  induction r with
  | zero => exact ⟨fun j => ⟨rfl, rfl⟩, fun i _ _ => hI.done0 i⟩
  | succ r ih => exact readyTo_none ih 8 (by omega)
/-- Without one, every function is unfolded in time. -/
theorem roundsTo_done {F : Nat → Fn} (hI : Init F) (hirr : ∀ i, i < 8 → reach (callB F) i i = false) (r : Nat) (u : Nat) (hu : u < 8) (ht : (F u).there = true) (hc : count (callB F) u < r) : (roundsTo F r u).done = true := by
  induction r generalizing u with
  | zero => omega
  | succ r ih =>
    have hs := roundsTo_same F r
    simp only [roundsTo]
    refine ready_done hu (by rw [(hs u).1]; exact ht) ?_
    rw [allDone_iff]
    intro c hcm hup
    rw [(hs u).2] at hcm
    have hup' := (up_iff _).1 hup
    have hg : (bt c - 65).toNat < 8 := by omega
    have hb : callB F (u * 8 + (bt c - 65).toNat) = true := by
      rw [callB_at F u _ hu hg, callRow_iff]; exact ⟨c, hcm, by omega⟩
    have := count_lt hirr hu hg hb
    exact ih _ hg (hI.there u c hcm hup) (by omega)
theorem left_iff (G : Nat → Fn) : left G = true ↔ ∃ j, j < 8 ∧ (G j).there = true ∧ (G j).done = false := by
  unfold left first
  rw [List.find?_isSome]
  simp [leftP]
theorem first_iff (p : Nat → Bool) (n : Nat) : (first p n).isSome = true ↔ ∃ j, j < n ∧ p j = true := by
  unfold first
  rw [List.find?_isSome]
  simp
theorem left_same {F : Nat → Fn} (hI : Init F) : left (roundsTo F 8) = (first (fun i => reach (callB F) i i) 8).isSome := by
  rw [Bool.eq_iff_iff, left_iff, first_iff]
  constructor
  · rintro ⟨j, hj, ht, hd⟩
    apply Classical.byContradiction
    intro hno
    have hirr : ∀ i, i < 8 → reach (callB F) i i = false := by
      intro i hi
      cases hr : reach (callB F) i i with
      | false => rfl
      | true => exact absurd ⟨i, hi, hr⟩ hno
    rw [(roundsTo_same F 8 j).1] at ht
    rw [roundsTo_done hI hirr 8 j hj ht (count_bd hirr hj)] at hd
    cases hd
  · rintro ⟨i, hi, hr⟩
    refine ⟨i, hi, ?_, (roundsTo_none hI 8).2 i hi hr⟩
    rw [(roundsTo_same F 8 i).1]
    obtain ⟨g, hg, hb, _⟩ := reach_first hi hi hr
    rw [callB_at F i g hi hg, callRow_iff] at hb
    obtain ⟨c, hc, _⟩ := hb
    cases ht : (F i).there with
    | true => rfl
    | false => rw [hI.bare i ht] at hc; simp at hc
end Wd
end Go.Proofs.Ytecmfdkhcffpmaa
