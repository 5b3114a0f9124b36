/- The two readers of the form stop at the same byte. -/
import Derived.Test.YtecmfdkhcffpmaaPure4
import Derived.Test.YtecmfdkhcffpmaaPure9
namespace Go.Proofs.Ytecmfdkhcffpmaa
set_option linter.unusedSimpArgs false
set_option linter.unusedVariables false
namespace Wd
def Rel (p r : St) : Prop := p.want = r.want ∧ p.items = r.items ∧ (∀ c ∈ p.op, bt c = 40 ∨ bt c = 91 ∨ bt c = 124) ∧
  (((p.want = 0 ∨ p.want = 1) ∧ p.op = []) ∨ ((p.want = 2 ∨ p.want = 3 ∨ p.want = 4) ∧ r.op = 123 :: p.op))
theorem at_mem {l : List UInt8} {i : Nat} (h : i < l.length) : ∃ c ∈ l, at_ l i = bt c := by
  refine ⟨l[i], List.getElem_mem h, ?_⟩
  simp [at_, bt, h]
theorem lastIs_cons (a : UInt8) (o : List UInt8) (d : Int) (h : o ≠ []) : lastIs (a :: o) d = (at_ o (o.length - 1) == d) := by
  cases o with
  | nil => exact absurd rfl h
  | cons b r => simp [lastIs, at_]
theorem take_cons_last (a : UInt8) (o : List UInt8) (h : o ≠ []) : (a :: o).take ((a :: o).length - 1) = a :: o.take (o.length - 1) := by
  cases o with
  | nil => exact absurd rfl h
  | cons b r => simp
/-- A byte in a body: the two readers agree. -/
theorem body_rel (o : List UInt8) (items : Nat) (hop : ∀ c ∈ o, bt c = 40 ∨ bt c = 91 ∨ bt c = 124) (c : Int) :
    (bodyP ⟨2, o, items⟩ c = none ∧ opened c (123 :: o) = none) ∨
    ∃ (w : Int) (o1 o2 : List UInt8), bodyP ⟨2, o, items⟩ c = some ⟨w, o1, items⟩ ∧ opened c (123 :: o) = some (w, o2) ∧ (∀ c ∈ o1, bt c = 40 ∨ bt c = 91 ∨ bt c = 124) ∧ ((w = 0 ∧ o1 = []) ∨ ((w = 2 ∨ w = 3 ∨ w = 4) ∧ o2 = 123 :: o1)) := by
  unfold bodyP opened
  simp only
  by_cases b1 : c = 43 ∨ c = 45
  · right; exact ⟨3, o, _, by rw [if_pos b1], by rw [if_pos b1], hop, by simp⟩
  rw [if_neg b1, if_neg b1]
  by_cases b2 : c = 114 ∨ c = 119
  · right; exact ⟨4, o, _, by rw [if_pos b2], by rw [if_pos b2], hop, by simp⟩
  rw [if_neg b2, if_neg b2]
  by_cases b3 : c = 60 ∨ c = 62 ∨ c = 122
  · right; exact ⟨2, o, _, by rw [if_pos b3], by rw [if_pos (by rcases b3 with h | h | h <;> simp [h])], hop, by simp⟩
  rw [if_neg b3]
  by_cases bu : up c = true
  · right
    have hu := bu
    simp [up] at hu
    refine ⟨2, o, _, ?_, by rw [if_pos (by simp [bu])], hop, by simp⟩
    rw [if_neg (by omega), if_neg (by omega), if_neg (by omega), if_neg (by omega), if_neg (by omega), if_neg (by omega), if_pos bu]
  have b3' : ¬ (c = 60 ∨ c = 62 ∨ c = 122 ∨ up c = true) := by
    rintro (h | h | h | h)
    · exact b3 (Or.inl h)
    · exact b3 (Or.inr (Or.inl h))
    · exact b3 (Or.inr (Or.inr h))
    · exact bu h
  rw [if_neg b3']
  by_cases b4 : c = 40
  · right; refine ⟨2, o ++ [40], _, by rw [if_pos b4], by rw [if_pos b4], ?_, by simp⟩
    intro x hx; simp at hx; rcases hx with hx | hx
    · exact hop x hx
    · subst hx; left; rfl
  rw [if_neg b4, if_neg b4]
  by_cases b5 : c = 91
  · right; refine ⟨2, o ++ [91], _, by rw [if_pos b5], by rw [if_pos b5], ?_, by simp⟩
    intro x hx; simp at hx; rcases hx with hx | hx
    · exact hop x hx
    · subst hx; right; left; rfl
  rw [if_neg b5, if_neg b5]
  have hsub : ∀ n, ∀ x ∈ o.take n, bt x = 40 ∨ bt x = 91 ∨ bt x = 124 := fun n x hx => hop x (List.mem_of_mem_take hx)
  have h123 : o ≠ [] → at_ o (o.length - 1) ≠ 123 := by
    intro ho hh
    have hl : o.length - 1 < o.length := by have := List.length_pos_iff.2 ho; omega
    obtain ⟨x, hx, e⟩ := at_mem hl
    rw [e] at hh
    have := hop x hx
    omega
  have hsh : ∀ d : Int, d ≠ 123 → lastIs (123 :: o) d = (shut o d).isSome := by
    intro d hd
    by_cases ho : o = []
    · subst ho; simp [lastIs, shut, at_]; intro h; exact hd h.symm
    · rw [lastIs_cons _ _ _ ho]
      have := List.length_pos_iff.2 ho
      simp only [shut]
      by_cases hq : at_ o (o.length - 1) = d
      · simp [hq, this]
      · simp [hq]
  have hshv : ∀ d x, shut o d = some x → o ≠ [] ∧ x = o.take (o.length - 1) := by
    intro d x hx
    simp only [shut] at hx
    split at hx
    · next h => cases hx; exact ⟨List.length_pos_iff.1 h.1, rfl⟩
    · cases hx
  by_cases b6 : c = 124
  · subst b6
    simp only [if_true, true_and]
    cases hq : shut o 40 with
    | none => left; simp [hsh 40 (by decide), hq]
    | some x =>
      obtain ⟨ho, rfl⟩ := hshv 40 x hq
      right
      refine ⟨2, o.take (o.length - 1) ++ [124], (123 :: o).take ((123 :: o).length - 1) ++ [124], rfl, by simp [hsh 40 (by decide), hq], ?_, Or.inr ⟨Or.inl rfl, by rw [take_cons_last _ _ ho]; rfl⟩⟩
      intro y hy; simp only [List.mem_append, List.mem_singleton] at hy; rcases hy with hy | hy
      · exact hsub _ y hy
      · subst hy; right; right; rfl
  rw [if_neg b6, if_neg (show ¬ (c = 124 ∧ lastIs (123 :: o) 40 = true) from fun h => b6 h.1)]
  by_cases b7 : c = 41
  · subst b7
    simp only [if_true, true_and]
    cases hq : shut o 124 with
    | none => left; simp [hsh 124 (by decide), hq]
    | some x =>
      obtain ⟨ho, rfl⟩ := hshv 124 x hq
      right
      exact ⟨2, o.take (o.length - 1), (123 :: o).take ((123 :: o).length - 1), rfl, by simp [hsh 124 (by decide), hq], hsub _, Or.inr ⟨Or.inl rfl, take_cons_last _ _ ho⟩⟩
  rw [if_neg b7, if_neg (show ¬ (c = 41 ∧ lastIs (123 :: o) 124 = true) from fun h => b7 h.1)]
  by_cases b8 : c = 93
  · subst b8
    simp only [if_true, true_and]
    cases hq : shut o 91 with
    | none => left; simp [hsh 91 (by decide), hq]
    | some x =>
      obtain ⟨ho, rfl⟩ := hshv 91 x hq
      right
      exact ⟨2, o.take (o.length - 1), (123 :: o).take ((123 :: o).length - 1), rfl, by simp [hsh 91 (by decide), hq], hsub _, Or.inr ⟨Or.inl rfl, take_cons_last _ _ ho⟩⟩
  rw [if_neg b8, if_neg (show ¬ (c = 93 ∧ lastIs (123 :: o) 91 = true) from fun h => b8 h.1)]
  by_cases b9 : c = 125
  · subst b9
    simp only [if_true, true_and]
    by_cases ho : o = []
    · subst ho
      right
      exact ⟨0, [], [], rfl, by simp [lastIs, at_], by simp, Or.inl ⟨rfl, rfl⟩⟩
    · left
      have := List.length_pos_iff.2 ho
      refine ⟨by rw [if_neg (by omega)], ?_⟩
      rw [lastIs_cons _ _ _ ho, if_neg]
      simpa using h123 ho
  · rw [if_neg b9, if_neg (show ¬ (c = 125 ∧ lastIs (123 :: o) 123 = true) from fun h => b9 h.1)]
    left
    exact ⟨by rw [if_neg bu], rfl⟩
theorem step_rel {p r : St} (h : Rel p r) (c : Int) : (stepP p c = none ∧ stepR r c = none) ∨ ∃ p' r', stepP p c = some p' ∧ stepR r c = some r' ∧ Rel p' r' := by
  obtain ⟨want, o, items⟩ := p
  obtain ⟨want2, o2, items2⟩ := r
  obtain ⟨h1, h2, h3, h4⟩ := h
  simp only at h1 h2 h3 h4
  subst h1 h2
  unfold stepP stepR
  simp only
  by_cases w0 : want = 0
  · rw [if_pos w0, if_pos w0]
    by_cases hc : items < 8 ∧ (c = 116 ∨ c = 104 ∨ up c = true)
    · right
      refine ⟨⟨1, o, items + 1⟩, ⟨1, o2, items + 1⟩, by rw [if_pos hc], by rw [if_pos hc], rfl, rfl, h3, Or.inl ⟨Or.inr rfl, ?_⟩⟩
      rcases h4 with h4 | h4
      · exact h4.2
      · omega
    · left; exact ⟨by rw [if_neg hc], by rw [if_neg hc]⟩
  rw [if_neg w0, if_neg w0]
  by_cases w1 : want = 1
  · rw [if_pos w1, if_pos w1]
    have ho : o = [] := by
      rcases h4 with h4 | h4
      · exact h4.2
      · omega
    by_cases hc : c = 123
    · right
      refine ⟨⟨2, o, items⟩, ⟨2, [123], items⟩, by rw [if_pos hc], by rw [if_pos hc], rfl, rfl, h3, Or.inr ⟨Or.inl rfl, by rw [ho]⟩⟩
    · left; exact ⟨by rw [if_neg hc], by rw [if_neg hc]⟩
  rw [if_neg w1, if_neg w1]
  have h5 : (want = 2 ∨ want = 3 ∨ want = 4) ∧ o2 = 123 :: o := by
    rcases h4 with h4 | h4
    · omega
    · exact h4
  by_cases w3 : want = 3
  · rw [if_pos w3, if_pos w3]
    by_cases hc : lk c = true
    · right; exact ⟨⟨2, o, items⟩, ⟨2, o2, items⟩, by rw [if_pos hc], by rw [if_pos hc], rfl, rfl, h3, Or.inr ⟨Or.inl rfl, h5.2⟩⟩
    · left; exact ⟨by rw [if_neg hc], by rw [if_neg hc]⟩
  rw [if_neg w3, if_neg w3]
  by_cases w4 : want = 4
  · rw [if_pos w4, if_pos w4]
    by_cases hc : cl c = true
    · right; exact ⟨⟨2, o, items⟩, ⟨2, o2, items⟩, by rw [if_pos hc], by rw [if_pos hc], rfl, rfl, h3, Or.inr ⟨Or.inl rfl, h5.2⟩⟩
    · left; exact ⟨by rw [if_neg hc], by rw [if_neg hc]⟩
  rw [if_neg w4, if_neg w4]
  have w2 : want = 2 := by omega
  subst w2
  rw [h5.2]
  rcases body_rel o items h3 c with ⟨e1, e2⟩ | ⟨w, o1, o3, e1, e2, e3, e4⟩
  · left; exact ⟨e1, by rw [e2]⟩
  · right
    refine ⟨⟨w, o1, items⟩, ⟨w, o3, items⟩, e1, by rw [e2], rfl, rfl, e3, ?_⟩
    rcases e4 with ⟨e4, e5⟩ | e4
    · exact Or.inl ⟨Or.inl e4, e5⟩
    · exact Or.inr e4
theorem from_same (l : List UInt8) (i : Nat) (p r : St) (h : Rel p r) : faultFrom l i p = placeFrom l i r := by
  induction l generalizing i p r with
  | nil => simp only [faultFrom, placeFrom, h.1, h.2.1]
  | cons c t ih =>
    simp only [faultFrom, placeFrom]
    rcases step_rel h (bt c) with ⟨e1, e2⟩ | ⟨p', r', e1, e2, h'⟩
    · rw [e1, e2]
    · rw [e1, e2]; exact ih _ _ _ h'
theorem fault_same (l : List UInt8) : fault l = place l := from_same l 0 _ _ ⟨rfl, rfl, by simp, Or.inl ⟨Or.inl rfl, rfl⟩⟩
end Wd
end Go.Proofs.Ytecmfdkhcffpmaa
