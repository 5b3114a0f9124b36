/- The functions of a text whose names are right: by the program's taking apart and by the document's looking. -/
import Derived.Test.YtecmfdkhcffpmaaSame6
namespace Go.Proofs.Ytecmfdkhcffpmaa
set_option linter.unusedSimpArgs false
set_option linter.unusedVariables false
namespace Wd
theorem namesFrom_none (F : Nat → Fn) (ps : List Part) (seen : Nat → Bool) (h : namesFrom F ps seen = none) :
    (∀ p ∈ ps, unknown F p.body = none) ∧ (∀ p ∈ ps, up p.letter = true → seen (p.letter - 65).toNat = false) ∧ ps.Pairwise (fun a b => up a.letter = true → b.letter ≠ a.letter) := by
  induction ps generalizing seen with
  | nil => simp
  | cons p r ih =>
    simp only [namesFrom] at h
    split at h
    · cases h
    · next hc =>
      cases hu : unknown F p.body with
      | some u => rw [hu] at h; cases h
      | none =>
        rw [hu] at h
        simp only at h
        obtain ⟨i1, i2, i3⟩ := ih _ h
        have hp : up p.letter = true → seen (p.letter - 65).toNat = false := by
          intro hup
          cases hs : seen (p.letter - 65).toNat with
          | false => rfl
          | true => exact absurd ⟨hup, hs⟩ hc
        refine ⟨?_, ?_, ?_⟩
        · intro q hq
          simp only [List.mem_cons] at hq
          rcases hq with hq | hq
          · subst hq; exact hu
          · exact i1 q hq
        · intro q hq hup
          simp only [List.mem_cons] at hq
          rcases hq with hq | hq
          · subst hq; exact hp hup
          · have := i2 q hq hup
            by_cases hpu : up p.letter = true
            · rw [if_pos hpu] at this
              by_cases e : (q.letter - 65).toNat = (p.letter - 65).toNat
              · rw [if_pos e] at this; cases this
              · rw [if_neg e] at this; exact this
            · rw [if_neg hpu] at this; exact this
        · refine List.Pairwise.cons ?_ i3
          intro q hq hpu e
          have := i2 q hq (by rw [e]; exact hpu)
          rw [if_pos hpu, if_pos (by rw [e])] at this
          cases this
theorem fold_skip (ps : List Part) (F : Nat → Fn) (j : Nat) (h : ∀ q ∈ ps, ¬ (up q.letter = true ∧ (q.letter - 65).toNat = j)) : (ps.foldl addF F) j = F j := by
  induction ps generalizing F with
  | nil => rfl
  | cons p r ih =>
    rw [List.foldl_cons, ih _ (fun q hq => h q (by simp [hq]))]
    unfold addF
    split
    · next hu =>
      have := h p (by simp)
      have hne : ¬ j = (p.letter - 65).toNat := fun e => this ⟨hu, e.symm⟩
      simp only [if_neg hne]
    · rfl
theorem fold_at (ps : List Part) (F : Nat → Fn) (h : ps.Pairwise (fun a b => up a.letter = true → b.letter ≠ a.letter)) (p : Part) (hp : p ∈ ps) (hu : up p.letter = true) : (ps.foldl addF F) (p.letter - 65).toNat = ⟨true, p.body, false, false, []⟩ := by
  induction ps generalizing F with
  | nil => simp at hp
  | cons q r ih =>
    rw [List.foldl_cons]
    obtain ⟨h1, h2⟩ := List.pairwise_cons.1 h
    simp only [List.mem_cons] at hp
    rcases hp with hp | hp
    · subst hp
      rw [fold_skip]
      · unfold addF; rw [if_pos hu]; simp
      · rintro x hx ⟨hxu, e⟩
        apply h1 x hx hu
        have a1 := (up_iff _).1 hu
        have a2 := (up_iff _).1 hxu
        omega
    · exact ih _ h2 hp
/-- A function of a text whose names are right. -/
theorem fns_at (rs : List (UInt8 × List UInt8)) (h : ∀ x ∈ rs, okRaw x) (hn : misnamed (flat rs) = none) (f : Nat) (hf : f < 8) :
    (∃ p ∈ lay 0 rs, p.letter = 65 + (f : Int) ∧ fnsOf rs f = ⟨true, p.body, false, false, []⟩ ∧ head (flat rs) (65 + (f : Int)) = some p.pos ∧ body (flat rs) p.pos = p.body) ∨ (fnsOf rs f = fn0 ∧ head (flat rs) (65 + (f : Int)) = none) := by
  have hns := names_same rs h
  rw [hn, split_of rs h] at hns
  obtain ⟨n1, n2, n3⟩ := namesFrom_none _ _ _ hns
  have hl := lay_facts rs [] h
  simp only [List.nil_append, List.length_nil] at hl
  rw [head_lay rs h]
  cases hq : (lay 0 rs).find? (fun p => p.letter == 65 + (f : Int)) with
  | some p =>
    left
    have hp := List.mem_of_find?_eq_some hq
    have hc := List.find?_some hq
    simp at hc
    refine ⟨p, hp, hc, ?_, rfl, (hl p hp).2.1⟩
    have := fold_at (lay 0 rs) (fun _ => fn0) n3 p hp (by rw [up_iff]; omega)
    rw [show (p.letter - 65).toNat = f from by omega] at this
    exact this
  | none =>
    right
    refine ⟨?_, rfl⟩
    rw [List.find?_eq_none] at hq
    apply fold_skip
    rintro q hqm ⟨hu, e⟩
    have a := (up_iff _).1 hu
    apply hq q hqm
    simp; omega
theorem fns_big (rs : List (UInt8 × List UInt8)) (f : Nat) (hf : ¬ f < 8) : fnsOf rs f = fn0 := by
  apply fold_skip
  rintro q hqm ⟨hu, e⟩
  have a := (up_iff _).1 hu
  omega
theorem unknown_none {F : Nat → Fn} {l : List UInt8} (h : unknown F l = none) : ∀ c ∈ l, up (bt c) = true → (F (bt c - 65).toNat).there = true := by
  intro c hc hu
  unfold unknown first at h
  rw [List.find?_range_eq_none] at h
  obtain ⟨i, hi, e⟩ := List.getElem_of_mem hc
  have := h i hi
  have ea : at_ l i = bt c := by simp [at_, bt, hi, e]
  simp [unkP, ea, hu] at this
  exact this
theorem init_of (rs : List (UInt8 × List UInt8)) (h : ∀ x ∈ rs, okRaw x) (hn : misnamed (flat rs) = none) : Init (fnsOf rs) ∧ ∀ p ∈ lay 0 rs, ∀ c ∈ p.body, up (bt c) = true → (fnsOf rs (bt c - 65).toNat).there = true := by
  have hns := names_same rs h
  rw [hn, split_of rs h] at hns
  obtain ⟨n1, n2, n3⟩ := namesFrom_none _ _ _ hns
  have hth : ∀ p ∈ lay 0 rs, ∀ c ∈ p.body, up (bt c) = true → (fnsOf rs (bt c - 65).toNat).there = true := fun p hp => unknown_none (n1 p hp)
  refine ⟨⟨?_, ?_, ?_⟩, hth⟩
  · intro j
    by_cases hj : j < 8
    · rcases fns_at rs h hn j hj with ⟨p, hp, _, e, _⟩ | ⟨e, _⟩
      · rw [e]
      · rw [e]; rfl
    · rw [fns_big rs j hj]; rfl
  · intro f c hc hu
    by_cases hj : f < 8
    · rcases fns_at rs h hn f hj with ⟨p, hp, _, e, _⟩ | ⟨e, _⟩
      · rw [e] at hc; exact hth p hp c hc hu
      · rw [e] at hc; simp [fn0] at hc
    · rw [fns_big rs f hj] at hc; simp [fn0] at hc
  · intro f hb
    by_cases hj : f < 8
    · rcases fns_at rs h hn f hj with ⟨p, hp, _, e, _⟩ | ⟨e, _⟩
      · rw [e] at hb; cases hb
      · rw [e]; rfl
    · rw [fns_big rs f hj]; rfl
theorem calls_same (rs : List (UInt8 × List UInt8)) (h : ∀ x ∈ rs, okRaw x) (hn : misnamed (flat rs) = none) : callsTo (flat rs) 8 = callB (fnsOf rs) := by
  funext j
  simp only [callsTo, callB]
  by_cases hj : j / 8 < 8
  · congr 1
    unfold calls
    rcases fns_at rs h hn (j / 8) hj with ⟨p, hp, _, e, hh, hb⟩ | ⟨e, hh⟩
    · rw [hh]; simp only; rw [hb, e]
    · rw [hh, e]; rfl
  · simp [hj]
theorem round_same (rs : List (UInt8 × List UInt8)) (h : ∀ x ∈ rs, okRaw x) (hn : misnamed (flat rs) = none) : left (roundsTo (split (flat rs)).F 8) = round (flat rs) := by
  rw [split_of rs h]
  show left (roundsTo (fnsOf rs) 8) = _
  rw [left_same (init_of rs h hn).1, round, calls_same rs h hn]
  rfl
end Wd
end Go.Proofs.Ytecmfdkhcffpmaa
