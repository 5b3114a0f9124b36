/- The first name that is wrong: by the program's parts, and by the document's looking byte by byte. -/
import Derived.Test.YtecmfdkhcffpmaaSame3
namespace Go.Proofs.Ytecmfdkhcffpmaa
set_option linter.unusedSimpArgs false
set_option linter.unusedVariables false
namespace Wd
theorem up_iff (c : Int) : up c = true ↔ 65 ≤ c ∧ c ≤ 72 := by simp [up]
theorem addF_there (F : Nat → Fn) (p : Part) (j : Nat) : ((addF F p) j).there = true ↔ (F j).there = true ∨ (p.letter = 65 + (j : Int) ∧ j < 8) := by
  unfold addF
  by_cases hu : up p.letter = true
  · rw [if_pos hu]
    have hu' := (up_iff _).1 hu
    by_cases e : j = (p.letter - 65).toNat
    · rw [if_pos e]
      simp only [true_iff]
      right; omega
    · rw [if_neg e]
      constructor
      · exact fun h => Or.inl h
      · rintro (h | h)
        · exact h
        · exfalso; omega
  · rw [if_neg hu]
    constructor
    · exact fun h => Or.inl h
    · rintro (h | h)
      · exact h
      · exfalso; apply hu; rw [up_iff]; omega
theorem fold_there (ps : List Part) (F : Nat → Fn) (j : Nat) : ((ps.foldl addF F) j).there = true ↔ (F j).there = true ∨ (j < 8 ∧ ∃ p ∈ ps, p.letter = 65 + (j : Int)) := by
  induction ps generalizing F with
  | nil => simp
  | cons p r ih =>
    rw [List.foldl_cons, ih, addF_there]
    constructor
    · rintro ((h | h) | ⟨h, q, hq, e⟩)
      · exact Or.inl h
      · exact Or.inr ⟨h.2, p, by simp, h.1⟩
      · exact Or.inr ⟨h, q, by simp [hq], e⟩
    · rintro (h | ⟨h, q, hq, e⟩)
      · exact Or.inl (Or.inl h)
      · simp at hq
        rcases hq with hq | hq
        · subst hq; exact Or.inl (Or.inr ⟨e, h⟩)
        · exact Or.inr ⟨h, q, hq, e⟩
theorem misP_notup {l : List UInt8} {i : Nat} (h : up (at_ l i) = false) : misP l i = false := by simp [misP, h]
theorem toInt_neg (o : Option Nat) : toInt o < 0 ↔ o = none := by
  cases o with
  | none => simp [toInt]
  | some i => simp [toInt]
/-- The functions of a text. -/
def fnsOf (rs : List (UInt8 × List UInt8)) : Nat → Fn := (lay 0 rs).foldl addF (fun _ => fn0)
theorem head_none (rs : List (UInt8 × List UInt8)) (h : ∀ x ∈ rs, okRaw x) (c : Int) (hc : up c = true) : head (flat rs) c = none ↔ (fnsOf rs (c - 65).toNat).there = false := by
  rw [head_lay rs h c, Option.map_eq_none_iff, List.find?_eq_none]
  have hu := (up_iff c).1 hc
  rw [← Bool.not_eq_true, fnsOf, fold_there]
  constructor
  · rintro hh (h1 | ⟨_, p, hp, e⟩)
    · simp [fn0] at h1
    · apply hh p hp; simp; omega
  · intro hh p hp e
    apply hh
    simp at e
    exact Or.inr ⟨by omega, p, hp, by omega⟩
theorem names_flat (rs0 : List (UInt8 × List UInt8)) (h0 : ∀ x ∈ rs0, okRaw x) (rs : List (UInt8 × List UInt8)) (pre : List UInt8) (hl : flat rs0 = pre ++ flat rs) (qs : List Part) (hPS : lay 0 rs0 = qs ++ lay pre.length rs)
    (h : ∀ x ∈ rs, okRaw x) (seen : Nat → Bool) (hseen : ∀ j, j < 8 → (seen j = true ↔ ∃ q ∈ qs, q.letter = 65 + (j : Int))) (hno : ∀ i, i < pre.length → misP (flat rs0) i = false) :
    misnamed (flat rs0) = namesFrom (fnsOf rs0) (lay pre.length rs) seen := by
  induction rs generalizing pre qs seen with
  | nil =>
    simp only [lay, namesFrom]
    apply first_no
    intro j hj
    apply hno
    rw [hl] at hj
    simpa [flat] using hj
  | cons x r ih =>
    obtain ⟨hx1, hx2⟩ := h x (by simp)
    obtain ⟨a0, a1, a2, a3, a4⟩ := at_item x.1 x.2 (flat r)
    have hat : ∀ k, at_ (flat rs0) (pre.length + k) = at_ (flat (x :: r)) k := fun k => by rw [hl, at_right]
    have hlen : (flat rs0).length = pre.length + (x.2.length + 3 + (flat r).length) := by rw [hl, List.length_append, flat_len]
    have hsort := lay_sorted rs0 0
    have hfacts := lay_facts rs0 [] h0
    simp only [List.nil_append, List.length_nil] at hfacts
    rw [hPS] at hsort
    have hlay : lay pre.length (x :: r) = ⟨bt x.1, pre.length, x.2⟩ :: lay (pre.length + x.2.length + 3) r := rfl
    have hq_lt : ∀ q ∈ qs, q.pos < pre.length := by
      intro q hq
      rw [List.pairwise_append] at hsort
      exact hsort.2.2 q hq ⟨bt x.1, pre.length, x.2⟩ (by rw [hlay]; simp)
    have hheads : ∀ i, heads (flat rs0) i = true ↔ ∃ p ∈ lay 0 rs0, p.pos = i := fun i => heads_flat rs0 [] h0 i (Nat.zero_le _)
    have hin : (⟨bt x.1, pre.length, x.2⟩ : Part) ∈ lay 0 rs0 := by rw [hPS, hlay]; simp
    -- the item's own letter
    have hown : misP (flat rs0) pre.length = true ↔ (up (bt x.1) = true ∧ seen (bt x.1 - 65).toNat = true) := by
      have e : at_ (flat rs0) pre.length = bt x.1 := by have := hat 0; simpa using this.trans a0
      cases hu : up (bt x.1) with
      | false => rw [misP_notup (by rw [e]; exact hu)]; simp
      | true =>
        have hu' := (up_iff _).1 hu
        have hhd : heads (flat rs0) pre.length = true := (hheads _).2 ⟨_, hin, rfl⟩
        simp only [misP, e, hu, hhd, Bool.true_and, true_and, Bool.or_eq_true, decide_eq_true_eq]
        rw [head_lay rs0 h0]
        rw [hseen _ (by omega)]
        constructor
        · rintro (hneg | hlt)
          · rw [toInt_neg, Option.map_eq_none_iff, List.find?_eq_none] at hneg
            exact absurd (by simp) (hneg _ hin)
          · cases hq : (lay 0 rs0).find? (fun p => p.letter == bt x.1) with
            | none => rw [List.find?_eq_none] at hq; exact absurd (by simp) (hq _ hin)
            | some q =>
              rw [hq] at hlt
              simp [toInt] at hlt
              have hqm := List.mem_of_find?_eq_some hq
              have hqc := List.find?_some hq
              simp at hqc
              rw [hPS, List.mem_append] at hqm
              rcases hqm with hqm | hqm
              · exact ⟨q, hqm, by omega⟩
              · have := lay_ge _ _ q hqm; omega
        · rintro ⟨q, hq, e2⟩
          right
          have hpos := hq_lt q hq
          rw [hPS, List.find?_append]
          have : (qs.find? (fun p => p.letter == bt x.1)).isSome = true := by
            rw [List.find?_isSome]; exact ⟨q, hq, by simp; omega⟩
          cases hf : qs.find? (fun p => p.letter == bt x.1) with
          | none => rw [hf] at this; cases this
          | some q2 =>
            have := hq_lt q2 (List.mem_of_find?_eq_some hf)
            simp [toInt]; omega
    -- the bytes of its body
    have hbody : ∀ j, j < x.2.length → misP (flat rs0) (pre.length + (2 + j)) = unkP (fnsOf rs0) x.2 j := by
      intro j hj
      have e : at_ (flat rs0) (pre.length + (2 + j)) = at_ x.2 j := (hat _).trans (a2 j hj)
      have hnh : heads (flat rs0) (pre.length + (2 + j)) = false := by
        rw [← Bool.not_eq_true, hheads]
        rintro ⟨p, hp, e2⟩
        rw [hPS, List.mem_append] at hp
        rcases hp with hp | hp
        · have := hq_lt p hp; omega
        · rw [hlay] at hp
          simp only [List.mem_cons] at hp
          rcases hp with hp | hp
          · subst hp; simp only at e2; omega
          · have := lay_ge _ _ p hp; omega
      simp only [misP, unkP, e, hnh, Bool.false_and, Bool.or_false]
      cases hu : up (at_ x.2 j) with
      | false => rfl
      | true =>
        simp only [Bool.true_and]
        have := head_none rs0 h0 _ hu
        cases ht : (fnsOf rs0 (at_ x.2 j - 65).toNat).there with
        | false => rw [this.2 ht]; rfl
        | true =>
          have : ¬ head (flat rs0) (at_ x.2 j) = none := fun hn => by rw [this.1 hn] at ht; cases ht
          rw [← toInt_neg] at this
          simp [this]
    have hbr : misP (flat rs0) (pre.length + 1) = false := misP_notup (by rw [(hat 1).trans a1]; decide)
    have hcl : misP (flat rs0) (pre.length + (2 + x.2.length)) = false := misP_notup (by rw [(hat _).trans a3]; decide)
    rw [hlay, namesFrom]
    simp only
    by_cases hc : up (bt x.1) = true ∧ seen (bt x.1 - 65).toNat = true
    · rw [if_pos hc]
      exact first_yes (by omega) (hown.2 hc) hno
    · rw [if_neg hc]
      have hown' : misP (flat rs0) pre.length = false := by rw [← Bool.not_eq_true, hown]; exact hc
      have hpre : ∀ k, k < 2 → misP (flat rs0) (pre.length + k) = false := by
        intro k hk
        match k, hk with
        | 0, _ => simpa using hown'
        | 1, _ => exact hbr
      cases hunk : unknown (fnsOf rs0) x.2 with
      | some u =>
        simp only
        have hul := unknown_lt hunk
        have hu1 : unkP (fnsOf rs0) x.2 u = true := by
          unfold unknown first at hunk; exact List.find?_some hunk
        have hu2 : ∀ j, j < u → unkP (fnsOf rs0) x.2 j = false := by
          intro j hj
          unfold unknown first at hunk
          rw [List.find?_range_eq_some] at hunk
          simpa using hunk.2.2 j hj
        rw [show pre.length + 2 + u = pre.length + (2 + u) from by omega]
        refine first_yes (by omega) (by rw [hbody u hul]; exact hu1) ?_
        intro j hj
        by_cases j0 : j < pre.length
        · exact hno j j0
        · obtain ⟨k, hk⟩ : ∃ k, j = pre.length + k := ⟨j - pre.length, by omega⟩
          subst hk
          by_cases k2 : k < 2
          · exact hpre k k2
          · obtain ⟨m, hm⟩ : ∃ m, k = 2 + m := ⟨k - 2, by omega⟩
            subst hm
            rw [hbody m (by omega)]; exact hu2 m (by omega)
      | none =>
        simp only
        have hu2 : ∀ j, j < x.2.length → unkP (fnsOf rs0) x.2 j = false := by
          intro j hj
          unfold unknown first at hunk
          rw [List.find?_range_eq_none] at hunk
          simpa using hunk j hj
        have hl2 : flat rs0 = (pre ++ (x.1 :: 123 :: (x.2 ++ [125]))) ++ flat r := by rw [hl, pre_next]
        have := ih (pre ++ (x.1 :: 123 :: (x.2 ++ [125]))) hl2 (qs ++ [⟨bt x.1, pre.length, x.2⟩]) (by rw [hPS, hlay, pre_len]; simp) (fun y hy => h y (by simp [hy]))
          (if up (bt x.1) = true then (fun j => if j = (bt x.1 - 65).toNat then true else seen j) else seen) ?_ ?_
        · rw [pre_len] at this; exact this
        · intro j hj
          by_cases hu : up (bt x.1) = true
          · have hu' := (up_iff _).1 hu
            rw [if_pos hu]
            by_cases e : j = (bt x.1 - 65).toNat
            · rw [if_pos e]
              simp only [true_iff]
              exact ⟨_, by simp only [List.mem_append, List.mem_singleton]; exact Or.inr rfl, by simp only; omega⟩
            · rw [if_neg e, hseen j hj]
              constructor
              · rintro ⟨q, hq, e2⟩; exact ⟨q, by simp [hq], e2⟩
              · rintro ⟨q, hq, e2⟩
                simp only [List.mem_append, List.mem_singleton] at hq
                rcases hq with hq | hq
                · exact ⟨q, hq, e2⟩
                · subst hq; simp only at e2; exfalso; omega
          · rw [if_neg hu, hseen j hj]
            constructor
            · rintro ⟨q, hq, e2⟩; exact ⟨q, by simp [hq], e2⟩
            · rintro ⟨q, hq, e2⟩
              simp only [List.mem_append, List.mem_singleton] at hq
              rcases hq with hq | hq
              · exact ⟨q, hq, e2⟩
              · subst hq; simp only at e2; exfalso; apply hu; rw [up_iff]; omega
        · intro i hi
          rw [pre_len] at hi
          by_cases j0 : i < pre.length
          · exact hno i j0
          · obtain ⟨k, hk⟩ : ∃ k, i = pre.length + k := ⟨i - pre.length, by omega⟩
            subst hk
            by_cases k2 : k < 2
            · exact hpre k k2
            · obtain ⟨m, hm⟩ : ∃ m, k = 2 + m := ⟨k - 2, by omega⟩
              subst hm
              by_cases hm2 : m < x.2.length
              · rw [hbody m hm2]; exact hu2 m hm2
              · have : m = x.2.length := by omega
                rw [this]; exact hcl
theorem names_same (rs : List (UInt8 × List UInt8)) (h : ∀ x ∈ rs, okRaw x) : names (split (flat rs)).F (split (flat rs)).ps = misnamed (flat rs) := by
  rw [split_of rs h]
  exact (names_flat rs h rs [] rfl [] rfl h (fun _ => false) (by simp) (by simp)).symm
end Wd
end Go.Proofs.Ytecmfdkhcffpmaa
