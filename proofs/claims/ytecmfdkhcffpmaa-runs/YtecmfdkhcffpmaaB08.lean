/- Same3, Same4, Same5. -/
import Derived.Test.YtecmfdkhcffpmaaB07
/- The program's parts are the items with their places; the first function of a name; the first name that is wrong. -/
namespace Go.Proofs.Ytecmfdkhcffpmaa
set_option linter.unusedSimpArgs false
set_option linter.unusedVariables false
namespace Wd
theorem splitTo_stay (l : List UInt8) (k n : Nat) (h : ∀ i, k ≤ i → i < k + n → at_ l i ≠ 125) : splitTo l (k + n) = splitTo l k := by
  induction n with
  | zero => rfl
  | succ n ih =>
    rw [show k + (n + 1) = (k + n) + 1 from rfl, splitTo, ih (fun i h1 h2 => h i h1 (by omega)), splitStep, if_neg]
    exact fun hh => h (k + n) (by omega) (by omega) hh.1
theorem split_flat (rs : List (UInt8 × List UInt8)) (pre : List UInt8) (h : ∀ x ∈ rs, okRaw x) (ps : List Part) (F : Nat → Fn) (hs : splitTo (pre ++ flat rs) pre.length = ⟨pre.length, ps, F⟩) :
    splitTo (pre ++ flat rs) (pre ++ flat rs).length = ⟨(pre ++ flat rs).length, ps ++ lay pre.length rs, (lay pre.length rs).foldl addF F⟩ := by
  induction rs generalizing pre ps F with
  | nil => simp [flat, lay] at hs ⊢; exact hs
  | cons x r ih =>
    obtain ⟨hx1, hx2⟩ := h x (by simp)
    obtain ⟨a0, a1, a2, a3, a4⟩ := at_item x.1 x.2 (flat r)
    have hst : splitTo (pre ++ flat (x :: r)) (pre.length + (2 + x.2.length)) = ⟨pre.length, ps, F⟩ := by
      rw [splitTo_stay _ _ _ ?_, hs]
      intro i h1 h2
      obtain ⟨k, hk⟩ : ∃ k, i = pre.length + k := ⟨i - pre.length, by omega⟩
      rw [at_right' pre _ i k hk]
      have e : flat (x :: r) = x.1 :: 123 :: (x.2 ++ 125 :: flat r) := rfl
      rw [e]
      by_cases k0 : k = 0
      · rw [k0, a0]
        rcases hx1 with hx | hx | hx
        · omega
        · omega
        · simp [up] at hx; omega
      · by_cases k1 : k = 1
        · rw [k1, a1]; omega
        · obtain ⟨j, hj⟩ : ∃ j, k = 2 + j := ⟨k - 2, by omega⟩
          rw [hj, a2 j (by omega)]
          exact (at_clean hx2 j).2
    have hc : at_ (pre ++ flat (x :: r)) (pre.length + (2 + x.2.length)) = 125 := by
      rw [at_right]; exact a3
    have hpart : partOf (pre ++ flat (x :: r)) pre.length (pre.length + (2 + x.2.length)) = ⟨bt x.1, pre.length, x.2⟩ := by
      unfold partOf
      congr 1
      · rw [at_right' pre _ pre.length 0 rfl]; rfl
      · rw [List.drop_append]
        simp only [Nat.add_sub_cancel_left, List.drop_of_length_le (show pre.length ≤ pre.length + 2 by omega), List.nil_append, flat, List.drop_succ_cons, List.drop_zero]
        rw [show pre.length + (2 + x.2.length) - (pre.length + 2) = x.2.length from by omega]
        simp
    have hstep : splitTo (pre ++ flat (x :: r)) (pre ++ (x.1 :: 123 :: (x.2 ++ [125]))).length = ⟨(pre ++ (x.1 :: 123 :: (x.2 ++ [125]))).length, ps ++ [⟨bt x.1, pre.length, x.2⟩], addF F ⟨bt x.1, pre.length, x.2⟩⟩ := by
      rw [pre_len, show pre.length + x.2.length + 3 = (pre.length + (2 + x.2.length)) + 1 from by omega, splitTo, hst, splitStep, if_pos ⟨hc, by simp only; omega⟩, hpart]
    rw [pre_next] at hstep ⊢
    rw [ih _ (fun y hy => h y (by simp [hy])) _ _ hstep, pre_len]
    simp only [lay, List.foldl_cons, List.append_assoc, List.singleton_append]
theorem split_of (rs : List (UInt8 × List UInt8)) (h : ∀ x ∈ rs, okRaw x) : split (flat rs) = ⟨(flat rs).length, lay 0 rs, (lay 0 rs).foldl addF (fun _ => fn0)⟩ := by
  have := split_flat rs [] h [] (fun _ => fn0) rfl
  simpa [split] using this
theorem head_lay (rs : List (UInt8 × List UInt8)) (h : ∀ x ∈ rs, okRaw x) (c : Int) : head (flat rs) c = ((lay 0 rs).find? (fun p => p.letter == c)).map (·.pos) := by
  have hf := lay_facts rs [] h
  have hh : ∀ i, heads (flat rs) i = true ↔ ∃ p ∈ lay 0 rs, p.pos = i := fun i => heads_flat rs [] h i (Nat.zero_le _)
  simp only [List.nil_append, List.length_nil] at hf
  unfold head
  cases hq : (lay 0 rs).find? (fun p => p.letter == c) with
  | none =>
    rw [List.find?_eq_none] at hq
    rw [first_no]
    · rfl
    · intro j hj
      cases hb : heads (flat rs) j with
      | false => simp [headP, hb]
      | true =>
        obtain ⟨p, hp, e⟩ := (hh j).1 hb
        have := hq p hp
        have e2 := (hf p hp).1
        rw [e] at e2
        simp at this
        simp [headP, e2, this]
  | some p =>
    obtain ⟨hpc, l1, bs, hl, has⟩ := List.find?_eq_some_iff_append.1 hq
    have hp : p ∈ lay 0 rs := by rw [hl]; simp
    have hs := lay_sorted rs 0
    rw [hl] at hs
    obtain ⟨f1, f2, f3, f4, f5, f6⟩ := hf p hp
    rw [first_yes (k := p.pos)]
    · rfl
    · omega
    · simp at hpc
      simp [headP, f1, hpc, (hh p.pos).2 ⟨p, hp, rfl⟩]
    · intro j hj
      cases hb : heads (flat rs) j with
      | false => simp [headP, hb]
      | true =>
        obtain ⟨q, hq2, e⟩ := (hh j).1 hb
        have e2 := (hf q hq2).1
        rw [e] at e2
        rw [hl] at hq2
        simp only [List.mem_append, List.mem_cons] at hq2
        rcases hq2 with hq2 | hq2 | hq2
        · have := has q hq2
          simp at this
          simp [headP, e2, this]
        · subst hq2; omega
        · rw [List.pairwise_append] at hs
          have := (List.pairwise_cons.1 hs.2.1).1 q hq2
          omega
end Wd
end Go.Proofs.Ytecmfdkhcffpmaa
/- The first name that is wrong: by the program's parts, and by the document's looking byte by byte. -/
namespace Go.Proofs.Ytecmfdkhcffpmaa
set_option linter.unusedSimpArgs false
set_option linter.unusedVariables false
namespace Wd
theorem up_iff (c : Int) : up c = true ↔ 65 ≤ c ∧ c ≤ 72 := by simp [up]
theorem addF_there (F : Nat → Fn) (p : Part) (j : Nat) : ((addF F p) j).there = true ↔ (F j).there = true ∨ (p.letter = 65 + (j : Int) ∧ j < 8) := by
  unfold addF
  by_cases hu : up p.letter = true
  · rw [if_pos hu]
    have hu' := (up_iff _).1 hu
    by_cases e : j = (p.letter - 65).toNat
    · rw [if_pos e]
      simp only [true_iff]
      right; omega
    · rw [if_neg e]
      constructor
      · exact fun h => Or.inl h
      · rintro (h | h)
        · exact h
        · exfalso; omega
  · rw [if_neg hu]
    constructor
    · exact fun h => Or.inl h
    · rintro (h | h)
      · exact h
      · exfalso; apply hu; rw [up_iff]; omega
theorem fold_there (ps : List Part) (F : Nat → Fn) (j : Nat) : ((ps.foldl addF F) j).there = true ↔ (F j).there = true ∨ (j < 8 ∧ ∃ p ∈ ps, p.letter = 65 + (j : Int)) := by
  induction ps generalizing F with
  | nil => simp
  | cons p r ih =>
    rw [List.foldl_cons, ih, addF_there]
    constructor
    · rintro ((h | h) | ⟨h, q, hq, e⟩)
      · exact Or.inl h
      · exact Or.inr ⟨h.2, p, by simp, h.1⟩
      · exact Or.inr ⟨h, q, by simp [hq], e⟩
    · rintro (h | ⟨h, q, hq, e⟩)
      · exact Or.inl (Or.inl h)
      · simp at hq
        rcases hq with hq | hq
        · subst hq; exact Or.inl (Or.inr ⟨e, h⟩)
        · exact Or.inr ⟨h, q, hq, e⟩
theorem misP_notup {l : List UInt8} {i : Nat} (h : up (at_ l i) = false) : misP l i = false := by simp [misP, h]
theorem toInt_neg (o : Option Nat) : toInt o < 0 ↔ o = none := by
  cases o with
  | none => simp [toInt]
  | some i => simp [toInt]
/-- The functions of a text. -/
def fnsOf (rs : List (UInt8 × List UInt8)) : Nat → Fn := (lay 0 rs).foldl addF (fun _ => fn0)
theorem head_none (rs : List (UInt8 × List UInt8)) (h : ∀ x ∈ rs, okRaw x) (c : Int) (hc : up c = true) : head (flat rs) c = none ↔ (fnsOf rs (c - 65).toNat).there = false := by
  rw [head_lay rs h c, Option.map_eq_none_iff, List.find?_eq_none]
  have hu := (up_iff c).1 hc
  rw [← Bool.not_eq_true, fnsOf, fold_there]
  constructor
  · rintro hh (h1 | ⟨_, p, hp, e⟩)
    · simp [fn0] at h1
    · apply hh p hp; simp; omega
  · intro hh p hp e
    apply hh
    simp at e
    exact Or.inr ⟨by omega, p, hp, by omega⟩
theorem names_flat (rs0 : List (UInt8 × List UInt8)) (h0 : ∀ x ∈ rs0, okRaw x) (rs : List (UInt8 × List UInt8)) (pre : List UInt8) (hl : flat rs0 = pre ++ flat rs) (qs : List Part) (hPS : lay 0 rs0 = qs ++ lay pre.length rs)
    (h : ∀ x ∈ rs, okRaw x) (seen : Nat → Bool) (hseen : ∀ j, j < 8 → (seen j = true ↔ ∃ q ∈ qs, q.letter = 65 + (j : Int))) (hno : ∀ i, i < pre.length → misP (flat rs0) i = false) :
    misnamed (flat rs0) = namesFrom (fnsOf rs0) (lay pre.length rs) seen := by
  induction rs generalizing pre qs seen with
  | nil =>
    simp only [lay, namesFrom]
    apply first_no
    intro j hj
    apply hno
    rw [hl] at hj
    simpa [flat] using hj
  | cons x r ih =>
    obtain ⟨hx1, hx2⟩ := h x (by simp)
    obtain ⟨a0, a1, a2, a3, a4⟩ := at_item x.1 x.2 (flat r)
    have hat : ∀ k, at_ (flat rs0) (pre.length + k) = at_ (flat (x :: r)) k := fun k => by rw [hl, at_right]
    have hlen : (flat rs0).length = pre.length + (x.2.length + 3 + (flat r).length) := by rw [hl, List.length_append, flat_len]
    have hsort := lay_sorted rs0 0
    have hfacts := lay_facts rs0 [] h0
    simp only [List.nil_append, List.length_nil] at hfacts
    rw [hPS] at hsort
    have hlay : lay pre.length (x :: r) = ⟨bt x.1, pre.length, x.2⟩ :: lay (pre.length + x.2.length + 3) r := rfl
    have hq_lt : ∀ q ∈ qs, q.pos < pre.length := by
      intro q hq
      rw [List.pairwise_append] at hsort
      exact hsort.2.2 q hq ⟨bt x.1, pre.length, x.2⟩ (by rw [hlay]; simp)
    have hheads : ∀ i, heads (flat rs0) i = true ↔ ∃ p ∈ lay 0 rs0, p.pos = i := fun i => heads_flat rs0 [] h0 i (Nat.zero_le _)
    have hin : (⟨bt x.1, pre.length, x.2⟩ : Part) ∈ lay 0 rs0 := by rw [hPS, hlay]; simp
    -- the item's own letter
    have hown : misP (flat rs0) pre.length = true ↔ (up (bt x.1) = true ∧ seen (bt x.1 - 65).toNat = true) := by
      have e : at_ (flat rs0) pre.length = bt x.1 := by have := hat 0; simpa using this.trans a0
      cases hu : up (bt x.1) with
      | false => rw [misP_notup (by rw [e]; exact hu)]; simp
      | true =>
        have hu' := (up_iff _).1 hu
        have hhd : heads (flat rs0) pre.length = true := (hheads _).2 ⟨_, hin, rfl⟩
        simp only [misP, e, hu, hhd, Bool.true_and, true_and, Bool.or_eq_true, decide_eq_true_eq]
        rw [head_lay rs0 h0]
        rw [hseen _ (by omega)]
        constructor
        · rintro (hneg | hlt)
          · rw [toInt_neg, Option.map_eq_none_iff, List.find?_eq_none] at hneg
            exact absurd (by simp) (hneg _ hin)
          · cases hq : (lay 0 rs0).find? (fun p => p.letter == bt x.1) with
            | none => rw [List.find?_eq_none] at hq; exact absurd (by simp) (hq _ hin)
            | some q =>
              rw [hq] at hlt
              simp [toInt] at hlt
              have hqm := List.mem_of_find?_eq_some hq
              have hqc := List.find?_some hq
              simp at hqc
              rw [hPS, List.mem_append] at hqm
              rcases hqm with hqm | hqm
              · exact ⟨q, hqm, by omega⟩
              · have := lay_ge _ _ q hqm; omega
        · rintro ⟨q, hq, e2⟩
          right
          have hpos := hq_lt q hq
          rw [hPS, List.find?_append]
          have : (qs.find? (fun p => p.letter == bt x.1)).isSome = true := by
            rw [List.find?_isSome]; exact ⟨q, hq, by simp; omega⟩
          cases hf : qs.find? (fun p => p.letter == bt x.1) with
          | none => rw [hf] at this; cases this
          | some q2 =>
            have := hq_lt q2 (List.mem_of_find?_eq_some hf)
            simp [toInt]; omega
    -- the bytes of its body
    have hbody : ∀ j, j < x.2.length → misP (flat rs0) (pre.length + (2 + j)) = unkP (fnsOf rs0) x.2 j := by
      intro j hj
      have e : at_ (flat rs0) (pre.length + (2 + j)) = at_ x.2 j := (hat _).trans (a2 j hj)
      have hnh : heads (flat rs0) (pre.length + (2 + j)) = false := by
        rw [← Bool.not_eq_true, hheads]
        rintro ⟨p, hp, e2⟩
        rw [hPS, List.mem_append] at hp
        rcases hp with hp | hp
        · have := hq_lt p hp; omega
        · rw [hlay] at hp
          simp only [List.mem_cons] at hp
          rcases hp with hp | hp
          · subst hp; simp only at e2; omega
          · have := lay_ge _ _ p hp; omega
      simp only [misP, unkP, e, hnh, Bool.false_and, Bool.or_false]
      cases hu : up (at_ x.2 j) with
      | false => rfl
      | true =>
        simp only [Bool.true_and]
        have := head_none rs0 h0 _ hu
        cases ht : (fnsOf rs0 (at_ x.2 j - 65).toNat).there with
        | false => rw [this.2 ht]; rfl
        | true =>
          have : ¬ head (flat rs0) (at_ x.2 j) = none := fun hn => by rw [this.1 hn] at ht; cases ht
          rw [← toInt_neg] at this
          simp [this]
    have hbr : misP (flat rs0) (pre.length + 1) = false := misP_notup (by rw [(hat 1).trans a1]; decide)
    have hcl : misP (flat rs0) (pre.length + (2 + x.2.length)) = false := misP_notup (by rw [(hat _).trans a3]; decide)
    rw [hlay, namesFrom]
    simp only
    by_cases hc : up (bt x.1) = true ∧ seen (bt x.1 - 65).toNat = true
    · rw [if_pos hc]
      exact first_yes (by omega) (hown.2 hc) hno
    · rw [if_neg hc]
      have hown' : misP (flat rs0) pre.length = false := by rw [← Bool.not_eq_true, hown]; exact hc
      have hpre : ∀ k, k < 2 → misP (flat rs0) (pre.length + k) = false := by
        intro k hk
        match k, hk with
        | 0, _ => simpa using hown'
        | 1, _ => exact hbr
      cases hunk : unknown (fnsOf rs0) x.2 with
      | some u =>
        simp only
        have hul := unknown_lt hunk
        have hu1 : unkP (fnsOf rs0) x.2 u = true := by
          unfold unknown first at hunk; exact List.find?_some hunk
        have hu2 : ∀ j, j < u → unkP (fnsOf rs0) x.2 j = false := by
          intro j hj
          unfold unknown first at hunk
          rw [List.find?_range_eq_some] at hunk
          simpa using hunk.2.2 j hj
        rw [show pre.length + 2 + u = pre.length + (2 + u) from by omega]
        refine first_yes (by omega) (by rw [hbody u hul]; exact hu1) ?_
        intro j hj
        by_cases j0 : j < pre.length
        · exact hno j j0
        · obtain ⟨k, hk⟩ : ∃ k, j = pre.length + k := ⟨j - pre.length, by omega⟩
          subst hk
          by_cases k2 : k < 2
          · exact hpre k k2
          · obtain ⟨m, hm⟩ : ∃ m, k = 2 + m := ⟨k - 2, by omega⟩
            subst hm
            rw [hbody m (by omega)]; exact hu2 m (by omega)
      | none =>
        simp only
        have hu2 : ∀ j, j < x.2.length → unkP (fnsOf rs0) x.2 j = false := by
          intro j hj
          unfold unknown first at hunk
          rw [List.find?_range_eq_none] at hunk
          simpa using hunk j hj
        have hl2 : flat rs0 = (pre ++ (x.1 :: 123 :: (x.2 ++ [125]))) ++ flat r := by rw [hl, pre_next]
        have := ih (pre ++ (x.1 :: 123 :: (x.2 ++ [125]))) hl2 (qs ++ [⟨bt x.1, pre.length, x.2⟩]) (by rw [hPS, hlay, pre_len]; simp) (fun y hy => h y (by simp [hy]))
          (if up (bt x.1) = true then (fun j => if j = (bt x.1 - 65).toNat then true else seen j) else seen) ?_ ?_
        · rw [pre_len] at this; exact this
        · intro j hj
          by_cases hu : up (bt x.1) = true
          · have hu' := (up_iff _).1 hu
            rw [if_pos hu]
            by_cases e : j = (bt x.1 - 65).toNat
            · rw [if_pos e]
              simp only [true_iff]
              exact ⟨_, by simp only [List.mem_append, List.mem_singleton]; exact Or.inr rfl, by simp only; omega⟩
            · rw [if_neg e, hseen j hj]
              constructor
              · rintro ⟨q, hq, e2⟩; exact ⟨q, by simp [hq], e2⟩
              · rintro ⟨q, hq, e2⟩
                simp only [List.mem_append, List.mem_singleton] at hq
                rcases hq with hq | hq
                · exact ⟨q, hq, e2⟩
                · subst hq; simp only at e2; exfalso; omega
          · rw [if_neg hu, hseen j hj]
            constructor
            · rintro ⟨q, hq, e2⟩; exact ⟨q, by simp [hq], e2⟩
            · rintro ⟨q, hq, e2⟩
              simp only [List.mem_append, List.mem_singleton] at hq
              rcases hq with hq | hq
              · exact ⟨q, hq, e2⟩
              · subst hq; simp only at e2; exfalso; apply hu; rw [up_iff]; omega
        · intro i hi
          rw [pre_len] at hi
          by_cases j0 : i < pre.length
          · exact hno i j0
          · obtain ⟨k, hk⟩ : ∃ k, i = pre.length + k := ⟨i - pre.length, by omega⟩
            subst hk
            by_cases k2 : k < 2
            · exact hpre k k2
            · obtain ⟨m, hm⟩ : ∃ m, k = 2 + m := ⟨k - 2, by omega⟩
              subst hm
              by_cases hm2 : m < x.2.length
              · rw [hbody m hm2]; exact hu2 m hm2
              · have : m = x.2.length := by omega
                rw [this]; exact hcl
theorem names_same (rs : List (UInt8 × List UInt8)) (h : ∀ x ∈ rs, okRaw x) : names (split (flat rs)).F (split (flat rs)).ps = misnamed (flat rs) := by
  rw [split_of rs h]
  exact (names_flat rs h rs [] rfl [] rfl h (fun _ => false) (by simp) (by simp)).symm
end Wd
end Go.Proofs.Ytecmfdkhcffpmaa
/- A function comes back to itself just if there is one that cannot be unfolded. -/
namespace Go.Proofs.Ytecmfdkhcffpmaa
set_option linter.unusedSimpArgs false
set_option linter.unusedVariables false
namespace Wd
theorem jLoop_eq (C : Nat → Bool) (k i : Nat) (hk : k < 8) (hi : i < 8) (m : Nat) (hm : m ≤ 8) (x y : Nat) (hx : x < 8) (hy : y < 8) :
    jLoop C k i m (x * 8 + y) = if x = i ∧ y < m then (C (i * 8 + y) || (C (i * 8 + k) && C (k * 8 + y))) else C (x * 8 + y) := by
  induction m generalizing x y with
  | zero => simp [jLoop]
  | succ m ih =>
    have h1 := ih (by omega) i m hi (by omega)
    have h2 := ih (by omega) i k hi hk
    have h3 := ih (by omega) k m hk (by omega)
    have h4 := ih (by omega) x y hx hy
    rw [if_neg (by omega)] at h1 h3
    have h2' : jLoop C k i m (i * 8 + k) = C (i * 8 + k) := by
      rw [h2]
      split
      · cases C (i * 8 + k) <;> simp
      · rfl
    simp only [jLoop, upd]
    by_cases e : x * 8 + y = i * 8 + m
    · have e1 : x = i := by omega
      have e2 : y = m := by omega
      subst e1 e2
      rw [if_pos rfl, h1, h2', h3, if_pos ⟨rfl, by omega⟩]
    · rw [if_neg e, h4]
      by_cases hc : x = i ∧ y < m
      · rw [if_pos hc, if_pos ⟨hc.1, by omega⟩]
      · rw [if_neg hc, if_neg (by omega)]
theorem iLoop_eq (B : Nat → Bool) (k : Nat) (hk : k < 8) (n : Nat) (hn : n ≤ 8) (x y : Nat) (hx : x < 8) (hy : y < 8) :
    iLoop B k n (x * 8 + y) = if x < n then (B (x * 8 + y) || (B (x * 8 + k) && B (k * 8 + y))) else B (x * 8 + y) := by
  induction n generalizing x y with
  | zero => simp [iLoop]
  | succ n ih =>
    simp only [iLoop]
    rw [jLoop_eq _ k n hk (by omega) 8 (by omega) x y hx hy]
    have h1 := ih (by omega) n y (by omega) hy
    have h2 := ih (by omega) n k (by omega) hk
    have h3 := ih (by omega) k y hk hy
    have h4 := ih (by omega) x y hx hy
    rw [if_neg (by omega)] at h1 h2
    have h3' : iLoop B k n (k * 8 + y) = B (k * 8 + y) := by
      rw [h3]
      split
      · cases B (k * 8 + y) <;> simp
      · rfl
    by_cases e : x = n
    · subst e
      rw [if_pos ⟨rfl, hy⟩, h1, h2, h3', if_pos (by omega)]
    · rw [if_neg (by omega), h4]
      by_cases hc : x < n
      · rw [if_pos hc, if_pos (by omega)]
      · rw [if_neg hc, if_neg (by omega)]
theorem kLoop_step (b : Nat → Bool) (k : Nat) (hk : k < 8) (x y : Nat) (hx : x < 8) (hy : y < 8) :
    kLoop b (k + 1) (x * 8 + y) = (kLoop b k (x * 8 + y) || (kLoop b k (x * 8 + k) && kLoop b k (k * 8 + y))) := by
  simp only [kLoop]
  rw [iLoop_eq _ k hk 8 (by omega) x y hx hy, if_pos hx]
theorem kLoop_mono (b : Nat → Bool) (k : Nat) (hk : k ≤ 8) (x y : Nat) (hx : x < 8) (hy : y < 8) (h : b (x * 8 + y) = true) : kLoop b k (x * 8 + y) = true := by
  induction k with
  | zero => exact h
  | succ k ih => rw [kLoop_step b k (by omega) x y hx hy, ih (by omega)]; rfl
theorem kLoop_trans (b : Nat → Bool) (k : Nat) (hk : k ≤ 8) (x m y : Nat) (hx : x < 8) (hmk : m < k) (hy : y < 8) (h1 : kLoop b k (x * 8 + m) = true) (h2 : kLoop b k (m * 8 + y) = true) : kLoop b k (x * 8 + y) = true := by
  induction k generalizing x m y with
  | zero => omega
  | succ k ih =>
    have hm : m < 8 := by omega
    rw [kLoop_step b k (by omega) _ _ hx hm] at h1
    rw [kLoop_step b k (by omega) _ _ hm hy] at h2
    rw [kLoop_step b k (by omega) _ _ hx hy]
    simp only [Bool.or_eq_true, Bool.and_eq_true] at h1 h2 ⊢
    by_cases e : m = k
    · subst e
      have a1 : kLoop b m (x * 8 + m) = true := by
        rcases h1 with h1 | h1
        · exact h1
        · exact h1.1
      have a2 : kLoop b m (m * 8 + y) = true := by
        rcases h2 with h2 | h2
        · exact h2
        · exact h2.2
      exact Or.inr ⟨a1, a2⟩
    · have hlt : m < k := by omega
      have ih' := ih (by omega)
      rcases h1 with h1 | ⟨h1, h1'⟩
      · rcases h2 with h2 | ⟨h2, h2'⟩
        · exact Or.inl (ih' x m y hx hlt hy h1 h2)
        · exact Or.inr ⟨ih' x m k hx hlt (by omega) h1 h2, h2'⟩
      · rcases h2 with h2 | ⟨h2, h2'⟩
        · exact Or.inr ⟨h1, ih' k m y (by omega) hlt hy h1' h2⟩
        · exact Or.inr ⟨h1, h2'⟩
theorem kLoop_least (b : Nat → Bool) (S : Nat → Nat → Prop) (hS : ∀ x y, x < 8 → y < 8 → b (x * 8 + y) = true → S x y) (hT : ∀ x m y, x < 8 → m < 8 → y < 8 → S x m → S m y → S x y) (k : Nat) (hk : k ≤ 8) (x y : Nat) (hx : x < 8) (hy : y < 8)
    (h : kLoop b k (x * 8 + y) = true) : S x y := by
  induction k generalizing x y with
  | zero => exact hS x y hx hy h
  | succ k ih =>
    rw [kLoop_step b k (by omega) _ _ hx hy] at h
    simp only [Bool.or_eq_true, Bool.and_eq_true] at h
    rcases h with h | ⟨h1, h2⟩
    · exact ih (by omega) x y hx hy h
    · exact hT x k y hx (by omega) hy (ih (by omega) x k hx (by omega) h1) (ih (by omega) k y (by omega) hy h2)
/-- Is the function y called, by and by, from the function x? -/
def reach (b : Nat → Bool) (x y : Nat) : Bool := kLoop b 8 (x * 8 + y)
theorem reach_trans {b : Nat → Bool} {x m y : Nat} (hx : x < 8) (hm : m < 8) (hy : y < 8) (h1 : reach b x m = true) (h2 : reach b m y = true) : reach b x y = true := kLoop_trans b 8 (by omega) x m y hx hm hy h1 h2
theorem reach_one {b : Nat → Bool} {x y : Nat} (hx : x < 8) (hy : y < 8) (h : b (x * 8 + y) = true) : reach b x y = true := kLoop_mono b 8 (by omega) x y hx hy h
theorem reach_first {b : Nat → Bool} {x y : Nat} (hx : x < 8) (hy : y < 8) (h : reach b x y = true) : ∃ g, g < 8 ∧ b (x * 8 + g) = true ∧ (g = y ∨ reach b g y = true) := by
  refine kLoop_least b (fun x y => ∃ g, g < 8 ∧ b (x * 8 + g) = true ∧ (g = y ∨ reach b g y = true)) ?_ ?_ 8 (by omega) x y hx hy h
  · intro x y _ hy hb; exact ⟨y, hy, hb, Or.inl rfl⟩
  · rintro x m y hx hm hy ⟨g, hg, hb, hgm⟩ ⟨g', hg', hb', hgy⟩
    have hmy : reach b m y = true := by
      rcases hgy with e | e
      · subst e; exact reach_one hm hg' hb'
      · exact reach_trans hm hg' hy (reach_one hm hg' hb') e
    refine ⟨g, hg, hb, Or.inr ?_⟩
    rcases hgm with e | e
    · subst e; exact hmy
    · exact reach_trans hg hm hy e hmy
/-- How many functions are called, by and by, from x. -/
def count (b : Nat → Bool) (x : Nat) : Nat := (List.range 8).countP (reach b x)
theorem countP_lt {p q : Nat → Bool} (l : List Nat) (h : ∀ x ∈ l, p x = true → q x = true) (hx : ∃ x ∈ l, q x = true ∧ p x = false) : l.countP p < l.countP q := by
  induction l with
  | nil => simp at hx
  | cons a r ih =>
    have hle : r.countP p ≤ r.countP q := List.countP_mono_left (fun y hy => h y (by simp [hy]))
    obtain ⟨x, hxm, hq, hp⟩ := hx
    simp only [List.mem_cons] at hxm
    rcases hxm with e | hxm
    · subst e
      rw [List.countP_cons_of_neg (by simp [hp]), List.countP_cons_of_pos hq]
      omega
    · have := ih (fun y hy => h y (by simp [hy])) ⟨x, hxm, hq, hp⟩
      by_cases ha : p a = true
      · rw [List.countP_cons_of_pos ha, List.countP_cons_of_pos (h a (by simp) ha)]; omega
      · rw [List.countP_cons_of_neg ha]
        by_cases hqa : q a = true
        · rw [List.countP_cons_of_pos hqa]; omega
        · rw [List.countP_cons_of_neg hqa]; omega
theorem count_lt {b : Nat → Bool} (hirr : ∀ i, i < 8 → reach b i i = false) {x g : Nat} (hx : x < 8) (hg : g < 8) (h : b (x * 8 + g) = true) : count b g < count b x := by
  refine countP_lt _ ?_ ⟨g, by simpa using hg, reach_one hx hg h, hirr g hg⟩
  intro y hy hr
  exact reach_trans hx hg (by simpa using hy) (reach_one hx hg h) hr
theorem count_bd {b : Nat → Bool} (hirr : ∀ i, i < 8 → reach b i i = false) {x : Nat} (hx : x < 8) : count b x < 8 := by
  have := countP_lt (p := reach b x) (q := fun _ => true) (List.range 8) (by simp) ⟨x, by simpa using hx, rfl, hirr x hx⟩
  simpa [count] using this
end Wd
end Go.Proofs.Ytecmfdkhcffpmaa
