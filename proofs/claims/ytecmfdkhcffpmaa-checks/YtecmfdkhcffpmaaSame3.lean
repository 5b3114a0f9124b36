/- The program's parts are the items with their places; the first function of a name; the first name that is wrong. -/
import Derived.Test.YtecmfdkhcffpmaaSame2
namespace Go.Proofs.Ytecmfdkhcffpmaa
set_option linter.unusedSimpArgs false
set_option linter.unusedVariables false
namespace Wd
theorem splitTo_stay (l : List UInt8) (k n : Nat) (h : ∀ i, k ≤ i → i < k + n → at_ l i ≠ 125) : splitTo l (k + n) = splitTo l k := by
  induction n with
  | zero => rfl
  | succ n ih =>
    rw [show k + (n + 1) = (k + n) + 1 from rfl, splitTo, ih (fun i h1 h2 => h i h1 (by omega)), splitStep, if_neg]
    exact fun hh => h (k + n) (by omega) (by omega) hh.1
theorem split_flat (rs : List (UInt8 × List UInt8)) (pre : List UInt8) (h : ∀ x ∈ rs, okRaw x) (ps : List Part) (F : Nat → Fn) (hs : splitTo (pre ++ flat rs) pre.length = ⟨pre.length, ps, F⟩) :
    splitTo (pre ++ flat rs) (pre ++ flat rs).length = ⟨(pre ++ flat rs).length, ps ++ lay pre.length rs, (lay pre.length rs).foldl addF F⟩ := by
  induction rs generalizing pre ps F with
  | nil => simp [flat, lay] at hs ⊢; exact hs
  | cons x r ih =>
    obtain ⟨hx1, hx2⟩ := h x (by simp)
    obtain ⟨a0, a1, a2, a3, a4⟩ := at_item x.1 x.2 (flat r)
    have hst : splitTo (pre ++ flat (x :: r)) (pre.length + (2 + x.2.length)) = ⟨pre.length, ps, F⟩ := by
      rw [splitTo_stay _ _ _ ?_, hs]
      intro i h1 h2
      obtain ⟨k, hk⟩ : ∃ k, i = pre.length + k := ⟨i - pre.length, by omega⟩
      rw [at_right' pre _ i k hk]
      have e : flat (x :: r) = x.1 :: 123 :: (x.2 ++ 125 :: flat r) := rfl
      rw [e]
      by_cases k0 : k = 0
      · rw [k0, a0]
        rcases hx1 with hx | hx | hx
        · omega
        · omega
        · simp [up] at hx; omega
      · by_cases k1 : k = 1
        · rw [k1, a1]; omega
        · obtain ⟨j, hj⟩ : ∃ j, k = 2 + j := ⟨k - 2, by omega⟩
          rw [hj, a2 j (by omega)]
          exact (at_clean hx2 j).2
    have hc : at_ (pre ++ flat (x :: r)) (pre.length + (2 + x.2.length)) = 125 := by
      rw [at_right]; exact a3
    have hpart : partOf (pre ++ flat (x :: r)) pre.length (pre.length + (2 + x.2.length)) = ⟨bt x.1, pre.length, x.2⟩ := by
      unfold partOf
      congr 1
      · rw [at_right' pre _ pre.length 0 rfl]; rfl
      · rw [List.drop_append]
        simp only [Nat.add_sub_cancel_left, List.drop_of_length_le (show pre.length ≤ pre.length + 2 by omega), List.nil_append, flat, List.drop_succ_cons, List.drop_zero]
        rw [show pre.length + (2 + x.2.length) - (pre.length + 2) = x.2.length from by omega]
        simp
    have hstep : splitTo (pre ++ flat (x :: r)) (pre ++ (x.1 :: 123 :: (x.2 ++ [125]))).length = ⟨(pre ++ (x.1 :: 123 :: (x.2 ++ [125]))).length, ps ++ [⟨bt x.1, pre.length, x.2⟩], addF F ⟨bt x.1, pre.length, x.2⟩⟩ := by
      rw [pre_len, show pre.length + x.2.length + 3 = (pre.length + (2 + x.2.length)) + 1 from by omega, splitTo, hst, splitStep, if_pos ⟨hc, by simp only; omega⟩, hpart]
    rw [pre_next] at hstep ⊢
    rw [ih _ (fun y hy => h y (by simp [hy])) _ _ hstep, pre_len]
    simp only [lay, List.foldl_cons, List.append_assoc, List.singleton_append]
theorem split_of (rs : List (UInt8 × List UInt8)) (h : ∀ x ∈ rs, okRaw x) : split (flat rs) = ⟨(flat rs).length, lay 0 rs, (lay 0 rs).foldl addF (fun _ => fn0)⟩ := by
  have := split_flat rs [] h [] (fun _ => fn0) rfl
  simpa [split] using this
theorem head_lay (rs : List (UInt8 × List UInt8)) (h : ∀ x ∈ rs, okRaw x) (c : Int) : head (flat rs) c = ((lay 0 rs).find? (fun p => p.letter == c)).map (·.pos) := by
  have hf := lay_facts rs [] h
  have hh : ∀ i, heads (flat rs) i = true ↔ ∃ p ∈ lay 0 rs, p.pos = i := fun i => heads_flat rs [] h i (Nat.zero_le _)
  simp only [List.nil_append, List.length_nil] at hf
  unfold head
  cases hq : (lay 0 rs).find? (fun p => p.letter == c) with
  | none =>
    rw [List.find?_eq_none] at hq
    rw [first_no]
    · rfl
    · intro j hj
      cases hb : heads (flat rs) j with
      | false => simp [headP, hb]
      | true =>
        obtain ⟨p, hp, e⟩ := (hh j).1 hb
        have := hq p hp
        have e2 := (hf p hp).1
        rw [e] at e2
        simp at this
        simp [headP, e2, this]
  | some p =>
    obtain ⟨hpc, as, bs, hl, has⟩ := List.find?_eq_some_iff_append.1 hq
    have hp : p ∈ lay 0 rs := by rw [hl]; simp
    have hs := lay_sorted rs 0
    rw [hl] at hs
    obtain ⟨f1, f2, f3, f4, f5, f6⟩ := hf p hp
    rw [first_yes (k := p.pos)]
    · rfl
    · omega
    · simp at hpc
      simp [headP, f1, hpc, (hh p.pos).2 ⟨p, hp, rfl⟩]
    · intro j hj
      cases hb : heads (flat rs) j with
      | false => simp [headP, hb]
      | true =>
        obtain ⟨q, hq2, e⟩ := (hh j).1 hb
        have e2 := (hf q hq2).1
        rw [e] at e2
        rw [hl] at hq2
        simp only [List.mem_append, List.mem_cons] at hq2
        rcases hq2 with hq2 | hq2 | hq2
        · have := has q hq2
          simp at this
          simp [headP, e2, this]
        · subst hq2; omega
        · rw [List.pairwise_append] at hs
          have := (List.pairwise_cons.1 hs.2.1).1 q hq2
          omega
end Wd
end Go.Proofs.Ytecmfdkhcffpmaa
