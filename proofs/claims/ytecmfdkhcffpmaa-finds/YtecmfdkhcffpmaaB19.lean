/- Same2, Same3, Same4. -/
import Derived.Test.YtecmfdkhcffpmaaB18
/- A text without a fault is a row of items, one behind the other: where they begin, what their bodies are, by the program's taking apart and by the document's looking. -/
namespace Go.Proofs.Ytecmfdkhcffpmaa
set_option linter.unusedSimpArgs false
set_option linter.unusedVariables false
namespace Wd
def flat : List (UInt8 × List UInt8) → List UInt8
  | [] => []
  | x :: r => x.1 :: 123 :: (x.2 ++ 125 :: flat r)
def clean (b : List UInt8) : Prop := ∀ c ∈ b, bt c ≠ 123 ∧ bt c ≠ 125
def okRaw (x : UInt8 × List UInt8) : Prop := (bt x.1 = 116 ∨ bt x.1 = 104 ∨ up (bt x.1) = true) ∧ clean x.2
theorem bt_inj {a b : UInt8} (h : bt a = bt b) : a = b := by
  unfold bt at h
  apply UInt8.toNat_inj.1
  omega
theorem bodyP_next {o : List UInt8} {n : Nat} {c : Int} {st : St} (h : bodyP ⟨2, o, n⟩ c = some st) : (c = 125 ∧ st.want = 0) ∨ (c ≠ 125 ∧ c ≠ 123 ∧ (st.want = 2 ∨ st.want = 3 ∨ st.want = 4)) := by
  by_cases h25 : c = 125
  · left
    subst h25
    simp [bodyP] at h
    exact ⟨rfl, by rw [← h.2]⟩
  · by_cases h23 : c = 123
    · subst h23; simp [bodyP, show up 123 = false from by decide] at h
    · right
      refine ⟨h25, h23, ?_⟩
      unfold bodyP at h
      simp only at h
      repeat' (split at h)
      all_goals first
        | (cases h; done)
        | (cases h; simp)
        | omega
theorem shape (l : List UInt8) (i : Nat) (st : St) (h : faultFrom l i st = none) :
    (st.want = 0 → ∃ rs, l = flat rs ∧ ∀ x ∈ rs, okRaw x) ∧
    (st.want = 1 → ∃ b rs, l = 123 :: (b ++ 125 :: flat rs) ∧ clean b ∧ ∀ x ∈ rs, okRaw x) ∧
    (st.want = 2 ∨ st.want = 3 ∨ st.want = 4 → ∃ b rs, l = b ++ 125 :: flat rs ∧ clean b ∧ ∀ x ∈ rs, okRaw x) := by
  induction l generalizing i st with
  | nil =>
    simp [faultFrom] at h
    refine ⟨fun _ => ⟨[], rfl, by simp⟩, fun hw => by omega, fun hw => by omega⟩
  | cons c t ih =>
    simp only [faultFrom] at h
    cases hs : stepP st (bt c) with
    | none => rw [hs] at h; cases h
    | some st' =>
      rw [hs] at h
      simp only at h
      obtain ⟨i1, i2, i3⟩ := ih _ _ h
      obtain ⟨want, o, n⟩ := st
      refine ⟨?_, ?_, ?_⟩
      · intro hw
        simp only at hw
        subst hw
        simp only [stepP, if_true] at hs
        split at hs
        · next hc =>
          cases hs
          obtain ⟨b, rs, e, hb, hr⟩ := i2 rfl
          refine ⟨(c, b) :: rs, by rw [e]; rfl, ?_⟩
          intro x hx
          simp at hx
          rcases hx with hx | hx
          · subst hx; exact ⟨hc.2, hb⟩
          · exact hr x hx
        · cases hs
      · intro hw
        simp only at hw
        subst hw
        simp [stepP] at hs
        obtain ⟨hc, rfl⟩ := hs
        obtain ⟨b, rs, e, hb, hr⟩ := i3 (Or.inl rfl)
        have hcc : c = 123 := bt_inj (by rw [hc]; rfl)
        exact ⟨b, rs, by rw [e, hcc], hb, hr⟩
      · intro hw
        simp only at hw
        have hgo : (bt c = 125 ∧ st'.want = 0) ∨ (bt c ≠ 125 ∧ bt c ≠ 123 ∧ (st'.want = 2 ∨ st'.want = 3 ∨ st'.want = 4)) := by
          rcases hw with hw | hw | hw
          · subst hw
            exact bodyP_next (by simpa [stepP] using hs)
          · subst hw
            simp [stepP] at hs
            obtain ⟨hc, rfl⟩ := hs
            simp [lk] at hc
            right; exact ⟨by omega, by omega, Or.inl rfl⟩
          · subst hw
            simp [stepP] at hs
            obtain ⟨hc, rfl⟩ := hs
            simp [cl] at hc
            right; exact ⟨by omega, by omega, Or.inl rfl⟩
        rcases hgo with ⟨hc, hw'⟩ | ⟨h1, h2, hw'⟩
        · obtain ⟨rs, e, hr⟩ := i1 hw'
          have hcc : c = 125 := bt_inj (by rw [hc]; rfl)
          exact ⟨[], rs, by rw [e, hcc]; rfl, by simp [clean], hr⟩
        · obtain ⟨b, rs, e, hb, hr⟩ := i3 hw'
          refine ⟨c :: b, rs, by rw [e]; rfl, ?_, hr⟩
          intro x hx
          simp at hx
          rcases hx with hx | hx
          · subst hx; exact ⟨h2, h1⟩
          · exact hb x hx
theorem shape_of {l : List UInt8} (h : fault l = none) : ∃ rs, l = flat rs ∧ ∀ x ∈ rs, okRaw x := (shape l 0 _ h).1 rfl
/-- The items with their places. -/
def lay : Nat → List (UInt8 × List UInt8) → List Part
  | _, [] => []
  | o, x :: r => ⟨bt x.1, o, x.2⟩ :: lay (o + x.2.length + 3) r
theorem at_right (a b : List UInt8) (i : Nat) : at_ (a ++ b) (a.length + i) = at_ b i := by
  simp [at_, List.getElem?_append_right]
theorem at_right' (a b : List UInt8) (i j : Nat) (h : i = a.length + j) : at_ (a ++ b) i = at_ b j := by rw [h, at_right]
/-- The bytes of an item. -/
theorem at_item (c : UInt8) (b rest : List UInt8) : at_ (c :: 123 :: (b ++ 125 :: rest)) 0 = bt c ∧ at_ (c :: 123 :: (b ++ 125 :: rest)) 1 = 123 ∧
    (∀ j, j < b.length → at_ (c :: 123 :: (b ++ 125 :: rest)) (2 + j) = at_ b j) ∧ at_ (c :: 123 :: (b ++ 125 :: rest)) (2 + b.length) = 125 ∧ (∀ j, at_ (c :: 123 :: (b ++ 125 :: rest)) (3 + b.length + j) = at_ rest j) := by
  refine ⟨rfl, rfl, ?_, ?_, ?_⟩
  · intro j hj
    have e : at_ (c :: 123 :: (b ++ 125 :: rest)) (2 + j) = at_ (b ++ 125 :: rest) j := by rw [Nat.add_comm]; rfl
    rw [e]; simp [at_, List.getElem?_append_left hj]
  · have e : at_ (c :: 123 :: (b ++ 125 :: rest)) (2 + b.length) = at_ (b ++ 125 :: rest) b.length := by rw [Nat.add_comm]; rfl
    rw [e, at_right' b _ b.length 0 rfl]; rfl
  · intro j
    have e : at_ (c :: 123 :: (b ++ 125 :: rest)) (3 + b.length + j) = at_ (b ++ 125 :: rest) (b.length + (1 + j)) := by
      rw [show 3 + b.length + j = (b.length + (1 + j)) + 2 from by omega]; rfl
    rw [e, at_right, Nat.add_comm]; rfl
theorem flat_len (x : UInt8 × List UInt8) (r : List (UInt8 × List UInt8)) : (flat (x :: r)).length = x.2.length + 3 + (flat r).length := by
  simp [flat]; omega
theorem pre_next (pre : List UInt8) (x : UInt8 × List UInt8) (r : List (UInt8 × List UInt8)) : pre ++ flat (x :: r) = (pre ++ (x.1 :: 123 :: (x.2 ++ [125]))) ++ flat r := by simp [flat]
theorem pre_len (pre : List UInt8) (x : UInt8 × List UInt8) : (pre ++ (x.1 :: 123 :: (x.2 ++ [125]))).length = pre.length + x.2.length + 3 := by simp; omega
theorem takeWhile_clean (b rest : List UInt8) (hb : clean b) : (b ++ 125 :: rest).takeWhile (fun c => !(((c.toNat : Nat) : Int) == 125)) = b := by
  induction b with
  | nil => simp [List.takeWhile]
  | cons c t ih =>
    have hc := (hb c (by simp)).2
    have : (!(((c.toNat : Nat) : Int) == 125)) = true := by simpa [bt] using hc
    simp only [List.cons_append, List.takeWhile, this]
    rw [ih (fun y hy => hb y (by simp [hy]))]
/-- What the items' places hold. -/
theorem lay_facts (rs : List (UInt8 × List UInt8)) (pre : List UInt8) (h : ∀ x ∈ rs, okRaw x) : ∀ p ∈ lay pre.length rs,
    at_ (pre ++ flat rs) p.pos = p.letter ∧ body (pre ++ flat rs) p.pos = p.body ∧ (p.letter = 116 ∨ p.letter = 104 ∨ up p.letter = true) ∧ pre.length ≤ p.pos ∧ clean p.body ∧ p.pos + p.body.length + 3 ≤ (pre ++ flat rs).length := by
  induction rs generalizing pre with
  | nil => intro p hp; simp [lay] at hp
  | cons x r ih =>
    intro p hp
    simp only [lay, List.mem_cons] at hp
    obtain ⟨hx1, hx2⟩ := h x (by simp)
    rcases hp with hp | hp
    · subst hp
      refine ⟨?_, ?_, hx1, Nat.le_refl _, hx2, ?_⟩
      · rw [at_right' pre _ pre.length 0 rfl]; rfl
      · unfold body
        simp only
        rw [show pre.length + 2 = pre.length + 2 from rfl, List.drop_append]
        simp only [Nat.add_sub_cancel_left, List.drop_of_length_le (show pre.length ≤ pre.length + 2 by omega), List.nil_append, flat, List.drop_succ_cons, List.drop_zero]
        exact takeWhile_clean _ _ hx2
      · simp [flat]; omega
    · have e := pre_next pre x r
      have := ih (pre ++ (x.1 :: 123 :: (x.2 ++ [125]))) (fun y hy => h y (by simp [hy])) p (by rw [pre_len]; exact hp)
      rw [← e, pre_len] at this
      exact ⟨this.1, this.2.1, this.2.2.1, by omega, this.2.2.2.2.1, this.2.2.2.2.2⟩
theorem lay_ge (rs : List (UInt8 × List UInt8)) (o : Nat) : ∀ p ∈ lay o rs, o ≤ p.pos := by
  induction rs generalizing o with
  | nil => intro p hp; simp [lay] at hp
  | cons x r ih =>
    intro p hp
    simp only [lay, List.mem_cons] at hp
    rcases hp with hp | hp
    · subst hp; exact Nat.le_refl _
    · have := ih _ p hp; omega
theorem lay_sorted (rs : List (UInt8 × List UInt8)) (o : Nat) : (lay o rs).Pairwise (fun a b => a.pos < b.pos) := by
  induction rs generalizing o with
  | nil => exact List.Pairwise.nil
  | cons x r ih =>
    simp only [lay]
    refine List.Pairwise.cons ?_ (ih _)
    intro q hq
    have := lay_ge r _ q hq
    simp only
    omega
theorem at_out (l : List UInt8) (i : Nat) (h : l.length ≤ i) : at_ l i = 0 := by simp [at_, List.getElem?_eq_none h]
theorem at_clean {b : List UInt8} (hb : clean b) (i : Nat) : at_ b i ≠ 123 ∧ at_ b i ≠ 125 := by
  by_cases h : i < b.length
  · obtain ⟨c, hc, e⟩ := at_mem h
    rw [e]; exact hb c hc
  · rw [at_out b i (by omega)]; omega
theorem flat_first (rs : List (UInt8 × List UInt8)) (h : ∀ x ∈ rs, okRaw x) : at_ (flat rs) 0 ≠ 123 ∧ at_ (flat rs) 0 ≠ 125 := by
  cases rs with
  | nil => simp [flat, at_]
  | cons x r =>
    have hx := (h x (by simp)).1
    have e : at_ (flat (x :: r)) 0 = bt x.1 := rfl
    rw [e]
    rcases hx with hx | hx | hx
    · omega
    · omega
    · simp [up] at hx; omega
/-- An item begins just where one is laid. -/
theorem heads_flat (rs : List (UInt8 × List UInt8)) (pre : List UInt8) (h : ∀ x ∈ rs, okRaw x) (i : Nat) (hi : pre.length ≤ i) :
    heads (pre ++ flat rs) i = true ↔ ∃ p ∈ lay pre.length rs, p.pos = i := by
  induction rs generalizing pre with
  | nil =>
    constructor
    · intro hh; simp [heads, flat] at hh; omega
    · rintro ⟨p, hp, _⟩; simp [lay] at hp
  | cons x r ih =>
    obtain ⟨hx1, hx2⟩ := h x (by simp)
    obtain ⟨a0, a1, a2, a3, a4⟩ := at_item x.1 x.2 (flat r)
    have hfr := flat_first r (fun y hy => h y (by simp [hy]))
    by_cases hnext : pre.length + x.2.length + 3 ≤ i
    · have := ih (pre ++ (x.1 :: 123 :: (x.2 ++ [125]))) (fun y hy => h y (by simp [hy])) (by rw [pre_len]; omega)
      rw [← pre_next, pre_len] at this
      rw [this]
      constructor
      · rintro ⟨p, hp, e⟩; exact ⟨p, by simp [lay, hp], e⟩
      · rintro ⟨p, hp, e⟩
        simp only [lay, List.mem_cons] at hp
        rcases hp with hp | hp
        · subst hp; simp only at e; omega
        · exact ⟨p, hp, e⟩
    · by_cases hz : i = pre.length
      · subst hz
        constructor
        · intro _; exact ⟨_, by simp only [lay, List.mem_cons]; exact Or.inl rfl, rfl⟩
        · intro _
          have e := at_right' pre (flat (x :: r)) (pre.length + 1) 1 rfl
          have e1 : at_ (flat (x :: r)) 1 = 123 := a1
          simp only [heads, e, e1]
          simp [flat_len]; omega
      · constructor
        · intro hh
          exfalso
          simp [heads] at hh
          have hh2 := hh.2
          obtain ⟨k, hk⟩ : ∃ k, i + 1 = pre.length + (2 + k) := ⟨i + 1 - pre.length - 2, by omega⟩
          rw [at_right' pre (flat (x :: r)) (i + 1) (2 + k) hk] at hh2
          by_cases hkb : k < x.2.length
          · have e : at_ (flat (x :: r)) (2 + k) = at_ x.2 k := a2 k hkb
            rw [e] at hh2
            exact (at_clean hx2 k).1 hh2
          · by_cases hke : k = x.2.length
            · have e : at_ (flat (x :: r)) (2 + x.2.length) = 125 := a3
              rw [hke, e] at hh2; omega
            · have hk1 : k = x.2.length + 1 := by omega
              have e : at_ (flat (x :: r)) (3 + x.2.length + 0) = at_ (flat r) 0 := a4 0
              rw [show 2 + k = 3 + x.2.length + 0 from by omega, e] at hh2
              exact hfr.1 hh2
        · rintro ⟨p, hp, e⟩
          exfalso
          simp only [lay, List.mem_cons] at hp
          rcases hp with hp | hp
          · subst hp; simp only at e; omega
          · have := lay_ge r _ p hp; omega
end Wd
end Go.Proofs.Ytecmfdkhcffpmaa
/- The program's parts are the items with their places; the first function of a name; the first name that is wrong. -/
namespace Go.Proofs.Ytecmfdkhcffpmaa
set_option linter.unusedSimpArgs false
set_option linter.unusedVariables false
namespace Wd
theorem splitTo_stay (l : List UInt8) (k n : Nat) (h : ∀ i, k ≤ i → i < k + n → at_ l i ≠ 125) : splitTo l (k + n) = splitTo l k := by
  induction n with
  | zero => rfl
  | succ n ih =>
    rw [show k + (n + 1) = (k + n) + 1 from rfl, splitTo, ih (fun i h1 h2 => h i h1 (by omega)), splitStep, if_neg]
    exact fun hh => h (k + n) (by omega) (by omega) hh.1
theorem split_flat (rs : List (UInt8 × List UInt8)) (pre : List UInt8) (h : ∀ x ∈ rs, okRaw x) (ps : List Part) (F : Nat → Fn) (hs : splitTo (pre ++ flat rs) pre.length = ⟨pre.length, ps, F⟩) :
    splitTo (pre ++ flat rs) (pre ++ flat rs).length = ⟨(pre ++ flat rs).length, ps ++ lay pre.length rs, (lay pre.length rs).foldl addF F⟩ := by
  induction rs generalizing pre ps F with
  | nil => simp [flat, lay] at hs ⊢; exact hs
  | cons x r ih =>
    obtain ⟨hx1, hx2⟩ := h x (by simp)
    obtain ⟨a0, a1, a2, a3, a4⟩ := at_item x.1 x.2 (flat r)
    have hst : splitTo (pre ++ flat (x :: r)) (pre.length + (2 + x.2.length)) = ⟨pre.length, ps, F⟩ := by
      rw [splitTo_stay _ _ _ ?_, hs]
      intro i h1 h2
      obtain ⟨k, hk⟩ : ∃ k, i = pre.length + k := ⟨i - pre.length, by omega⟩
      rw [at_right' pre _ i k hk]
      have e : flat (x :: r) = x.1 :: 123 :: (x.2 ++ 125 :: flat r) := rfl
      rw [e]
      by_cases k0 : k = 0
      · rw [k0, a0]
        rcases hx1 with hx | hx | hx
        · omega
        · omega
        · simp [up] at hx; omega
      · by_cases k1 : k = 1
        · rw [k1, a1]; omega
        · obtain ⟨j, hj⟩ : ∃ j, k = 2 + j := ⟨k - 2, by omega⟩
          rw [hj, a2 j (by omega)]
          exact (at_clean hx2 j).2
    have hc : at_ (pre ++ flat (x :: r)) (pre.length + (2 + x.2.length)) = 125 := by
      rw [at_right]; exact a3
    have hpart : partOf (pre ++ flat (x :: r)) pre.length (pre.length + (2 + x.2.length)) = ⟨bt x.1, pre.length, x.2⟩ := by
      unfold partOf
      congr 1
      · rw [at_right' pre _ pre.length 0 rfl]; rfl
      · rw [List.drop_append]
        simp only [Nat.add_sub_cancel_left, List.drop_of_length_le (show pre.length ≤ pre.length + 2 by omega), List.nil_append, flat, List.drop_succ_cons, List.drop_zero]
        rw [show pre.length + (2 + x.2.length) - (pre.length + 2) = x.2.length from by omega]
        simp
    have hstep : splitTo (pre ++ flat (x :: r)) (pre ++ (x.1 :: 123 :: (x.2 ++ [125]))).length = ⟨(pre ++ (x.1 :: 123 :: (x.2 ++ [125]))).length, ps ++ [⟨bt x.1, pre.length, x.2⟩], addF F ⟨bt x.1, pre.length, x.2⟩⟩ := by
      rw [pre_len, show pre.length + x.2.length + 3 = (pre.length + (2 + x.2.length)) + 1 from by omega, splitTo, hst, splitStep, if_pos ⟨hc, by simp only; omega⟩, hpart]
    rw [pre_next] at hstep ⊢
    rw [ih _ (fun y hy => h y (by simp [hy])) _ _ hstep, pre_len]
    simp only [lay, List.foldl_cons, List.append_assoc, List.singleton_append]
theorem split_of (rs : List (UInt8 × List UInt8)) (h : ∀ x ∈ rs, okRaw x) : split (flat rs) = ⟨(flat rs).length, lay 0 rs, (lay 0 rs).foldl addF (fun _ => fn0)⟩ := by
  have := split_flat rs [] h [] (fun _ => fn0) rfl
  simpa [split] using this
theorem head_lay (rs : List (UInt8 × List UInt8)) (h : ∀ x ∈ rs, okRaw x) (c : Int) : head (flat rs) c = ((lay 0 rs).find? (fun p => p.letter == c)).map (·.pos) := by
  have hf := lay_facts rs [] h
  have hh : ∀ i, heads (flat rs) i = true ↔ ∃ p ∈ lay 0 rs, p.pos = i := fun i => heads_flat rs [] h i (Nat.zero_le _)
  simp only [List.nil_append, List.length_nil] at hf
  unfold head
  cases hq : (lay 0 rs).find? (fun p => p.letter == c) with
  | none =>
    rw [List.find?_eq_none] at hq
    rw [first_no]
    · rfl
    · intro j hj
      cases hb : heads (flat rs) j with
      | false => simp [headP, hb]
      | true =>
        obtain ⟨p, hp, e⟩ := (hh j).1 hb
        have := hq p hp
        have e2 := (hf p hp).1
        rw [e] at e2
        simp at this
        simp [headP, e2, this]
  | some p =>
    obtain ⟨hpc, l1, bs, hl, has⟩ := List.find?_eq_some_iff_append.1 hq
    have hp : p ∈ lay 0 rs := by rw [hl]; simp
    have hs := lay_sorted rs 0
    rw [hl] at hs
    obtain ⟨f1, f2, f3, f4, f5, f6⟩ := hf p hp
    rw [first_yes (k := p.pos)]
    · rfl
    · omega
    · simp at hpc
      simp [headP, f1, hpc, (hh p.pos).2 ⟨p, hp, rfl⟩]
    · intro j hj
      cases hb : heads (flat rs) j with
      | false => simp [headP, hb]
      | true =>
        obtain ⟨q, hq2, e⟩ := (hh j).1 hb
        have e2 := (hf q hq2).1
        rw [e] at e2
        rw [hl] at hq2
        simp only [List.mem_append, List.mem_cons] at hq2
        rcases hq2 with hq2 | hq2 | hq2
        · have := has q hq2
          simp at this
          simp [headP, e2, this]
        · subst hq2; omega
        · rw [List.pairwise_append] at hs
          have := (List.pairwise_cons.1 hs.2.1).1 q hq2
          omega
end Wd
end Go.Proofs.Ytecmfdkhcffpmaa
/- The first name that is wrong: by the program's parts, and by the document's looking byte by byte. -/
namespace Go.Proofs.Ytecmfdkhcffpmaa
set_option linter.unusedSimpArgs false
set_option linter.unusedVariables false
namespace Wd
theorem up_iff (c : Int) : up c = true ↔ 65 ≤ c ∧ c ≤ 72 := by simp [up]
theorem addF_there (F : Nat → Fn) (p : Part) (j : Nat) : ((addF F p) j).there = true ↔ (F j).there = true ∨ (p.letter = 65 + (j : Int) ∧ j < 8) := by
  unfold addF
  by_cases hu : up p.letter = true
  · rw [if_pos hu]
    have hu' := (up_iff _).1 hu
    by_cases e : j = (p.letter - 65).toNat
    · rw [if_pos e]
      simp only [true_iff]
      right; omega
    · rw [if_neg e]
      constructor
      · exact fun h => Or.inl h
      · rintro (h | h)
        · exact h
        · exfalso; omega
  · rw [if_neg hu]
    constructor
    · exact fun h => Or.inl h
    · rintro (h | h)
      · exact h
      · exfalso; apply hu; rw [up_iff]; omega
theorem fold_there (ps : List Part) (F : Nat → Fn) (j : Nat) : ((ps.foldl addF F) j).there = true ↔ (F j).there = true ∨ (j < 8 ∧ ∃ p ∈ ps, p.letter = 65 + (j : Int)) := by
  induction ps generalizing F with
  | nil => simp
  | cons p r ih =>
    rw [List.foldl_cons, ih, addF_there]
    constructor
    · rintro ((h | h) | ⟨h, q, hq, e⟩)
      · exact Or.inl h
      · exact Or.inr ⟨h.2, p, by simp, h.1⟩
      · exact Or.inr ⟨h, q, by simp [hq], e⟩
    · rintro (h | ⟨h, q, hq, e⟩)
      · exact Or.inl (Or.inl h)
      · simp at hq
        rcases hq with hq | hq
        · subst hq; exact Or.inl (Or.inr ⟨e, h⟩)
        · exact Or.inr ⟨h, q, hq, e⟩
theorem misP_notup {l : List UInt8} {i : Nat} (h : up (at_ l i) = false) : misP l i = false := by simp [misP, h]
theorem toInt_neg (o : Option Nat) : toInt o < 0 ↔ o = none := by
  cases o with
  | none => simp [toInt]
  | some i => simp [toInt]
/-- The functions of a text. -/
def fnsOf (rs : List (UInt8 × List UInt8)) : Nat → Fn := (lay 0 rs).foldl addF (fun _ => fn0)
theorem head_none (rs : List (UInt8 × List UInt8)) (h : ∀ x ∈ rs, okRaw x) (c : Int) (hc : up c = true) : head (flat rs) c = none ↔ (fnsOf rs (c - 65).toNat).there = false := by
  rw [head_lay rs h c, Option.map_eq_none_iff, List.find?_eq_none]
  have hu := (up_iff c).1 hc
  rw [← Bool.not_eq_true, fnsOf, fold_there]
  constructor
  · rintro hh (h1 | ⟨_, p, hp, e⟩)
    · simp [fn0] at h1
    · apply hh p hp; simp; omega
  · intro hh p hp e
    apply hh
    simp at e
    exact Or.inr ⟨by omega, p, hp, by omega⟩
theorem names_flat (rs0 : List (UInt8 × List UInt8)) (h0 : ∀ x ∈ rs0, okRaw x) (rs : List (UInt8 × List UInt8)) (pre : List UInt8) (hl : flat rs0 = pre ++ flat rs) (qs : List Part) (hPS : lay 0 rs0 = qs ++ lay pre.length rs)
    (h : ∀ x ∈ rs, okRaw x) (seen : Nat → Bool) (hseen : ∀ j, j < 8 → (seen j = true ↔ ∃ q ∈ qs, q.letter = 65 + (j : Int))) (hno : ∀ i, i < pre.length → misP (flat rs0) i = false) :
    misnamed (flat rs0) = namesFrom (fnsOf rs0) (lay pre.length rs) seen := by
  induction rs generalizing pre qs seen with
  | nil =>
    simp only [lay, namesFrom]
    apply first_no
    intro j hj
    apply hno
    rw [hl] at hj
    simpa [flat] using hj
  | cons x r ih =>
    obtain ⟨hx1, hx2⟩ := h x (by simp)
    obtain ⟨a0, a1, a2, a3, a4⟩ := at_item x.1 x.2 (flat r)
    have hat : ∀ k, at_ (flat rs0) (pre.length + k) = at_ (flat (x :: r)) k := fun k => by rw [hl, at_right]
    have hlen : (flat rs0).length = pre.length + (x.2.length + 3 + (flat r).length) := by rw [hl, List.length_append, flat_len]
    have hsort := lay_sorted rs0 0
    have hfacts := lay_facts rs0 [] h0
    simp only [List.nil_append, List.length_nil] at hfacts
    rw [hPS] at hsort
    have hlay : lay pre.length (x :: r) = ⟨bt x.1, pre.length, x.2⟩ :: lay (pre.length + x.2.length + 3) r := rfl
    have hq_lt : ∀ q ∈ qs, q.pos < pre.length := by
      intro q hq
      rw [List.pairwise_append] at hsort
      exact hsort.2.2 q hq ⟨bt x.1, pre.length, x.2⟩ (by rw [hlay]; simp)
    have hheads : ∀ i, heads (flat rs0) i = true ↔ ∃ p ∈ lay 0 rs0, p.pos = i := fun i => heads_flat rs0 [] h0 i (Nat.zero_le _)
    have hin : (⟨bt x.1, pre.length, x.2⟩ : Part) ∈ lay 0 rs0 := by rw [hPS, hlay]; simp
    -- the item's own letter
    have hown : misP (flat rs0) pre.length = true ↔ (up (bt x.1) = true ∧ seen (bt x.1 - 65).toNat = true) := by
      have e : at_ (flat rs0) pre.length = bt x.1 := by have := hat 0; simpa using this.trans a0
      cases hu : up (bt x.1) with
      | false => rw [misP_notup (by rw [e]; exact hu)]; simp
      | true =>
        have hu' := (up_iff _).1 hu
        have hhd : heads (flat rs0) pre.length = true := (hheads _).2 ⟨_, hin, rfl⟩
        simp only [misP, e, hu, hhd, Bool.true_and, true_and, Bool.or_eq_true, decide_eq_true_eq]
        rw [head_lay rs0 h0]
        rw [hseen _ (by omega)]
        constructor
        · rintro (hneg | hlt)
          · rw [toInt_neg, Option.map_eq_none_iff, List.find?_eq_none] at hneg
            exact absurd (by simp) (hneg _ hin)
          · cases hq : (lay 0 rs0).find? (fun p => p.letter == bt x.1) with
            | none => rw [List.find?_eq_none] at hq; exact absurd (by simp) (hq _ hin)
            | some q =>
              rw [hq] at hlt
              simp [toInt] at hlt
              have hqm := List.mem_of_find?_eq_some hq
              have hqc := List.find?_some hq
              simp at hqc
              rw [hPS, List.mem_append] at hqm
              rcases hqm with hqm | hqm
              · exact ⟨q, hqm, by omega⟩
              · have := lay_ge _ _ q hqm; omega
        · rintro ⟨q, hq, e2⟩
          right
          have hpos := hq_lt q hq
          rw [hPS, List.find?_append]
          have : (qs.find? (fun p => p.letter == bt x.1)).isSome = true := by
            rw [List.find?_isSome]; exact ⟨q, hq, by simp; omega⟩
          cases hf : qs.find? (fun p => p.letter == bt x.1) with
          | none => rw [hf] at this; cases this
          | some q2 =>
            have := hq_lt q2 (List.mem_of_find?_eq_some hf)
            simp [toInt]; omega
    -- the bytes of its body
    have hbody : ∀ j, j < x.2.length → misP (flat rs0) (pre.length + (2 + j)) = unkP (fnsOf rs0) x.2 j := by
      intro j hj
      have e : at_ (flat rs0) (pre.length + (2 + j)) = at_ x.2 j := (hat _).trans (a2 j hj)
      have hnh : heads (flat rs0) (pre.length + (2 + j)) = false := by
        rw [← Bool.not_eq_true, hheads]
        rintro ⟨p, hp, e2⟩
        rw [hPS, List.mem_append] at hp
        rcases hp with hp | hp
        · have := hq_lt p hp; omega
        · rw [hlay] at hp
          simp only [List.mem_cons] at hp
          rcases hp with hp | hp
          · subst hp; simp only at e2; omega
          · have := lay_ge _ _ p hp; omega
      simp only [misP, unkP, e, hnh, Bool.false_and, Bool.or_false]
      cases hu : up (at_ x.2 j) with
      | false => rfl
      | true =>
        simp only [Bool.true_and]
        have := head_none rs0 h0 _ hu
        cases ht : (fnsOf rs0 (at_ x.2 j - 65).toNat).there with
        | false => rw [this.2 ht]; rfl
        | true =>
          have : ¬ head (flat rs0) (at_ x.2 j) = none := fun hn => by rw [this.1 hn] at ht; cases ht
          rw [← toInt_neg] at this
          simp [this]
    have hbr : misP (flat rs0) (pre.length + 1) = false := misP_notup (by rw [(hat 1).trans a1]; decide)
    have hcl : misP (flat rs0) (pre.length + (2 + x.2.length)) = false := misP_notup (by rw [(hat _).trans a3]; decide)
    rw [hlay, namesFrom]
    simp only
    by_cases hc : up (bt x.1) = true ∧ seen (bt x.1 - 65).toNat = true
    · rw [if_pos hc]
      exact first_yes (by omega) (hown.2 hc) hno
    · rw [if_neg hc]
      have hown' : misP (flat rs0) pre.length = false := by rw [← Bool.not_eq_true, hown]; exact hc
      have hpre : ∀ k, k < 2 → misP (flat rs0) (pre.length + k) = false := by
        intro k hk
        match k, hk with
        | 0, _ => simpa using hown'
        | 1, _ => exact hbr
      cases hunk : unknown (fnsOf rs0) x.2 with
      | some u =>
        simp only
        have hul := unknown_lt hunk
        have hu1 : unkP (fnsOf rs0) x.2 u = true := by
          unfold unknown first at hunk; exact List.find?_some hunk
        have hu2 : ∀ j, j < u → unkP (fnsOf rs0) x.2 j = false := by
          intro j hj
          unfold unknown first at hunk
          rw [List.find?_range_eq_some] at hunk
          simpa using hunk.2.2 j hj
        rw [show pre.length + 2 + u = pre.length + (2 + u) from by omega]
        refine first_yes (by omega) (by rw [hbody u hul]; exact hu1) ?_
        intro j hj
        by_cases j0 : j < pre.length
        · exact hno j j0
        · obtain ⟨k, hk⟩ : ∃ k, j = pre.length + k := ⟨j - pre.length, by omega⟩
          subst hk
          by_cases k2 : k < 2
          · exact hpre k k2
          · obtain ⟨m, hm⟩ : ∃ m, k = 2 + m := ⟨k - 2, by omega⟩
            subst hm
            rw [hbody m (by omega)]; exact hu2 m (by omega)
      | none =>
        simp only
        have hu2 : ∀ j, j < x.2.length → unkP (fnsOf rs0) x.2 j = false := by
          intro j hj
          unfold unknown first at hunk
          rw [List.find?_range_eq_none] at hunk
          simpa using hunk j hj
        have hl2 : flat rs0 = (pre ++ (x.1 :: 123 :: (x.2 ++ [125]))) ++ flat r := by rw [hl, pre_next]
        have := ih (pre ++ (x.1 :: 123 :: (x.2 ++ [125]))) hl2 (qs ++ [⟨bt x.1, pre.length, x.2⟩]) (by rw [hPS, hlay, pre_len]; simp) (fun y hy => h y (by simp [hy]))
          (if up (bt x.1) = true then (fun j => if j = (bt x.1 - 65).toNat then true else seen j) else seen) ?_ ?_
        · rw [pre_len] at this; exact this
        · intro j hj
          by_cases hu : up (bt x.1) = true
          · have hu' := (up_iff _).1 hu
            rw [if_pos hu]
            by_cases e : j = (bt x.1 - 65).toNat
            · rw [if_pos e]
              simp only [true_iff]
              exact ⟨_, by simp only [List.mem_append, List.mem_singleton]; exact Or.inr rfl, by simp only; omega⟩
            · rw [if_neg e, hseen j hj]
              constructor
              · rintro ⟨q, hq, e2⟩; exact ⟨q, by simp [hq], e2⟩
              · rintro ⟨q, hq, e2⟩
                simp only [List.mem_append, List.mem_singleton] at hq
                rcases hq with hq | hq
                · exact ⟨q, hq, e2⟩
                · subst hq; simp only at e2; exfalso; omega
          · rw [if_neg hu, hseen j hj]
            constructor
            · rintro ⟨q, hq, e2⟩; exact ⟨q, by simp [hq], e2⟩
            · rintro ⟨q, hq, e2⟩
              simp only [List.mem_append, List.mem_singleton] at hq
              rcases hq with hq | hq
              · exact ⟨q, hq, e2⟩
              · subst hq; simp only at e2; exfalso; apply hu; rw [up_iff]; omega
        · intro i hi
          rw [pre_len] at hi
          by_cases j0 : i < pre.length
          · exact hno i j0
          · obtain ⟨k, hk⟩ : ∃ k, i = pre.length + k := ⟨i - pre.length, by omega⟩
            subst hk
            by_cases k2 : k < 2
            · exact hpre k k2
            · obtain ⟨m, hm⟩ : ∃ m, k = 2 + m := ⟨k - 2, by omega⟩
              subst hm
              by_cases hm2 : m < x.2.length
              · rw [hbody m hm2]; exact hu2 m hm2
              · have : m = x.2.length := by omega
                rw [this]; exact hcl
theorem names_same (rs : List (UInt8 × List UInt8)) (h : ∀ x ∈ rs, okRaw x) : names (split (flat rs)).F (split (flat rs)).ps = misnamed (flat rs) := by
  rw [split_of rs h]
  exact (names_flat rs h rs [] rfl [] rfl h (fun _ => false) (by simp) (by simp)).symm
end Wd
end Go.Proofs.Ytecmfdkhcffpmaa
