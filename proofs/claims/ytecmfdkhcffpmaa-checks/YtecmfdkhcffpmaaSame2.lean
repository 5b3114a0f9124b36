/- A text without a fault is a row of items, one behind the other: where they begin, what their bodies are, by the program's taking apart and by the document's looking. -/
import Derived.Test.YtecmfdkhcffpmaaSame1
namespace Go.Proofs.Ytecmfdkhcffpmaa
set_option linter.unusedSimpArgs false
set_option linter.unusedVariables false
namespace Wd
def flat : List (UInt8 × List UInt8) → List UInt8
  | [] => []
  | x :: r => x.1 :: 123 :: (x.2 ++ 125 :: flat r)
def clean (b : List UInt8) : Prop := ∀ c ∈ b, bt c ≠ 123 ∧ bt c ≠ 125
def okRaw (x : UInt8 × List UInt8) : Prop := (bt x.1 = 116 ∨ bt x.1 = 104 ∨ up (bt x.1) = true) ∧ clean x.2
theorem bt_inj {a b : UInt8} (h : bt a = bt b) : a = b := by
  unfold bt at h
  apply UInt8.toNat_inj.1
  omega
theorem bodyP_next {o : List UInt8} {n : Nat} {c : Int} {st : St} (h : bodyP ⟨2, o, n⟩ c = some st) : (c = 125 ∧ st.want = 0) ∨ (c ≠ 125 ∧ c ≠ 123 ∧ (st.want = 2 ∨ st.want = 3 ∨ st.want = 4)) := by
  by_cases h25 : c = 125
  · left
    subst h25
    simp [bodyP] at h
    exact ⟨rfl, by rw [← h.2]⟩
  · by_cases h23 : c = 123
    · subst h23; simp [bodyP, show up 123 = false from by decide] at h
    · right
      refine ⟨h25, h23, ?_⟩
      unfold bodyP at h
      simp only at h
      repeat' (split at h)
      all_goals first
        | (cases h; done)
        | (cases h; simp)
        | omega
theorem shape (l : List UInt8) (i : Nat) (st : St) (h : faultFrom l i st = none) :
    (st.want = 0 → ∃ rs, l = flat rs ∧ ∀ x ∈ rs, okRaw x) ∧
    (st.want = 1 → ∃ b rs, l = 123 :: (b ++ 125 :: flat rs) ∧ clean b ∧ ∀ x ∈ rs, okRaw x) ∧
    (st.want = 2 ∨ st.want = 3 ∨ st.want = 4 → ∃ b rs, l = b ++ 125 :: flat rs ∧ clean b ∧ ∀ x ∈ rs, okRaw x) := by
  induction l generalizing i st with
  | nil =>
    simp [faultFrom] at h
    refine ⟨fun _ => ⟨[], rfl, by simp⟩, fun hw => by omega, fun hw => by omega⟩
  | cons c t ih =>
    simp only [faultFrom] at h
    cases hs : stepP st (bt c) with
    | none => rw [hs] at h; cases h
    | some st' =>
      rw [hs] at h
      simp only at h
      obtain ⟨i1, i2, i3⟩ := ih _ _ h
      obtain ⟨want, o, n⟩ := st
      refine ⟨?_, ?_, ?_⟩
      · intro hw
        simp only at hw
        subst hw
        simp only [stepP, if_true] at hs
        split at hs
        · next hc =>
          cases hs
          obtain ⟨b, rs, e, hb, hr⟩ := i2 rfl
          refine ⟨(c, b) :: rs, by rw [e]; rfl, ?_⟩
          intro x hx
          simp at hx
          rcases hx with hx | hx
          · subst hx; exact ⟨hc.2, hb⟩
          · exact hr x hx
        · cases hs
      · intro hw
        simp only at hw
        subst hw
        simp [stepP] at hs
        obtain ⟨hc, rfl⟩ := hs
        obtain ⟨b, rs, e, hb, hr⟩ := i3 (Or.inl rfl)
        have hcc : c = 123 := bt_inj (by rw [hc]; rfl)
        exact ⟨b, rs, by rw [e, hcc], hb, hr⟩
      · intro hw
        simp only at hw
        have hgo : (bt c = 125 ∧ st'.want = 0) ∨ (bt c ≠ 125 ∧ bt c ≠ 123 ∧ (st'.want = 2 ∨ st'.want = 3 ∨ st'.want = 4)) := by
          rcases hw with hw | hw | hw
          · subst hw
            exact bodyP_next (by simpa [stepP] using hs)
          · subst hw
            simp [stepP] at hs
            obtain ⟨hc, rfl⟩ := hs
            simp [lk] at hc
            right; exact ⟨by omega, by omega, Or.inl rfl⟩
          · subst hw
            simp [stepP] at hs
            obtain ⟨hc, rfl⟩ := hs
            simp [cl] at hc
            right; exact ⟨by omega, by omega, Or.inl rfl⟩
        rcases hgo with ⟨hc, hw'⟩ | ⟨h1, h2, hw'⟩
        · obtain ⟨rs, e, hr⟩ := i1 hw'
          have hcc : c = 125 := bt_inj (by rw [hc]; rfl)
          exact ⟨[], rs, by rw [e, hcc]; rfl, by simp [clean], hr⟩
        · obtain ⟨b, rs, e, hb, hr⟩ := i3 hw'
          refine ⟨c :: b, rs, by rw [e]; rfl, ?_, hr⟩
          intro x hx
          simp at hx
          rcases hx with hx | hx
          · subst hx; exact ⟨h2, h1⟩
          · exact hb x hx
theorem shape_of {l : List UInt8} (h : fault l = none) : ∃ rs, l = flat rs ∧ ∀ x ∈ rs, okRaw x := (shape l 0 _ h).1 rfl
/-- The items with their places. -/
def lay : Nat → List (UInt8 × List UInt8) → List Part
  | _, [] => []
  | o, x :: r => ⟨bt x.1, o, x.2⟩ :: lay (o + x.2.length + 3) r
theorem at_right (a b : List UInt8) (i : Nat) : at_ (a ++ b) (a.length + i) = at_ b i := by
  simp [at_, List.getElem?_append_right]
theorem at_right' (a b : List UInt8) (i j : Nat) (h : i = a.length + j) : at_ (a ++ b) i = at_ b j := by rw [h, at_right]
/-- The bytes of an item. -/
theorem at_item (c : UInt8) (b rest : List UInt8) : at_ (c :: 123 :: (b ++ 125 :: rest)) 0 = bt c ∧ at_ (c :: 123 :: (b ++ 125 :: rest)) 1 = 123 ∧
    (∀ j, j < b.length → at_ (c :: 123 :: (b ++ 125 :: rest)) (2 + j) = at_ b j) ∧ at_ (c :: 123 :: (b ++ 125 :: rest)) (2 + b.length) = 125 ∧ (∀ j, at_ (c :: 123 :: (b ++ 125 :: rest)) (3 + b.length + j) = at_ rest j) := by
  refine ⟨rfl, rfl, ?_, ?_, ?_⟩
  · intro j hj
    have e : at_ (c :: 123 :: (b ++ 125 :: rest)) (2 + j) = at_ (b ++ 125 :: rest) j := by rw [Nat.add_comm]; rfl
    rw [e]; simp [at_, List.getElem?_append_left hj]
  · have e : at_ (c :: 123 :: (b ++ 125 :: rest)) (2 + b.length) = at_ (b ++ 125 :: rest) b.length := by rw [Nat.add_comm]; rfl
    rw [e, at_right' b _ b.length 0 rfl]; rfl
  · intro j
    have e : at_ (c :: 123 :: (b ++ 125 :: rest)) (3 + b.length + j) = at_ (b ++ 125 :: rest) (b.length + (1 + j)) := by
      rw [show 3 + b.length + j = (b.length + (1 + j)) + 2 from by omega]; rfl
    rw [e, at_right, Nat.add_comm]; rfl
theorem flat_len (x : UInt8 × List UInt8) (r : List (UInt8 × List UInt8)) : (flat (x :: r)).length = x.2.length + 3 + (flat r).length := by
  simp [flat]; omega
theorem pre_next (pre : List UInt8) (x : UInt8 × List UInt8) (r : List (UInt8 × List UInt8)) : pre ++ flat (x :: r) = (pre ++ (x.1 :: 123 :: (x.2 ++ [125]))) ++ flat r := by simp [flat]
theorem pre_len (pre : List UInt8) (x : UInt8 × List UInt8) : (pre ++ (x.1 :: 123 :: (x.2 ++ [125]))).length = pre.length + x.2.length + 3 := by simp; omega
theorem takeWhile_clean (b rest : List UInt8) (hb : clean b) : (b ++ 125 :: rest).takeWhile (fun c => !(((c.toNat : Nat) : Int) == 125)) = b := by
  induction b with
  | nil => simp [List.takeWhile]
  | cons c t ih =>
    have hc := (hb c (by simp)).2
    have : (!(((c.toNat : Nat) : Int) == 125)) = true := by simpa [bt] using hc
    simp only [List.cons_append, List.takeWhile, this]
    rw [ih (fun y hy => hb y (by simp [hy]))]
/-- What the items' places hold. -/
theorem lay_facts (rs : List (UInt8 × List UInt8)) (pre : List UInt8) (h : ∀ x ∈ rs, okRaw x) : ∀ p ∈ lay pre.length rs,
    at_ (pre ++ flat rs) p.pos = p.letter ∧ body (pre ++ flat rs) p.pos = p.body ∧ (p.letter = 116 ∨ p.letter = 104 ∨ up p.letter = true) ∧ pre.length ≤ p.pos ∧ clean p.body ∧ p.pos + p.body.length + 3 ≤ (pre ++ flat rs).length := by
  induction rs generalizing pre with
  | nil => intro p hp; simp [lay] at hp
  | cons x r ih =>
    intro p hp
    simp only [lay, List.mem_cons] at hp
    obtain ⟨hx1, hx2⟩ := h x (by simp)
    rcases hp with hp | hp
    · subst hp
      refine ⟨?_, ?_, hx1, Nat.le_refl _, hx2, ?_⟩
      · rw [at_right' pre _ pre.length 0 rfl]; rfl
      · unfold body
        simp only
        rw [show pre.length + 2 = pre.length + 2 from rfl, List.drop_append]
        simp only [Nat.add_sub_cancel_left, List.drop_of_length_le (show pre.length ≤ pre.length + 2 by omega), List.nil_append, flat, List.drop_succ_cons, List.drop_zero]
        exact takeWhile_clean _ _ hx2
      · simp [flat]; omega
    · have e := pre_next pre x r
      have := ih (pre ++ (x.1 :: 123 :: (x.2 ++ [125]))) (fun y hy => h y (by simp [hy])) p (by rw [pre_len]; exact hp)
      rw [← e, pre_len] at this
      exact ⟨this.1, this.2.1, this.2.2.1, by omega, this.2.2.2.2.1, this.2.2.2.2.2⟩
theorem lay_ge (rs : List (UInt8 × List UInt8)) (o : Nat) : ∀ p ∈ lay o rs, o ≤ p.pos := by
  induction rs generalizing o with
  | nil => intro p hp; simp [lay] at hp
  | cons x r ih =>
    intro p hp
    simp only [lay, List.mem_cons] at hp
    rcases hp with hp | hp
    · subst hp; exact Nat.le_refl _
    · have := ih _ p hp; omega
theorem lay_sorted (rs : List (UInt8 × List UInt8)) (o : Nat) : (lay o rs).Pairwise (fun a b => a.pos < b.pos) := by
  induction rs generalizing o with
  | nil => exact List.Pairwise.nil
  | cons x r ih =>
    simp only [lay]
    refine List.Pairwise.cons ?_ (ih _)
    intro q hq
    have := lay_ge r _ q hq
    simp only
    omega
theorem at_out (l : List UInt8) (i : Nat) (h : l.length ≤ i) : at_ l i = 0 := by simp [at_, List.getElem?_eq_none h]
theorem at_clean {b : List UInt8} (hb : clean b) (i : Nat) : at_ b i ≠ 123 ∧ at_ b i ≠ 125 := by
  by_cases h : i < b.length
  · obtain ⟨c, hc, e⟩ := at_mem h
    rw [e]; exact hb c hc
  · rw [at_out b i (by omega)]; omega
theorem flat_first (rs : List (UInt8 × List UInt8)) (h : ∀ x ∈ rs, okRaw x) : at_ (flat rs) 0 ≠ 123 ∧ at_ (flat rs) 0 ≠ 125 := by
  cases rs with
  | nil => simp [flat, at_]
  | cons x r =>
    have hx := (h x (by simp)).1
    have e : at_ (flat (x :: r)) 0 = bt x.1 := rfl
    rw [e]
    rcases hx with hx | hx | hx
    · omega
    · omega
    · simp [up] at hx; omega
/-- An item begins just where one is laid. -/
theorem heads_flat (rs : List (UInt8 × List UInt8)) (pre : List UInt8) (h : ∀ x ∈ rs, okRaw x) (i : Nat) (hi : pre.length ≤ i) :
    heads (pre ++ flat rs) i = true ↔ ∃ p ∈ lay pre.length rs, p.pos = i := by
  induction rs generalizing pre with
  | nil =>
    constructor
    · intro hh; simp [heads, flat] at hh; omega
    · rintro ⟨p, hp, _⟩; simp [lay] at hp
  | cons x r ih =>
    obtain ⟨hx1, hx2⟩ := h x (by simp)
    obtain ⟨a0, a1, a2, a3, a4⟩ := at_item x.1 x.2 (flat r)
    have hfr := flat_first r (fun y hy => h y (by simp [hy]))
    by_cases hnext : pre.length + x.2.length + 3 ≤ i
    · have := ih (pre ++ (x.1 :: 123 :: (x.2 ++ [125]))) (fun y hy => h y (by simp [hy])) (by rw [pre_len]; omega)
      rw [← pre_next, pre_len] at this
      rw [this]
      constructor
      · rintro ⟨p, hp, e⟩; exact ⟨p, by simp [lay, hp], e⟩
      · rintro ⟨p, hp, e⟩
        simp only [lay, List.mem_cons] at hp
        rcases hp with hp | hp
        · subst hp; simp only at e; omega
        · exact ⟨p, hp, e⟩
    · by_cases hz : i = pre.length
      · subst hz
        constructor
        · intro _; exact ⟨_, by simp only [lay, List.mem_cons]; exact Or.inl rfl, rfl⟩
        · intro _
          have e := at_right' pre (flat (x :: r)) (pre.length + 1) 1 rfl
          have e1 : at_ (flat (x :: r)) 1 = 123 := a1
          simp only [heads, e, e1]
          simp [flat_len]; omega
      · constructor
        · intro hh
          exfalso
          simp [heads] at hh
          have hh2 := hh.2
          obtain ⟨k, hk⟩ : ∃ k, i + 1 = pre.length + (2 + k) := ⟨i + 1 - pre.length - 2, by omega⟩
          rw [at_right' pre (flat (x :: r)) (i + 1) (2 + k) hk] at hh2
          by_cases hkb : k < x.2.length
          · have e : at_ (flat (x :: r)) (2 + k) = at_ x.2 k := a2 k hkb
            rw [e] at hh2
            exact (at_clean hx2 k).1 hh2
          · by_cases hke : k = x.2.length
            · have e : at_ (flat (x :: r)) (2 + x.2.length) = 125 := a3
              rw [hke, e] at hh2; omega
            · have hk1 : k = x.2.length + 1 := by omega
              have e : at_ (flat (x :: r)) (3 + x.2.length + 0) = at_ (flat r) 0 := a4 0
              rw [show 2 + k = 3 + x.2.length + 0 from by omega, e] at hh2
              exact hfr.1 hh2
        · rintro ⟨p, hp, e⟩
          exfalso
          simp only [lay, List.mem_cons] at hp
          rcases hp with hp | hp
          · subst hp; simp only at e; omega
          · have := lay_ge r _ p hp; omega
end Wd
end Go.Proofs.Ytecmfdkhcffpmaa
