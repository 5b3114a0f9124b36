/- PureM4. -/
import Derived.Test.YtecmfdkhcffpmabB02
/- What the bodies of a source are made of. -/
namespace Go.Proofs.Ytecmfdkhcffpmab
open Go.RowKit
set_option linter.unusedSimpArgs false
set_option linter.unusedVariables false
namespace Wd
/-- A body, names of functions in it. -/
inductive Bd : List UInt8 → Prop
  | nil : Bd []
  | lock (c d : UInt8) (r : List UInt8) : (bt c = 43 ∨ bt c = 45) → lk (bt d) = true → Bd r → Bd (c :: d :: r)
  | cell (c d : UInt8) (r : List UInt8) : (bt c = 114 ∨ bt c = 119) → cl (bt d) = true → Bd r → Bd (c :: d :: r)
  | one (c : UInt8) (r : List UInt8) : (bt c = 60 ∨ bt c = 62 ∨ bt c = 122 ∨ up (bt c) = true) → Bd r → Bd (c :: r)
  | alt (a b r : List UInt8) : Bd a → Bd b → Bd r → Bd (40 :: (a ++ 124 :: (b ++ 41 :: r)))
  | star (a r : List UInt8) : Bd a → Bd r → Bd (91 :: (a ++ 93 :: r))
theorem Bd.app {a b : List UInt8} (ha : Bd a) (hb : Bd b) : Bd (a ++ b) := by
  induction ha with
  | nil => exact hb
  | lock c d r h1 h2 _ ih => exact .lock c d _ h1 h2 ih
  | cell c d r h1 h2 _ ih => exact .cell c d _ h1 h2 ih
  | one c r h1 _ ih => exact .one c _ h1 ih
  | alt x y r hx hy _ _ _ ih =>
    have := Bd.alt x y _ hx hy ih
    simpa using this
  | star x r hx _ _ ih =>
    have := Bd.star x _ hx ih
    simpa using this
theorem Bd.clean {b : List UInt8} (h : Bd b) : clean b := by
  induction h with
  | nil => intro c hc; cases hc
  | lock c d r h1 h2 _ ih =>
    intro x hx
    simp only [List.mem_cons] at hx
    rcases hx with rfl | rfl | hx
    · rcases h1 with e | e <;> rw [e] <;> decide
    · simp [lk] at h2; omega
    · exact ih x hx
  | cell c d r h1 h2 _ ih =>
    intro x hx
    simp only [List.mem_cons] at hx
    rcases hx with rfl | rfl | hx
    · rcases h1 with e | e <;> rw [e] <;> decide
    · simp [cl] at h2; omega
    · exact ih x hx
  | one c r h1 _ ih =>
    intro x hx
    simp only [List.mem_cons] at hx
    rcases hx with rfl | hx
    · rw [up_iff] at h1; omega
    · exact ih x hx
  | alt a b r _ _ _ ia ib ir =>
    intro x hx
    simp only [List.mem_cons, List.mem_append] at hx
    rcases hx with rfl | hx | rfl | hx | rfl | hx
    · decide
    · exact ia x hx
    · decide
    · exact ib x hx
    · decide
    · exact ir x hx
  | star a r _ _ ia ir =>
    intro x hx
    simp only [List.mem_cons, List.mem_append] at hx
    rcases hx with rfl | hx | rfl | hx
    · decide
    · exact ia x hx
    · decide
    · exact ir x hx
/-- What is left of a body of which these brackets are open, the innermost first. -/
def Left : List UInt8 → List UInt8 → Prop
  | [], l => Bd l
  | k :: s, l => if k = 40 then ∃ a b r, l = a ++ 124 :: (b ++ 41 :: r) ∧ Bd a ∧ Bd b ∧ Left s r
    else if k = 124 then ∃ b r, l = b ++ 41 :: r ∧ Bd b ∧ Left s r
    else ∃ a r, l = a ++ 93 :: r ∧ Bd a ∧ Left s r
theorem Left.pre (t : List UInt8) (ht : ∀ x, Bd x → Bd (t ++ x)) (s l : List UInt8) (h : Left s l) : Left s (t ++ l) := by
  cases s with
  | nil => exact ht l h
  | cons k s =>
    unfold Left at h ⊢
    by_cases e1 : k = 40
    · rw [if_pos e1] at h ⊢
      obtain ⟨a, b, r, e, ha, hb, hr⟩ := h
      exact ⟨t ++ a, b, r, by rw [e]; simp, ht a ha, hb, hr⟩
    rw [if_neg e1] at h ⊢
    by_cases e2 : k = 124
    · rw [if_pos e2] at h ⊢
      obtain ⟨b, r, e, hb, hr⟩ := h
      exact ⟨t ++ b, r, by rw [e]; simp, ht b hb, hr⟩
    rw [if_neg e2] at h ⊢
    obtain ⟨b, r, e, hb, hr⟩ := h
    exact ⟨t ++ b, r, by rw [e]; simp, ht b hb, hr⟩
theorem Left.paren {s l : List UInt8} (h : Left (40 :: s) l) : Left s (40 :: l) := by
  unfold Left at h
  rw [if_pos rfl] at h
  obtain ⟨a, b, r, e, ha, hb, hr⟩ := h
  have := Left.pre (40 :: (a ++ 124 :: (b ++ [41]))) (fun x hx => by have := Bd.alt a b x ha hb hx; simpa using this) s r hr
  rw [e]; simpa using this
theorem Left.brack {s l : List UInt8} (h : Left (91 :: s) l) : Left s (91 :: l) := by
  unfold Left at h
  rw [if_neg (by decide), if_neg (by decide)] at h
  obtain ⟨a, r, e, ha, hr⟩ := h
  have := Left.pre (91 :: (a ++ [93])) (fun x hx => by have := Bd.star a x ha hx; simpa using this) s r hr
  rw [e]; simpa using this
theorem Left.bar {s l : List UInt8} (h : Left (124 :: s) l) : Left (40 :: s) (124 :: l) := by
  unfold Left at h ⊢
  rw [if_neg (by decide), if_pos rfl] at h
  rw [if_pos rfl]
  obtain ⟨b, r, e, hb, hr⟩ := h
  exact ⟨[], b, r, by rw [e]; rfl, .nil, hb, hr⟩
theorem Left.shutP {s l : List UInt8} (h : Left s l) : Left (124 :: s) (41 :: l) := by
  unfold Left
  rw [if_neg (by decide), if_pos rfl]
  exact ⟨[], l, rfl, .nil, h⟩
theorem Left.shutB {s l : List UInt8} (h : Left s l) : Left (91 :: s) (93 :: l) := by
  unfold Left
  rw [if_neg (by decide), if_neg (by decide)]
  exact ⟨[], l, rfl, .nil, h⟩
def okItem (x : UInt8 × List UInt8) : Prop := (bt x.1 = 116 ∨ bt x.1 = 104 ∨ up (bt x.1) = true) ∧ Bd x.2
theorem okItem.raw {x : UInt8 × List UInt8} (h : okItem x) : okRaw x := ⟨h.1, h.2.clean⟩
theorem shut_some {o q : List UInt8} {c : UInt8} (h : shut o (bt c) = some q) : o = q ++ [c] := by
  unfold shut at h
  split at h
  · rename_i hc
    cases h
    obtain ⟨h1, h2⟩ := hc
    have hne : o ≠ [] := by intro e; rw [e] at h1; simp at h1
    have hl : o.getLast hne = c := by
      apply bt_inj
      rw [← h2]
      unfold at_ bt
      rw [List.getLast_eq_getElem, List.getElem?_eq_getElem (by omega)]; rfl
    rw [← List.dropLast_eq_take, ← hl, List.dropLast_concat_getLast]
  · cases h
theorem rev_snoc (q : List UInt8) (c : UInt8) : (q ++ [c]).reverse = c :: q.reverse := by simp
theorem Left.tok2 {c d : UInt8} {s l : List UInt8} (h1 : bt c = 43 ∨ bt c = 45) (h2 : lk (bt d) = true) (h : Left s l) : Left s (c :: d :: l) := Left.pre [c, d] (fun x hx => .lock c d x h1 h2 hx) s l h
theorem Left.tokc {c d : UInt8} {s l : List UInt8} (h1 : bt c = 114 ∨ bt c = 119) (h2 : cl (bt d) = true) (h : Left s l) : Left s (c :: d :: l) := Left.pre [c, d] (fun x hx => .cell c d x h1 h2 hx) s l h
theorem Left.tok1 {c : UInt8} {s l : List UInt8} (h1 : bt c = 60 ∨ bt c = 62 ∨ bt c = 122 ∨ up (bt c) = true) (h : Left s l) : Left s (c :: l) := Left.pre [c] (fun x hx => .one c x h1 hx) s l h
theorem shapeB (l : List UInt8) (i : Nat) (st : St) (hn : st.items ≤ 8) (h : faultFrom l i st = none) :
    (st.want = 0 → st.op = [] → ∃ rs, l = flat rs ∧ (∀ x ∈ rs, okItem x) ∧ rs.length + st.items ≤ 8) ∧
    (st.want = 1 → st.op = [] → ∃ b rs, l = 123 :: (b ++ 125 :: flat rs) ∧ Bd b ∧ (∀ x ∈ rs, okItem x) ∧ rs.length + st.items ≤ 8) ∧
    (st.want = 2 → ∃ b rs, l = b ++ 125 :: flat rs ∧ Left st.op.reverse b ∧ (∀ x ∈ rs, okItem x) ∧ rs.length + st.items ≤ 8) ∧
    (st.want = 3 → ∃ d b rs, l = d :: (b ++ 125 :: flat rs) ∧ lk (bt d) = true ∧ Left st.op.reverse b ∧ (∀ x ∈ rs, okItem x) ∧ rs.length + st.items ≤ 8) ∧
    (st.want = 4 → ∃ d b rs, l = d :: (b ++ 125 :: flat rs) ∧ cl (bt d) = true ∧ Left st.op.reverse b ∧ (∀ x ∈ rs, okItem x) ∧ rs.length + st.items ≤ 8) := by
  induction l generalizing i st with
  | nil =>
    simp [faultFrom] at h
    refine ⟨fun _ _ => ⟨[], rfl, by simp, by simpa using hn⟩, fun hw => by omega, fun hw => by omega, fun hw => by omega, fun hw => by omega⟩
  | cons c t ih =>
    simp only [faultFrom] at h
    cases hs : stepP st (bt c) with
    | none => rw [hs] at h; cases h
    | some st' =>
      rw [hs] at h
      simp only at h
      obtain ⟨want, o, n⟩ := st
      simp only at hn ⊢
      refine ⟨?_, ?_, ?_, ?_, ?_⟩
      · intro hw ho
        subst hw ho
        simp only [stepP, if_true] at hs
        split at hs
        · next hc =>
          cases hs
          obtain ⟨_, i2, _⟩ := ih _ ⟨1, [], n + 1⟩ (by simp only; omega) h
          obtain ⟨b, rs, e, hb, hr, hl⟩ := i2 rfl rfl
          refine ⟨(c, b) :: rs, by rw [e]; rfl, ?_, by have hl' : rs.length + (n + 1) ≤ 8 := hl; simp only [List.length_cons]; omega⟩
          intro x hx
          simp only [List.mem_cons] at hx
          rcases hx with rfl | hx
          · exact ⟨hc.2, hb⟩
          · exact hr x hx
        · cases hs
      · intro hw ho
        subst hw ho
        simp [stepP] at hs
        obtain ⟨hc, rfl⟩ := hs
        obtain ⟨_, _, i3, _⟩ := ih _ ⟨2, [], n⟩ hn h
        obtain ⟨b, rs, e, hb, hr, hl⟩ := i3 rfl
        have hcc : c = 123 := bt_inj (by rw [hc]; rfl)
        exact ⟨b, rs, by rw [e, hcc], hb, hr, hl⟩
      · intro hw
        subst hw
        have hs : bodyP ⟨2, o, n⟩ (bt c) = some st' := by simpa [stepP] using hs
        unfold bodyP at hs
        simp only at hs
        by_cases b1 : bt c = 43 ∨ bt c = 45
        · rw [if_pos b1] at hs; cases hs
          obtain ⟨d, b, rs, e, hd, hb, hr, hl⟩ := (ih _ ⟨3, o, n⟩ hn h).2.2.2.1 rfl
          exact ⟨c :: d :: b, rs, by rw [e]; rfl, Left.tok2 b1 hd hb, hr, hl⟩
        rw [if_neg b1] at hs
        by_cases b2 : bt c = 114 ∨ bt c = 119
        · rw [if_pos b2] at hs; cases hs
          obtain ⟨d, b, rs, e, hd, hb, hr, hl⟩ := (ih _ ⟨4, o, n⟩ hn h).2.2.2.2 rfl
          exact ⟨c :: d :: b, rs, by rw [e]; rfl, Left.tokc b2 hd hb, hr, hl⟩
        rw [if_neg b2] at hs
        by_cases b3 : bt c = 60 ∨ bt c = 62 ∨ bt c = 122
        · rw [if_pos b3] at hs; cases hs
          obtain ⟨b, rs, e, hb, hr, hl⟩ := (ih _ ⟨2, o, n⟩ hn h).2.2.1 rfl
          exact ⟨c :: b, rs, by rw [e]; rfl, Left.tok1 (by rcases b3 with b3 | b3 | b3 <;> simp [b3]) hb, hr, hl⟩
        rw [if_neg b3] at hs
        by_cases b4 : bt c = 40
        · rw [if_pos b4] at hs; cases hs
          have hcc : c = 40 := bt_inj (by rw [b4]; rfl)
          obtain ⟨b, rs, e, hb, hr, hl⟩ := (ih _ ⟨2, o ++ [40], n⟩ hn h).2.2.1 rfl
          simp only [rev_snoc] at hb
          exact ⟨c :: b, rs, by rw [e]; rfl, by rw [hcc]; exact hb.paren, hr, hl⟩
        rw [if_neg b4] at hs
        by_cases b5 : bt c = 91
        · rw [if_pos b5] at hs; cases hs
          have hcc : c = 91 := bt_inj (by rw [b5]; rfl)
          obtain ⟨b, rs, e, hb, hr, hl⟩ := (ih _ ⟨2, o ++ [91], n⟩ hn h).2.2.1 rfl
          simp only [rev_snoc] at hb
          exact ⟨c :: b, rs, by rw [e]; rfl, by rw [hcc]; exact hb.brack, hr, hl⟩
        rw [if_neg b5] at hs
        by_cases b6 : bt c = 124
        · rw [if_pos b6] at hs
          have hcc : c = 124 := bt_inj (by rw [b6]; rfl)
          cases hq : shut o 40 with
          | none => rw [hq] at hs; cases hs
          | some q =>
            rw [hq] at hs; cases hs
            have ho : o = q ++ [40] := shut_some (c := 40) hq
            obtain ⟨b, rs, e, hb, hr, hl⟩ := (ih _ ⟨2, q ++ [124], n⟩ hn h).2.2.1 rfl
            simp only [rev_snoc] at hb
            refine ⟨c :: b, rs, by rw [e]; rfl, ?_, hr, hl⟩
            rw [hcc, ho, rev_snoc]; exact hb.bar
        rw [if_neg b6] at hs
        by_cases b7 : bt c = 41
        · rw [if_pos b7] at hs
          have hcc : c = 41 := bt_inj (by rw [b7]; rfl)
          cases hq : shut o 124 with
          | none => rw [hq] at hs; cases hs
          | some q =>
            rw [hq] at hs; cases hs
            have ho : o = q ++ [124] := shut_some (c := 124) hq
            obtain ⟨b, rs, e, hb, hr, hl⟩ := (ih _ ⟨2, q, n⟩ hn h).2.2.1 rfl
            refine ⟨c :: b, rs, by rw [e]; rfl, ?_, hr, hl⟩
            rw [hcc, ho, rev_snoc]; exact hb.shutP
        rw [if_neg b7] at hs
        by_cases b8 : bt c = 93
        · rw [if_pos b8] at hs
          have hcc : c = 93 := bt_inj (by rw [b8]; rfl)
          cases hq : shut o 91 with
          | none => rw [hq] at hs; cases hs
          | some q =>
            rw [hq] at hs; cases hs
            have ho : o = q ++ [91] := shut_some (c := 91) hq
            obtain ⟨b, rs, e, hb, hr, hl⟩ := (ih _ ⟨2, q, n⟩ hn h).2.2.1 rfl
            refine ⟨c :: b, rs, by rw [e]; rfl, ?_, hr, hl⟩
            rw [hcc, ho, rev_snoc]; exact hb.shutB
        rw [if_neg b8] at hs
        by_cases b9 : bt c = 125
        · rw [if_pos b9] at hs
          have hcc : c = 125 := bt_inj (by rw [b9]; rfl)
          split at hs
          · rename_i h0
            cases hs
            have ho : o = [] := List.eq_nil_of_length_eq_zero h0
            subst ho
            obtain ⟨rs, e, hr, hl⟩ := (ih _ ⟨0, [], n⟩ hn h).1 rfl rfl
            exact ⟨[], rs, by rw [e, hcc]; rfl, Bd.nil, hr, hl⟩
          · cases hs
        rw [if_neg b9] at hs
        by_cases b0 : up (bt c) = true
        · rw [if_pos b0] at hs; cases hs
          obtain ⟨b, rs, e, hb, hr, hl⟩ := (ih _ ⟨2, o, n⟩ hn h).2.2.1 rfl
          exact ⟨c :: b, rs, by rw [e]; rfl, Left.tok1 (by simp [b0]) hb, hr, hl⟩
        rw [if_neg b0] at hs; cases hs
      · intro hw
        subst hw
        simp [stepP] at hs
        obtain ⟨hc, rfl⟩ := hs
        obtain ⟨b, rs, e, hb, hr, hl⟩ := (ih _ ⟨2, o, n⟩ hn h).2.2.1 rfl
        exact ⟨c, b, rs, by rw [e], hc, hb, hr, hl⟩
      · intro hw
        subst hw
        simp [stepP] at hs
        obtain ⟨hc, rfl⟩ := hs
        obtain ⟨b, rs, e, hb, hr, hl⟩ := (ih _ ⟨2, o, n⟩ hn h).2.2.1 rfl
        exact ⟨c, b, rs, by rw [e], hc, hb, hr, hl⟩
theorem shapeB_of {l : List UInt8} (h : fault l = none) : ∃ rs, l = flat rs ∧ (∀ x ∈ rs, okItem x) ∧ rs.length ≤ 8 := by
  obtain ⟨rs, e, hr, hl⟩ := (shapeB l 0 ⟨0, [], 0⟩ (by simp) h).1 rfl rfl
  exact ⟨rs, e, hr, by simpa using hl⟩
/-- No name of a function. -/
def noUp (b : List UInt8) : Prop := ∀ c ∈ b, up (bt c) = false
theorem Bd.exp {G : Nat → Fn} {b : List UInt8} (h : Bd b) (hG : ∀ c ∈ b, up (bt c) = true → Bd (G (bt c - 65).toNat).text) : Bd (exp G b) := by
  have hplain : ∀ c : UInt8, up (bt c) = false → expC G c = [c] := fun c hc => by unfold expC; rw [hc]; rfl
  induction h with
  | nil => exact .nil
  | lock c d r h1 h2 _ ih =>
    have e : Wd.exp G (c :: d :: r) = c :: d :: Wd.exp G r := by
      have u1 : up (bt c) = false := by rcases h1 with e | e <;> rw [e] <;> decide
      have u2 : up (bt d) = false := by simp [lk] at h2; simp [up]; omega
      simp [Wd.exp, hplain c u1, hplain d u2]
    rw [e]; exact .lock c d _ h1 h2 (ih fun x hx => hG x (by simp [hx]))
  | cell c d r h1 h2 _ ih =>
    have e : Wd.exp G (c :: d :: r) = c :: d :: Wd.exp G r := by
      have u1 : up (bt c) = false := by rcases h1 with e | e <;> rw [e] <;> decide
      have u2 : up (bt d) = false := by simp [cl] at h2; simp [up]; omega
      simp [Wd.exp, hplain c u1, hplain d u2]
    rw [e]; exact .cell c d _ h1 h2 (ih fun x hx => hG x (by simp [hx]))
  | one c r h1 _ ih =>
    have ih' := ih fun x hx => hG x (by simp [hx])
    cases hu : up (bt c) with
    | false =>
      have e : Wd.exp G (c :: r) = c :: Wd.exp G r := by simp [Wd.exp, hplain c hu]
      rw [e]; exact .one c _ h1 ih'
    | true =>
      have e : Wd.exp G (c :: r) = (G (bt c - 65).toNat).text ++ Wd.exp G r := by
        have : expC G c = (G (bt c - 65).toNat).text := by unfold expC; rw [hu]; rfl
        simp [Wd.exp, this]
      rw [e]; exact (hG c (by simp) hu).app ih'
  | alt a b r _ _ _ ia ib ir =>
    have e : Wd.exp G (40 :: (a ++ 124 :: (b ++ 41 :: r))) = 40 :: (Wd.exp G a ++ 124 :: (Wd.exp G b ++ 41 :: Wd.exp G r)) := by
      simp [Wd.exp, hplain 40 (by decide), hplain 124 (by decide), hplain 41 (by decide)]
    rw [e]
    exact .alt _ _ _ (ia fun x hx => hG x (by simp [hx])) (ib fun x hx => hG x (by simp [hx])) (ir fun x hx => hG x (by simp [hx]))
  | star a r _ _ ia ir =>
    have e : Wd.exp G (91 :: (a ++ 93 :: r)) = 91 :: (Wd.exp G a ++ 93 :: Wd.exp G r) := by
      simp [Wd.exp, hplain 91 (by decide), hplain 93 (by decide)]
    rw [e]
    exact .star _ _ (ia fun x hx => hG x (by simp [hx])) (ir fun x hx => hG x (by simp [hx]))
theorem exp_noUp {G : Nat → Fn} {b : List UInt8} (hG : ∀ c ∈ b, up (bt c) = true → noUp (G (bt c - 65).toNat).text) : noUp (exp G b) := by
  intro x hx
  simp only [exp, List.mem_flatMap] at hx
  obtain ⟨c, hc, hx⟩ := hx
  unfold expC at hx
  cases hu : up (bt c) with
  | true => rw [hu] at hx; exact hG c hc hu x hx
  | false => rw [hu] at hx; simp at hx; rw [hx]; exact hu
theorem unf_fits {G : Nat → Fn} {b acc x : List UInt8} (h : unf G b acc = some x) : ∀ c ∈ b, up (bt c) = true → (G (bt c - 65).toNat).fits = true := by
  induction b generalizing acc with
  | nil => intro c hc; cases hc
  | cons d r ih =>
    intro c hc hu
    unfold unf at h
    simp only [List.mem_cons] at hc
    split at h
    · split at h
      · rename_i hf
        split at h
        · cases h
        · rcases hc with rfl | hc
          · exact hf
          · exact ih h c hc hu
      · cases h
    · rename_i hd
      split at h
      · cases h
      · rcases hc with rfl | hc
        · exact absurd hu hd
        · exact ih h c hc hu
/-- The functions' texts are bodies without names. -/
def GoodT (G : Nat → Fn) : Prop := ∀ j, Bd (G j).body ∧ ((G j).fits = true → Bd (G j).text ∧ noUp (G j).text)
theorem GoodT.newFn {G : Nat → Fn} (h : GoodT G) (n : Nat) : Bd (newFn G (G n)).body ∧ ((newFn G (G n)).fits = true → Bd (newFn G (G n)).text ∧ noUp (newFn G (G n)).text) := by
  unfold Wd.newFn Wd.unfold
  cases hq : unf G (G n).body [] with
  | none => exact ⟨(h n).1, fun e => by simp at e⟩
  | some x =>
    refine ⟨(h n).1, fun _ => ?_⟩
    have hx := unf_exp G _ [] x hq
    have hf := unf_fits hq
    simp only [List.nil_append] at hx
    simp only [hx]
    exact ⟨Bd.exp (h n).1 fun c hc hu => ((h _).2 (hf c hc hu)).1, exp_noUp fun c hc hu => ((h _).2 (hf c hc hu)).2⟩
theorem GoodT.readyStep {G : Nat → Fn} (h : GoodT G) (n : Nat) : GoodT (readyStep G n) := by
  unfold Wd.readyStep
  split
  · intro j
    by_cases e : j = n
    · simp only [e, if_true]; exact h.newFn n
    · simp only [e, if_false]; exact h j
  · exact h
theorem GoodT.readyTo {G : Nat → Fn} (h : GoodT G) (n : Nat) : GoodT (readyTo G n) := by
  induction n with
  | zero => exact h
  | succ n ih => exact ih.readyStep n
theorem GoodT.roundsTo {G : Nat → Fn} (h : GoodT G) (n : Nat) : GoodT (roundsTo G n) := by
  induction n with
  | zero => exact h
  | succ n ih => exact ih.readyTo 8
theorem addF_goodT {F : Nat → Fn} (h : GoodT F) (p : Part) (hp : Bd p.body) : GoodT (addF F p) := by
  intro j
  unfold addF
  split
  · simp only
    split
    · exact ⟨hp, fun e => by simp at e⟩
    · exact h j
  · exact h j
theorem fold_goodT (ps : List Part) (F : Nat → Fn) (h : GoodT F) (hp : ∀ p ∈ ps, Bd p.body) : GoodT (ps.foldl addF F) := by
  induction ps generalizing F with
  | nil => exact h
  | cons p r ih => exact ih _ (addF_goodT h p (hp p (by simp))) fun q hq => hp q (by simp [hq])
theorem lay_bd (rs : List (UInt8 × List UInt8)) (o : Nat) (h : ∀ x ∈ rs, okItem x) : (∀ p ∈ lay o rs, Bd p.body) ∧ (lay o rs).length = rs.length := by
  induction rs generalizing o with
  | nil => simp [lay]
  | cons x r ih =>
    obtain ⟨i1, i2⟩ := ih (o + x.2.length + 3) fun y hy => h y (by simp [hy])
    refine ⟨?_, by simp [lay, i2]⟩
    intro p hp
    simp only [lay, List.mem_cons] at hp
    rcases hp with rfl | hp
    · exact (h x (by simp)).2
    · exact i1 p hp
theorem itemsFrom_bd {G : Nat → Fn} (hG : GoodT G) (ps : List Part) (hp : ∀ p ∈ ps, Bd p.body) (acc its : List It) (ha : ∀ x ∈ acc, Bd x.body ∧ noUp x.body ∧ x.body.length ≤ 300) (h : itemsFrom G ps acc = .ok its) : (∀ x ∈ its, Bd x.body ∧ noUp x.body ∧ x.body.length ≤ 300) ∧ its.length ≤ acc.length + ps.length := by
  induction ps generalizing acc with
  | nil => simp [itemsFrom] at h; subst h; exact ⟨ha, by simp⟩
  | cons p r ih =>
    unfold itemsFrom at h
    split at h
    · obtain ⟨i1, i2⟩ := ih (fun q hq => hp q (by simp [hq])) acc ha h
      exact ⟨i1, by simp; omega⟩
    · cases hq : Wd.unfold G p.body with
      | none => rw [hq] at h; cases h
      | some x =>
        rw [hq] at h
        have hx := unf_exp G _ [] x hq
        simp only [List.nil_append] at hx
        have hf := unf_fits hq
        obtain ⟨i1, i2⟩ := ih (fun q hq => hp q (by simp [hq])) _ (by
          intro y hy
          simp only [List.mem_append, List.mem_singleton] at hy
          rcases hy with hy | rfl
          · exact ha y hy
          · refine ⟨?_, ?_, unf_len G _ [] x (by simp) hq⟩
            · rw [hx]; exact Bd.exp (hp p (by simp)) fun c hc hu => ((hG _).2 (hf c hc hu)).1
            · rw [hx]; exact exp_noUp fun c hc hu => ((hG _).2 (hf c hc hu)).2) h
        exact ⟨i1, by simp at i2 ⊢; omega⟩
/-- The items of a source: bodies without names, of at most 300 bytes. -/
theorem readP_items {l : List UInt8} {its : List It} (h : readP l = .ok its) : its.length ≤ 8 ∧ ∀ x ∈ its, Bd x.body ∧ noUp x.body ∧ x.body.length ≤ 300 := by
  by_cases hbig : 240 < l.length
  · rw [readP_long hbig] at h; cases h
  cases hf : fault l with
  | some i => rw [readP_text hbig hf] at h; cases h
  | none =>
    obtain ⟨rs, rfl, hr, hl⟩ := shapeB_of hf
    cases hns : names (split (flat rs)).F (split (flat rs)).ps with
    | some i => rw [readP_name hbig hf hns] at h; cases h
    | none =>
      cases hrs : left (roundsTo (split (flat rs)).F 8) with
      | true => rw [readP_round hbig hf hns hrs] at h; cases h
      | false =>
        cases hq : items (roundsTo (split (flat rs)).F 8) (split (flat rs)).ps with
        | error n => rw [readP_big hbig hf hns hrs hq] at h; cases h
        | ok its' =>
          rw [readP_ok hbig hf hns hrs hq] at h
          cases h
          rw [split_of rs (fun x hx => (hr x hx).raw)] at hq
          obtain ⟨lb, ll⟩ := lay_bd rs 0 hr
          have hG : GoodT (roundsTo ((lay 0 rs).foldl addF (fun _ => fn0)) 8) := GoodT.roundsTo (fold_goodT _ _ (fun j => ⟨Bd.nil, fun e => by simp [fn0] at e⟩) lb) 8
          obtain ⟨i1, i2⟩ := itemsFrom_bd hG (lay 0 rs) lb [] _ (by simp) hq
          exact ⟨by simp at i2; omega, i1⟩
theorem at_cons_succ (c : UInt8) (r : List UInt8) (p : Nat) : at_ (c :: r) (p + 1) = at_ r p := by simp [at_]
theorem at_cons_zero (c : UInt8) (r : List UInt8) : at_ (c :: r) 0 = bt c := by simp [at_, bt]
end Wd
namespace Mc
open Wd
theorem at_app_l {a b : List UInt8} {p : Nat} (h : p < a.length) : at_ (a ++ b) p = at_ a p := by simp [at_, List.getElem?_append_left h]
theorem PairOK.cons {c : UInt8} {r : List UInt8} (h : PairOK r) (h1 : bt c ≠ 43 ∧ bt c ≠ 45 ∧ bt c ≠ 114 ∧ bt c ≠ 119) : PairOK (c :: r) := by
  intro p hp
  cases p with
  | zero =>
    rw [at_cons_zero]
    exact ⟨fun e => by omega, fun e => by omega⟩
  | succ p =>
    have := h p (by simpa using hp)
    simp only [at_cons_succ, List.length_cons]
    exact ⟨fun e => by have := this.1 e; omega, fun e => by have := this.2 e; omega⟩
theorem PairOK.two {c d : UInt8} {r : List UInt8} (h : PairOK r) (h1 : ((bt c = 43 ∨ bt c = 45) ∧ lk (bt d) = true) ∨ ((bt c = 114 ∨ bt c = 119) ∧ cl (bt d) = true)) : PairOK (c :: d :: r) := by
  have hd : bt d ≠ 43 ∧ bt d ≠ 45 ∧ bt d ≠ 114 ∧ bt d ≠ 119 := by
    simp only [lk, cl, decide_eq_true_eq] at h1; omega
  intro p hp
  cases p with
  | zero =>
    rw [at_cons_zero, at_cons_succ, at_cons_zero]
    simp only [lk, cl, decide_eq_true_eq] at h1
    simp only [List.length_cons]
    constructor <;> intro e <;> omega
  | succ p =>
    have := (h.cons hd) p (by simpa using hp)
    simp only [at_cons_succ (c := c), List.length_cons] at this ⊢
    exact ⟨fun e => by have := this.1 e; omega, fun e => by have := this.2 e; omega⟩
theorem PairOK.app {a b : List UInt8} (ha : PairOK a) (hb : PairOK b) : PairOK (a ++ b) := by
  intro p hp
  by_cases h : p < a.length
  · have := ha p h
    rw [at_app_l h]
    simp only [List.length_append]
    refine ⟨fun e => ?_, fun e => ?_⟩
    · obtain ⟨h1, h2, h3⟩ := this.1 e; rw [at_app_l h1]; omega
    · obtain ⟨h1, h2, h3⟩ := this.2 e; rw [at_app_l h1]; omega
  · have e1 : at_ (a ++ b) p = at_ b (p - a.length) := at_right' a b p (p - a.length) (by omega)
    have e2 : at_ (a ++ b) (p + 1) = at_ b (p - a.length + 1) := at_right' a b (p + 1) (p - a.length + 1) (by omega)
    have := hb (p - a.length) (by simp at hp; omega)
    rw [e1, e2]
    simp only [List.length_append]
    refine ⟨fun e => ?_, fun e => ?_⟩
    · obtain ⟨h1, h2, h3⟩ := this.1 e; omega
    · obtain ⟨h1, h2, h3⟩ := this.2 e; omega
theorem pairOK_nil : PairOK [] := fun p hp => by simp at hp
theorem pairOK_bd {b : List UInt8} (h : Bd b) : PairOK b := by
  induction h with
  | nil => exact pairOK_nil
  | lock c d r h1 h2 _ ih => exact ih.two (Or.inl ⟨h1, h2⟩)
  | cell c d r h1 h2 _ ih => exact ih.two (Or.inr ⟨h1, h2⟩)
  | one c r h1 _ ih => exact ih.cons (by rw [up_iff] at h1; omega)
  | alt a b r _ _ _ ia ib ir => exact (ia.app ((ib.app (ir.cons (by decide))).cons (by decide))).cons (by decide)
  | star a r _ _ ia ir => exact (ia.app (ir.cons (by decide))).cons (by decide)
theorem bodyOf_mem {its : List It} {i : Nat} (hi : i < its.length) : ∃ x ∈ its, bodyOf its i = x.body ∧ isH its i = x.handler := ⟨its[i], List.getElem_mem hi, by simp [bodyOf, List.getD, hi], by simp [isH, List.getD, hi]⟩
/-- The items of a source: what the machine asks of them. -/
structure Fine (its : List It) : Prop where
  len : its.length ≤ 8
  bd : ∀ i, i < its.length → Bd (bodyOf its i)
  noUp : ∀ i, i < its.length → noUp (bodyOf its i)
  short : ∀ i, i < its.length → (bodyOf its i).length ≤ 300
theorem fine_of {l : List UInt8} {its : List It} (h : readP l = .ok its) : Fine its := by
  obtain ⟨h1, h2⟩ := readP_items h
  refine ⟨h1, fun i hi => ?_, fun i hi => ?_, fun i hi => ?_⟩ <;> obtain ⟨x, hx, e, _⟩ := bodyOf_mem hi <;> rw [e]
  · exact (h2 x hx).1
  · exact (h2 x hx).2.1
  · exact (h2 x hx).2.2
theorem Fine.ok {its : List It} (h : Fine its) : ItsOK its := ⟨by have := h.len; omega, fun i hi => by have := h.short i hi; omega, fun i hi => pairOK_bd (h.bd i hi)⟩
end Mc
end Go.Proofs.Ytecmfdkhcffpmab
