/- Pure9, Same1, Same2. -/
import Derived.Test.YtecmfdkhcffpmaaB03
import Derived.Test.YtecmfdkhcffpmaaB06
/- The plain function of the program's 'read': the error and the place, or the items. -/
namespace Go.Proofs.Ytecmfdkhcffpmaa
open Go.RowKit
set_option linter.unusedSimpArgs false
set_option linter.unusedVariables false
namespace Wd
theorem partOf_fine (l : List UInt8) (b i : Nat) (hl : l.length ≤ 10000) (hb : b ≤ 10000) : (partOf l b i).fine := by
  refine ⟨at_lo _ _, at_hi _ _, hb, ?_⟩
  simp [partOf]; omega
theorem splitTo_fine (l : List UInt8) (hl : l.length ≤ 10000) (k : Nat) (hk : k ≤ 10000) : (∀ p ∈ (splitTo l k).ps, p.fine) ∧ FnFine (splitTo l k).F := by
  induction k with
  | zero => exact ⟨by simp [splitTo], fun j => by simp [splitTo, fn0]⟩
  | succ k ih =>
    obtain ⟨h1, h2⟩ := ih (by omega)
    have hb := splitTo_begin l k
    simp only [splitTo, splitStep]
    split
    · have hf := partOf_fine l (splitTo l k).begin k hl (by omega)
      refine ⟨?_, ?_⟩
      · intro p hp
        simp at hp
        rcases hp with hp | hp
        · exact h1 p hp
        · rw [hp]; exact hf
      · intro j
        simp only [addF]
        split
        · by_cases e : j = ((partOf l (splitTo l k).begin k).letter - 65).toNat
          · simp only [e, if_true]; exact ⟨by simp, hf.2.2.2⟩
          · simp only [e, if_false]; exact h2 j
        · exact h2 j
    · exact ⟨h1, h2⟩
def readP (l : List UInt8) : Except (Int × Int) (List It) :=
  if 240 < l.length then .error (1, 0)
  else match fault l with
    | some i => .error (2, (i : Int))
    | none => match names (split l).F (split l).ps with
      | some i => .error (3, (i : Int))
      | none => if left (roundsTo (split l).F 8) = true then .error (4, 0) else match items (roundsTo (split l).F 8) (split l).ps with
        | .error n => .error (5, (n : Int))
        | .ok its => .ok its
theorem readP_long {l : List UInt8} (h : 240 < l.length) : readP l = .error (1, 0) := by simp [readP, h]
theorem readP_text {l : List UInt8} (h : ¬ 240 < l.length) {i : Nat} (h1 : fault l = some i) : readP l = .error (2, (i : Int)) := by simp only [readP, if_neg h, h1]
theorem readP_name {l : List UInt8} (h : ¬ 240 < l.length) {i : Nat} (h1 : fault l = none) (h2 : names (split l).F (split l).ps = some i) : readP l = .error (3, (i : Int)) := by simp only [readP, if_neg h, h1, h2]
theorem readP_round {l : List UInt8} (h : ¬ 240 < l.length) (h1 : fault l = none) (h2 : names (split l).F (split l).ps = none) (h3 : left (roundsTo (split l).F 8) = true) : readP l = .error (4, 0) := by simp only [readP, if_neg h, h1, h2, if_pos h3]
theorem readP_big {l : List UInt8} (h : ¬ 240 < l.length) (h1 : fault l = none) (h2 : names (split l).F (split l).ps = none) (h3 : left (roundsTo (split l).F 8) = false) {n : Nat} (h4 : items (roundsTo (split l).F 8) (split l).ps = .error n) : readP l = .error (5, (n : Int)) := by simp [readP, if_neg h, h1, h2, h3, h4]
theorem readP_ok {l : List UInt8} (h : ¬ 240 < l.length) (h1 : fault l = none) (h2 : names (split l).F (split l).ps = none) (h3 : left (roundsTo (split l).F 8) = false) {its : List It} (h4 : items (roundsTo (split l).F 8) (split l).ps = .ok its) : readP l = .ok its := by simp [readP, if_neg h, h1, h2, h3, h4]
def checkP (l : List UInt8) : Int × Int := match readP l with
  | .ok _ => (0, 0)
  | .error x => x
end Wd
end Go.Proofs.Ytecmfdkhcffpmaa
/- The two readers of the form stop at the same byte. -/
namespace Go.Proofs.Ytecmfdkhcffpmaa
set_option linter.unusedSimpArgs false
set_option linter.unusedVariables false
namespace Wd
def Rel (p r : St) : Prop := p.want = r.want ∧ p.items = r.items ∧ (∀ c ∈ p.op, bt c = 40 ∨ bt c = 91 ∨ bt c = 124) ∧
  (((p.want = 0 ∨ p.want = 1) ∧ p.op = []) ∨ ((p.want = 2 ∨ p.want = 3 ∨ p.want = 4) ∧ r.op = 123 :: p.op))
theorem at_mem {l : List UInt8} {i : Nat} (h : i < l.length) : ∃ c ∈ l, at_ l i = bt c := by
  refine ⟨l[i], List.getElem_mem h, ?_⟩
  simp [at_, bt, h]
theorem lastIs_cons (a : UInt8) (o : List UInt8) (d : Int) (h : o ≠ []) : lastIs (a :: o) d = (at_ o (o.length - 1) == d) := by
  cases o with
  | nil => exact absurd rfl h
  | cons b r => simp [lastIs, at_]
theorem take_cons_last (a : UInt8) (o : List UInt8) (h : o ≠ []) : (a :: o).take ((a :: o).length - 1) = a :: o.take (o.length - 1) := by
  cases o with
  | nil => exact absurd rfl h
  | cons b r => simp
/-- A byte in a body: the two readers agree. -/
theorem body_rel (o : List UInt8) (items : Nat) (hop : ∀ c ∈ o, bt c = 40 ∨ bt c = 91 ∨ bt c = 124) (c : Int) :
    (bodyP ⟨2, o, items⟩ c = none ∧ opened c (123 :: o) = none) ∨
    ∃ (w : Int) (o1 o2 : List UInt8), bodyP ⟨2, o, items⟩ c = some ⟨w, o1, items⟩ ∧ opened c (123 :: o) = some (w, o2) ∧ (∀ c ∈ o1, bt c = 40 ∨ bt c = 91 ∨ bt c = 124) ∧ ((w = 0 ∧ o1 = []) ∨ ((w = 2 ∨ w = 3 ∨ w = 4) ∧ o2 = 123 :: o1)) := by
  unfold bodyP opened
  simp only
  by_cases b1 : c = 43 ∨ c = 45
  · right; exact ⟨3, o, _, by rw [if_pos b1], by rw [if_pos b1], hop, by simp⟩
  rw [if_neg b1, if_neg b1]
  by_cases b2 : c = 114 ∨ c = 119
  · right; exact ⟨4, o, _, by rw [if_pos b2], by rw [if_pos b2], hop, by simp⟩
  rw [if_neg b2, if_neg b2]
  by_cases b3 : c = 60 ∨ c = 62 ∨ c = 122
  · right; exact ⟨2, o, _, by rw [if_pos b3], by rw [if_pos (by rcases b3 with h | h | h <;> simp [h])], hop, by simp⟩
  rw [if_neg b3]
  by_cases bu : up c = true
  · right
    have hu := bu
    simp [up] at hu
    refine ⟨2, o, _, ?_, by rw [if_pos (by simp [bu])], hop, by simp⟩
    rw [if_neg (by omega), if_neg (by omega), if_neg (by omega), if_neg (by omega), if_neg (by omega), if_neg (by omega), if_pos bu]
  have b3' : ¬ (c = 60 ∨ c = 62 ∨ c = 122 ∨ up c = true) := by
    rintro (h | h | h | h)
    · exact b3 (Or.inl h)
    · exact b3 (Or.inr (Or.inl h))
    · exact b3 (Or.inr (Or.inr h))
    · exact bu h
  rw [if_neg b3']
  by_cases b4 : c = 40
  · right; refine ⟨2, o ++ [40], _, by rw [if_pos b4], by rw [if_pos b4], ?_, by simp⟩
    intro x hx; simp at hx; rcases hx with hx | hx
    · exact hop x hx
    · subst hx; left; rfl
  rw [if_neg b4, if_neg b4]
  by_cases b5 : c = 91
  · right; refine ⟨2, o ++ [91], _, by rw [if_pos b5], by rw [if_pos b5], ?_, by simp⟩
    intro x hx; simp at hx; rcases hx with hx | hx
    · exact hop x hx
    · subst hx; right; left; rfl
  rw [if_neg b5, if_neg b5]
  have hsub : ∀ n, ∀ x ∈ o.take n, bt x = 40 ∨ bt x = 91 ∨ bt x = 124 := fun n x hx => hop x (List.mem_of_mem_take hx)
  have h123 : o ≠ [] → at_ o (o.length - 1) ≠ 123 := by
    intro ho hh
    have hl : o.length - 1 < o.length := by have := List.length_pos_iff.2 ho; omega
    obtain ⟨x, hx, e⟩ := at_mem hl
    rw [e] at hh
    have := hop x hx
    omega
  have hsh : ∀ d : Int, d ≠ 123 → lastIs (123 :: o) d = (shut o d).isSome := by
    intro d hd
    by_cases ho : o = []
    · subst ho; simp [lastIs, shut, at_]; intro h; exact hd h.symm
    · rw [lastIs_cons _ _ _ ho]
      have := List.length_pos_iff.2 ho
      simp only [shut]
      by_cases hq : at_ o (o.length - 1) = d
      · simp [hq, this]
      · simp [hq]
  have hshv : ∀ d x, shut o d = some x → o ≠ [] ∧ x = o.take (o.length - 1) := by
    intro d x hx
    simp only [shut] at hx
    split at hx
    · next h => cases hx; exact ⟨List.length_pos_iff.1 h.1, rfl⟩
    · cases hx
  by_cases b6 : c = 124
  · subst b6
    simp only [if_true, true_and]
    cases hq : shut o 40 with
    | none => left; simp [hsh 40 (by decide), hq]
    | some x =>
      obtain ⟨ho, rfl⟩ := hshv 40 x hq
      right
      refine ⟨2, o.take (o.length - 1) ++ [124], (123 :: o).take ((123 :: o).length - 1) ++ [124], rfl, by simp [hsh 40 (by decide), hq], ?_, Or.inr ⟨Or.inl rfl, by rw [take_cons_last _ _ ho]; rfl⟩⟩
      intro y hy; simp only [List.mem_append, List.mem_singleton] at hy; rcases hy with hy | hy
      · exact hsub _ y hy
      · subst hy; right; right; rfl
  rw [if_neg b6, if_neg (show ¬ (c = 124 ∧ lastIs (123 :: o) 40 = true) from fun h => b6 h.1)]
  by_cases b7 : c = 41
  · subst b7
    simp only [if_true, true_and]
    cases hq : shut o 124 with
    | none => left; simp [hsh 124 (by decide), hq]
    | some x =>
      obtain ⟨ho, rfl⟩ := hshv 124 x hq
      right
      exact ⟨2, o.take (o.length - 1), (123 :: o).take ((123 :: o).length - 1), rfl, by simp [hsh 124 (by decide), hq], hsub _, Or.inr ⟨Or.inl rfl, take_cons_last _ _ ho⟩⟩
  rw [if_neg b7, if_neg (show ¬ (c = 41 ∧ lastIs (123 :: o) 124 = true) from fun h => b7 h.1)]
  by_cases b8 : c = 93
  · subst b8
    simp only [if_true, true_and]
    cases hq : shut o 91 with
    | none => left; simp [hsh 91 (by decide), hq]
    | some x =>
      obtain ⟨ho, rfl⟩ := hshv 91 x hq
      right
      exact ⟨2, o.take (o.length - 1), (123 :: o).take ((123 :: o).length - 1), rfl, by simp [hsh 91 (by decide), hq], hsub _, Or.inr ⟨Or.inl rfl, take_cons_last _ _ ho⟩⟩
  rw [if_neg b8, if_neg (show ¬ (c = 93 ∧ lastIs (123 :: o) 91 = true) from fun h => b8 h.1)]
  by_cases b9 : c = 125
  · subst b9
    simp only [if_true, true_and]
    by_cases ho : o = []
    · subst ho
      right
      exact ⟨0, [], [], rfl, by simp [lastIs, at_], by simp, Or.inl ⟨rfl, rfl⟩⟩
    · left
      have := List.length_pos_iff.2 ho
      refine ⟨by rw [if_neg (by omega)], ?_⟩
      rw [lastIs_cons _ _ _ ho, if_neg]
      simpa using h123 ho
  · rw [if_neg b9, if_neg (show ¬ (c = 125 ∧ lastIs (123 :: o) 123 = true) from fun h => b9 h.1)]
    left
    exact ⟨by rw [if_neg bu], rfl⟩
theorem step_rel {p r : St} (h : Rel p r) (c : Int) : (stepP p c = none ∧ stepR r c = none) ∨ ∃ p' r', stepP p c = some p' ∧ stepR r c = some r' ∧ Rel p' r' := by
  obtain ⟨want, o, items⟩ := p
  obtain ⟨want2, o2, items2⟩ := r
  obtain ⟨h1, h2, h3, h4⟩ := h
  simp only at h1 h2 h3 h4
  subst h1 h2
  unfold stepP stepR
  simp only
  by_cases w0 : want = 0
  · rw [if_pos w0, if_pos w0]
    by_cases hc : items < 8 ∧ (c = 116 ∨ c = 104 ∨ up c = true)
    · right
      refine ⟨⟨1, o, items + 1⟩, ⟨1, o2, items + 1⟩, by rw [if_pos hc], by rw [if_pos hc], rfl, rfl, h3, Or.inl ⟨Or.inr rfl, ?_⟩⟩
      rcases h4 with h4 | h4
      · exact h4.2
      · omega
    · left; exact ⟨by rw [if_neg hc], by rw [if_neg hc]⟩
  rw [if_neg w0, if_neg w0]
  by_cases w1 : want = 1
  · rw [if_pos w1, if_pos w1]
    have ho : o = [] := by
      rcases h4 with h4 | h4
      · exact h4.2
      · omega
    by_cases hc : c = 123
    · right
      refine ⟨⟨2, o, items⟩, ⟨2, [123], items⟩, by rw [if_pos hc], by rw [if_pos hc], rfl, rfl, h3, Or.inr ⟨Or.inl rfl, by rw [ho]⟩⟩
    · left; exact ⟨by rw [if_neg hc], by rw [if_neg hc]⟩
  rw [if_neg w1, if_neg w1]
  have h5 : (want = 2 ∨ want = 3 ∨ want = 4) ∧ o2 = 123 :: o := by
    rcases h4 with h4 | h4
    · omega
    · exact h4
  by_cases w3 : want = 3
  · rw [if_pos w3, if_pos w3]
    by_cases hc : lk c = true
    · right; exact ⟨⟨2, o, items⟩, ⟨2, o2, items⟩, by rw [if_pos hc], by rw [if_pos hc], rfl, rfl, h3, Or.inr ⟨Or.inl rfl, h5.2⟩⟩
    · left; exact ⟨by rw [if_neg hc], by rw [if_neg hc]⟩
  rw [if_neg w3, if_neg w3]
  by_cases w4 : want = 4
  · rw [if_pos w4, if_pos w4]
    by_cases hc : cl c = true
    · right; exact ⟨⟨2, o, items⟩, ⟨2, o2, items⟩, by rw [if_pos hc], by rw [if_pos hc], rfl, rfl, h3, Or.inr ⟨Or.inl rfl, h5.2⟩⟩
    · left; exact ⟨by rw [if_neg hc], by rw [if_neg hc]⟩
  rw [if_neg w4, if_neg w4]
  have w2 : want = 2 := by omega
  subst w2
  rw [h5.2]
  rcases body_rel o items h3 c with ⟨e1, e2⟩ | ⟨w, o1, o3, e1, e2, e3, e4⟩
  · left; exact ⟨e1, by rw [e2]⟩
  · right
    refine ⟨⟨w, o1, items⟩, ⟨w, o3, items⟩, e1, by rw [e2], rfl, rfl, e3, ?_⟩
    rcases e4 with ⟨e4, e5⟩ | e4
    · exact Or.inl ⟨Or.inl e4, e5⟩
    · exact Or.inr e4
theorem from_same (l : List UInt8) (i : Nat) (p r : St) (h : Rel p r) : faultFrom l i p = placeFrom l i r := by
  induction l generalizing i p r with
  | nil => simp only [faultFrom, placeFrom, h.1, h.2.1]
  | cons c t ih =>
    simp only [faultFrom, placeFrom]
    rcases step_rel h (bt c) with ⟨e1, e2⟩ | ⟨p', r', e1, e2, h'⟩
    · rw [e1, e2]
    · rw [e1, e2]; exact ih _ _ _ h'
theorem fault_same (l : List UInt8) : fault l = place l := from_same l 0 _ _ ⟨rfl, rfl, by simp, Or.inl ⟨Or.inl rfl, rfl⟩⟩
end Wd
end Go.Proofs.Ytecmfdkhcffpmaa
/- A text without a fault is a row of items, one behind the other: where they begin, what their bodies are, by the program's taking apart and by the document's looking. -/
namespace Go.Proofs.Ytecmfdkhcffpmaa
set_option linter.unusedSimpArgs false
set_option linter.unusedVariables false
namespace Wd
def flat : List (UInt8 × List UInt8) → List UInt8
  | [] => []
  | x :: r => x.1 :: 123 :: (x.2 ++ 125 :: flat r)
def clean (b : List UInt8) : Prop := ∀ c ∈ b, bt c ≠ 123 ∧ bt c ≠ 125
def okRaw (x : UInt8 × List UInt8) : Prop := (bt x.1 = 116 ∨ bt x.1 = 104 ∨ up (bt x.1) = true) ∧ clean x.2
theorem bt_inj {a b : UInt8} (h : bt a = bt b) : a = b := by
  unfold bt at h
  apply UInt8.toNat_inj.1
  omega
theorem bodyP_next {o : List UInt8} {n : Nat} {c : Int} {st : St} (h : bodyP ⟨2, o, n⟩ c = some st) : (c = 125 ∧ st.want = 0) ∨ (c ≠ 125 ∧ c ≠ 123 ∧ (st.want = 2 ∨ st.want = 3 ∨ st.want = 4)) := by
  by_cases h25 : c = 125
  · left
    subst h25
    simp [bodyP] at h
    exact ⟨rfl, by rw [← h.2]⟩
  · by_cases h23 : c = 123
    · subst h23; simp [bodyP, show up 123 = false from by decide] at h
    · right
      refine ⟨h25, h23, ?_⟩
      unfold bodyP at h
      simp only at h
      repeat' (split at h)
      all_goals first
        | (cases h; done)
        | (cases h; simp)
        | omega
theorem shape (l : List UInt8) (i : Nat) (st : St) (h : faultFrom l i st = none) :
    (st.want = 0 → ∃ rs, l = flat rs ∧ ∀ x ∈ rs, okRaw x) ∧
    (st.want = 1 → ∃ b rs, l = 123 :: (b ++ 125 :: flat rs) ∧ clean b ∧ ∀ x ∈ rs, okRaw x) ∧
    (st.want = 2 ∨ st.want = 3 ∨ st.want = 4 → ∃ b rs, l = b ++ 125 :: flat rs ∧ clean b ∧ ∀ x ∈ rs, okRaw x) := by
  induction l generalizing i st with
  | nil =>
    simp [faultFrom] at h
    refine ⟨fun _ => ⟨[], rfl, by simp⟩, fun hw => by omega, fun hw => by omega⟩
  | cons c t ih =>
    simp only [faultFrom] at h
    cases hs : stepP st (bt c) with
    | none => rw [hs] at h; cases h
    | some st' =>
      rw [hs] at h
      simp only at h
      obtain ⟨i1, i2, i3⟩ := ih _ _ h
      obtain ⟨want, o, n⟩ := st
      refine ⟨?_, ?_, ?_⟩
      · intro hw
        simp only at hw
        subst hw
        simp only [stepP, if_true] at hs
        split at hs
        · next hc =>
          cases hs
          obtain ⟨b, rs, e, hb, hr⟩ := i2 rfl
          refine ⟨(c, b) :: rs, by rw [e]; rfl, ?_⟩
          intro x hx
          simp at hx
          rcases hx with hx | hx
          · subst hx; exact ⟨hc.2, hb⟩
          · exact hr x hx
        · cases hs
      · intro hw
        simp only at hw
        subst hw
        simp [stepP] at hs
        obtain ⟨hc, rfl⟩ := hs
        obtain ⟨b, rs, e, hb, hr⟩ := i3 (Or.inl rfl)
        have hcc : c = 123 := bt_inj (by rw [hc]; rfl)
        exact ⟨b, rs, by rw [e, hcc], hb, hr⟩
      · intro hw
        simp only at hw
        have hgo : (bt c = 125 ∧ st'.want = 0) ∨ (bt c ≠ 125 ∧ bt c ≠ 123 ∧ (st'.want = 2 ∨ st'.want = 3 ∨ st'.want = 4)) := by
          rcases hw with hw | hw | hw
          · subst hw
            exact bodyP_next (by simpa [stepP] using hs)
          · subst hw
            simp [stepP] at hs
            obtain ⟨hc, rfl⟩ := hs
            simp [lk] at hc
            right; exact ⟨by omega, by omega, Or.inl rfl⟩
          · subst hw
            simp [stepP] at hs
            obtain ⟨hc, rfl⟩ := hs
            simp [cl] at hc
            right; exact ⟨by omega, by omega, Or.inl rfl⟩
        rcases hgo with ⟨hc, hw'⟩ | ⟨h1, h2, hw'⟩
        · obtain ⟨rs, e, hr⟩ := i1 hw'
          have hcc : c = 125 := bt_inj (by rw [hc]; rfl)
          exact ⟨[], rs, by rw [e, hcc]; rfl, by simp [clean], hr⟩
        · obtain ⟨b, rs, e, hb, hr⟩ := i3 hw'
          refine ⟨c :: b, rs, by rw [e]; rfl, ?_, hr⟩
          intro x hx
          simp at hx
          rcases hx with hx | hx
          · subst hx; exact ⟨h2, h1⟩
          · exact hb x hx
theorem shape_of {l : List UInt8} (h : fault l = none) : ∃ rs, l = flat rs ∧ ∀ x ∈ rs, okRaw x := (shape l 0 _ h).1 rfl
/-- The items with their places. -/
def lay : Nat → List (UInt8 × List UInt8) → List Part
  | _, [] => []
  | o, x :: r => ⟨bt x.1, o, x.2⟩ :: lay (o + x.2.length + 3) r
theorem at_right (a b : List UInt8) (i : Nat) : at_ (a ++ b) (a.length + i) = at_ b i := by
  simp [at_, List.getElem?_append_right]
theorem at_right' (a b : List UInt8) (i j : Nat) (h : i = a.length + j) : at_ (a ++ b) i = at_ b j := by rw [h, at_right]
/-- The bytes of an item. -/
theorem at_item (c : UInt8) (b rest : List UInt8) : at_ (c :: 123 :: (b ++ 125 :: rest)) 0 = bt c ∧ at_ (c :: 123 :: (b ++ 125 :: rest)) 1 = 123 ∧
    (∀ j, j < b.length → at_ (c :: 123 :: (b ++ 125 :: rest)) (2 + j) = at_ b j) ∧ at_ (c :: 123 :: (b ++ 125 :: rest)) (2 + b.length) = 125 ∧ (∀ j, at_ (c :: 123 :: (b ++ 125 :: rest)) (3 + b.length + j) = at_ rest j) := by
  refine ⟨rfl, rfl, ?_, ?_, ?_⟩
  · intro j hj
    have e : at_ (c :: 123 :: (b ++ 125 :: rest)) (2 + j) = at_ (b ++ 125 :: rest) j := by rw [Nat.add_comm]; rfl
    rw [e]; simp [at_, List.getElem?_append_left hj]
  · have e : at_ (c :: 123 :: (b ++ 125 :: rest)) (2 + b.length) = at_ (b ++ 125 :: rest) b.length := by rw [Nat.add_comm]; rfl
    rw [e, at_right' b _ b.length 0 rfl]; rfl
  · intro j
    have e : at_ (c :: 123 :: (b ++ 125 :: rest)) (3 + b.length + j) = at_ (b ++ 125 :: rest) (b.length + (1 + j)) := by
      rw [show 3 + b.length + j = (b.length + (1 + j)) + 2 from by omega]; rfl
    rw [e, at_right, Nat.add_comm]; rfl
theorem flat_len (x : UInt8 × List UInt8) (r : List (UInt8 × List UInt8)) : (flat (x :: r)).length = x.2.length + 3 + (flat r).length := by
  simp [flat]; omega
theorem pre_next (pre : List UInt8) (x : UInt8 × List UInt8) (r : List (UInt8 × List UInt8)) : pre ++ flat (x :: r) = (pre ++ (x.1 :: 123 :: (x.2 ++ [125]))) ++ flat r := by simp [flat]
theorem pre_len (pre : List UInt8) (x : UInt8 × List UInt8) : (pre ++ (x.1 :: 123 :: (x.2 ++ [125]))).length = pre.length + x.2.length + 3 := by simp; omega
theorem takeWhile_clean (b rest : List UInt8) (hb : clean b) : (b ++ 125 :: rest).takeWhile (fun c => !(((c.toNat : Nat) : Int) == 125)) = b := by
  induction b with
  | nil => simp [List.takeWhile]
  | cons c t ih =>
    have hc := (hb c (by simp)).2
    have : (!(((c.toNat : Nat) : Int) == 125)) = true := by simpa [bt] using hc
    simp only [List.cons_append, List.takeWhile, this]
    rw [ih (fun y hy => hb y (by simp [hy]))]
/-- What the items' places hold. -/
theorem lay_facts (rs : List (UInt8 × List UInt8)) (pre : List UInt8) (h : ∀ x ∈ rs, okRaw x) : ∀ p ∈ lay pre.length rs,
    at_ (pre ++ flat rs) p.pos = p.letter ∧ body (pre ++ flat rs) p.pos = p.body ∧ (p.letter = 116 ∨ p.letter = 104 ∨ up p.letter = true) ∧ pre.length ≤ p.pos ∧ clean p.body ∧ p.pos + p.body.length + 3 ≤ (pre ++ flat rs).length := by
  induction rs generalizing pre with
  | nil => intro p hp; simp [lay] at hp
  | cons x r ih =>
    intro p hp
    simp only [lay, List.mem_cons] at hp
    obtain ⟨hx1, hx2⟩ := h x (by simp)
    rcases hp with hp | hp
    · subst hp
      refine ⟨?_, ?_, hx1, Nat.le_refl _, hx2, ?_⟩
      · rw [at_right' pre _ pre.length 0 rfl]; rfl
      · unfold body
        simp only
        rw [show pre.length + 2 = pre.length + 2 from rfl, List.drop_append]
        simp only [Nat.add_sub_cancel_left, List.drop_of_length_le (show pre.length ≤ pre.length + 2 by omega), List.nil_append, flat, List.drop_succ_cons, List.drop_zero]
        exact takeWhile_clean _ _ hx2
      · simp [flat]; omega
    · have e := pre_next pre x r
      have := ih (pre ++ (x.1 :: 123 :: (x.2 ++ [125]))) (fun y hy => h y (by simp [hy])) p (by rw [pre_len]; exact hp)
      rw [← e, pre_len] at this
      exact ⟨this.1, this.2.1, this.2.2.1, by omega, this.2.2.2.2.1, this.2.2.2.2.2⟩
theorem lay_ge (rs : List (UInt8 × List UInt8)) (o : Nat) : ∀ p ∈ lay o rs, o ≤ p.pos := by
  induction rs generalizing o with
  | nil => intro p hp; simp [lay] at hp
  | cons x r ih =>
    intro p hp
    simp only [lay, List.mem_cons] at hp
    rcases hp with hp | hp
    · subst hp; exact Nat.le_refl _
    · have := ih _ p hp; omega
theorem lay_sorted (rs : List (UInt8 × List UInt8)) (o : Nat) : (lay o rs).Pairwise (fun a b => a.pos < b.pos) := by
  induction rs generalizing o with
  | nil => exact List.Pairwise.nil
  | cons x r ih =>
    simp only [lay]
    refine List.Pairwise.cons ?_ (ih _)
    intro q hq
    have := lay_ge r _ q hq
    simp only
    omega
theorem at_out (l : List UInt8) (i : Nat) (h : l.length ≤ i) : at_ l i = 0 := by simp [at_, List.getElem?_eq_none h]
theorem at_clean {b : List UInt8} (hb : clean b) (i : Nat) : at_ b i ≠ 123 ∧ at_ b i ≠ 125 := by
  by_cases h : i < b.length
  · obtain ⟨c, hc, e⟩ := at_mem h
    rw [e]; exact hb c hc
  · rw [at_out b i (by omega)]; omega
theorem flat_first (rs : List (UInt8 × List UInt8)) (h : ∀ x ∈ rs, okRaw x) : at_ (flat rs) 0 ≠ 123 ∧ at_ (flat rs) 0 ≠ 125 := by
  cases rs with
  | nil => simp [flat, at_]
  | cons x r =>
    have hx := (h x (by simp)).1
    have e : at_ (flat (x :: r)) 0 = bt x.1 := rfl
    rw [e]
    rcases hx with hx | hx | hx
    · omega
    · omega
    · simp [up] at hx; omega
/-- An item begins just where one is laid. -/
theorem heads_flat (rs : List (UInt8 × List UInt8)) (pre : List UInt8) (h : ∀ x ∈ rs, okRaw x) (i : Nat) (hi : pre.length ≤ i) :
    heads (pre ++ flat rs) i = true ↔ ∃ p ∈ lay pre.length rs, p.pos = i := by
  induction rs generalizing pre with
  | nil =>
    constructor
    · intro hh; simp [heads, flat] at hh; omega
    · rintro ⟨p, hp, _⟩; simp [lay] at hp
  | cons x r ih =>
    obtain ⟨hx1, hx2⟩ := h x (by simp)
    obtain ⟨a0, a1, a2, a3, a4⟩ := at_item x.1 x.2 (flat r)
    have hfr := flat_first r (fun y hy => h y (by simp [hy]))
    by_cases hnext : pre.length + x.2.length + 3 ≤ i
    · have := ih (pre ++ (x.1 :: 123 :: (x.2 ++ [125]))) (fun y hy => h y (by simp [hy])) (by rw [pre_len]; omega)
      rw [← pre_next, pre_len] at this
      rw [this]
      constructor
      · rintro ⟨p, hp, e⟩; exact ⟨p, by simp [lay, hp], e⟩
      · rintro ⟨p, hp, e⟩
        simp only [lay, List.mem_cons] at hp
        rcases hp with hp | hp
        · subst hp; simp only at e; omega
        · exact ⟨p, hp, e⟩
    · by_cases hz : i = pre.length
      · subst hz
        constructor
        · intro _; exact ⟨_, by simp only [lay, List.mem_cons]; exact Or.inl rfl, rfl⟩
        · intro _
          have e := at_right' pre (flat (x :: r)) (pre.length + 1) 1 rfl
          have e1 : at_ (flat (x :: r)) 1 = 123 := a1
          simp only [heads, e, e1]
          simp [flat_len]; omega
      · constructor
        · intro hh
          exfalso
          simp [heads] at hh
          have hh2 := hh.2
          obtain ⟨k, hk⟩ : ∃ k, i + 1 = pre.length + (2 + k) := ⟨i + 1 - pre.length - 2, by omega⟩
          rw [at_right' pre (flat (x :: r)) (i + 1) (2 + k) hk] at hh2
          by_cases hkb : k < x.2.length
          · have e : at_ (flat (x :: r)) (2 + k) = at_ x.2 k := a2 k hkb
            rw [e] at hh2
            exact (at_clean hx2 k).1 hh2
          · by_cases hke : k = x.2.length
            · have e : at_ (flat (x :: r)) (2 + x.2.length) = 125 := a3
              rw [hke, e] at hh2; omega
            · have hk1 : k = x.2.length + 1 := by omega
              have e : at_ (flat (x :: r)) (3 + x.2.length + 0) = at_ (flat r) 0 := a4 0
              rw [show 2 + k = 3 + x.2.length + 0 from by omega, e] at hh2
              exact hfr.1 hh2
        · rintro ⟨p, hp, e⟩
          exfalso
          simp only [lay, List.mem_cons] at hp
          rcases hp with hp | hp
          · subst hp; simp only at e; omega
          · have := lay_ge r _ p hp; omega
end Wd
end Go.Proofs.Ytecmfdkhcffpmaa
