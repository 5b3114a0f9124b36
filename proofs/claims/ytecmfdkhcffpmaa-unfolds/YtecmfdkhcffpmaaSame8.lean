/- The first thread or handler that is too long, unfolded: by the program's texts and by the document's lengths. -/
import Derived.Test.YtecmfdkhcffpmaaSame7
namespace Go.Proofs.Ytecmfdkhcffpmaa
set_option linter.unusedSimpArgs false
set_option linter.unusedVariables false
namespace Wd
theorem sizeFrom_congr (of1 of2 : Nat → Int) (b : List UInt8) (n : Int) (h : ∀ c ∈ b, up (bt c) = true → of1 (bt c - 65).toNat = of2 (bt c - 65).toNat) : sizeFrom of1 b n = sizeFrom of2 b n := by
  induction b generalizing n with
  | nil => rfl
  | cons c r ih =>
    have hp : plus of1 n (bt c) = plus of2 n (bt c) := by
      unfold plus
      split
      · next hu => rw [h c (by simp) hu]
      · rfl
    simp only [sizeFrom, hp]
    rw [ih _ (fun x hx => h x (by simp [hx]))]
theorem sizesStep_at (rs : List (UInt8 × List UInt8)) (h : ∀ x ∈ rs, okRaw x) (hn : misnamed (flat rs) = none) (of : Nat → Int) (f : Nat) (hf : f < 8) : sizesStep (flat rs) of f = if (fnsOf rs f).there = true then size (fnsOf rs f).body of else of f := by
  unfold sizesStep
  rcases fns_at rs h hn f hf with ⟨p, hp, _, e, hh, hb⟩ | ⟨e, hh⟩
  · rw [hh, e]; simp [hb]
  · rw [hh, e]; simp [fn0]
theorem sizes_stable (rs : List (UInt8 × List UInt8)) (h : ∀ x ∈ rs, okRaw x) (hn : misnamed (flat rs) = none) (hirr : ∀ i, i < 8 → reach (callB (fnsOf rs)) i i = false) (k f : Nat) (hf : f < 8) (ht : (fnsOf rs f).there = true) (hc : count (callB (fnsOf rs)) f < k) : sizesN (flat rs) (k + 1) f = sizesN (flat rs) k f := by
  induction k generalizing f with
  | zero => omega
  | succ k ih =>
    show sizesStep (flat rs) (sizesN (flat rs) (k + 1)) f = sizesStep (flat rs) (sizesN (flat rs) k) f
    rw [sizesStep_at rs h hn _ f hf, sizesStep_at rs h hn _ f hf, if_pos ht, if_pos ht]
    unfold size
    apply sizeFrom_congr
    intro c hcm hu
    have hu' := (up_iff _).1 hu
    have hg : (bt c - 65).toNat < 8 := by omega
    have hb : callB (fnsOf rs) (f * 8 + (bt c - 65).toNat) = true := by
      rw [callB_at _ f _ hf hg, callRow_iff]; exact ⟨c, hcm, by omega⟩
    have := count_lt hirr hf hg hb
    exact ih _ hg ((init_of rs h hn).1.there f c hcm hu) (by omega)
theorem sizes_fix (rs : List (UInt8 × List UInt8)) (h : ∀ x ∈ rs, okRaw x) (hn : misnamed (flat rs) = none) (hirr : ∀ i, i < 8 → reach (callB (fnsOf rs)) i i = false) (f : Nat) (hf : f < 8) (ht : (fnsOf rs f).there = true) : sizesN (flat rs) 8 f = size (fnsOf rs f).body (sizesN (flat rs) 8) := by
  have := sizes_stable rs h hn hirr 8 f hf ht (count_bd hirr hf)
  rw [← this]
  show sizesStep (flat rs) (sizesN (flat rs) 8) f = _
  rw [sizesStep_at rs h hn _ f hf, if_pos ht]
/-- Functions that are done have their text, if it is short enough, of the length that the document reckons. -/
def Fits (F : Nat → Fn) (V : Nat → Int) (G : Nat → Fn) : Prop := SameFB G F ∧ ∀ j, j < 8 → (G j).done = true → (((G j).fits = true ↔ V j ≤ 300) ∧ ((G j).fits = true → ((G j).text.length : Int) = V j))
theorem unf_size {F G : Nat → Fn} {V : Nat → Int} (hF : Fits F V G) (hV : ∀ j, 0 ≤ V j) (b acc : List UInt8) (hb : ∀ c ∈ b, up (bt c) = true → (G (bt c - 65).toNat).done = true) (ha : acc.length ≤ 300) :
    (sizeFrom V b (acc.length : Int) ≤ 300 → ∃ x, unf G b acc = some x ∧ (x.length : Int) = sizeFrom V b (acc.length : Int)) ∧ (300 < sizeFrom V b (acc.length : Int) → unf G b acc = none) := by
  induction b generalizing acc with
  | nil =>
    simp only [sizeFrom, unf]
    exact ⟨fun _ => ⟨acc, rfl, rfl⟩, fun hh => by omega⟩
  | cons c r ih =>
    have hr : ∀ x ∈ r, up (bt x) = true → (G (bt x - 65).toNat).done = true := fun x hx => hb x (by simp [hx])
    cases hu : up (bt c) with
    | true =>
      have hu' := (up_iff _).1 hu
      have hg : (bt c - 65).toNat < 8 := by omega
      obtain ⟨f1, f2⟩ := hF.2 _ hg (hb c (by simp) hu)
      have hp : plus V (acc.length : Int) (bt c) = (acc.length : Int) + V (bt c - 65).toNat := by unfold plus; rw [if_pos hu]
      have hv0 := hV (bt c - 65).toNat
      simp only [sizeFrom, hp, unf, if_pos hu]
      by_cases hv : V (bt c - 65).toNat ≤ 300
      · have hft := f1.2 hv
        have hlen := f2 hft
        rw [if_pos hft]
        by_cases hbig : 300 < (acc ++ (G (bt c - 65).toNat).text).length
        · rw [if_pos hbig, if_pos (by simp at hbig; omega)]
          exact ⟨fun hh => by omega, fun _ => rfl⟩
        · rw [if_neg hbig, if_neg (by simp at hbig; omega)]
          have e : (acc.length : Int) + V (bt c - 65).toNat = ((acc ++ (G (bt c - 65).toNat).text).length : Int) := by simp; omega
          rw [e]
          exact ih _ hr (by omega)
      · have hft : ¬ (G (bt c - 65).toNat).fits = true := fun hh => hv (f1.1 hh)
        rw [if_neg hft, if_pos (by omega)]
        exact ⟨fun hh => by omega, fun _ => rfl⟩
    | false =>
      have hne : ¬ up (bt c) = true := by rw [hu]; simp
      have hp : plus V (acc.length : Int) (bt c) = (acc.length : Int) + 1 := by unfold plus; rw [if_neg hne]
      simp only [sizeFrom, hp, unf, if_neg hne]
      by_cases hbig : 300 < (acc ++ [c]).length
      · rw [if_pos hbig, if_pos (by simp at hbig; omega)]
        exact ⟨fun hh => by omega, fun _ => rfl⟩
      · rw [if_neg hbig, if_neg (by simp at hbig; omega)]
        have e : (acc.length : Int) + 1 = ((acc ++ [c]).length : Int) := by simp
        rw [e]
        exact ih _ hr (by omega)
theorem readyStep_fits {F G : Nat → Fn} {V : Nat → Int} (hV : ∀ j, 0 ≤ V j) (hfix : ∀ j, j < 8 → (F j).there = true → V j = size (F j).body V) (hF : Fits F V G) (n : Nat) (hn : n < 8) : Fits F V (readyStep G n) := by
  refine ⟨readyStep_same hF.1 n, ?_⟩
  intro j hj
  unfold readyStep
  split
  · next hc =>
    by_cases e : j = n
    · subst e
      simp only [if_true]
      intro _
      have hall := (allDone_iff G (G j).body).1 hc.2.2
      obtain ⟨u1, u2⟩ := unf_size hF hV (G j).body [] hall (by simp)
      have hs := hfix j hj (by rw [← (hF.1 j).1]; exact hc.1)
      rw [← (hF.1 j).2] at hs
      unfold size at hs
      simp only [List.length_nil, Int.natCast_zero] at u1 u2
      rw [← hs] at u1 u2
      unfold newFn unfold
      by_cases hv : V j ≤ 300
      · obtain ⟨x, hx, hl⟩ := u1 hv
        rw [hx]
        exact ⟨⟨fun _ => hv, fun _ => rfl⟩, fun _ => hl⟩
      · rw [u2 (by omega)]
        exact ⟨⟨(fun hh => by cases hh), (fun hh => absurd hh hv)⟩, (fun hh => by cases hh)⟩
    · simp only [e, if_false]; exact hF.2 j hj
  · exact hF.2 j hj
theorem readyTo_fits {F G : Nat → Fn} {V : Nat → Int} (hV : ∀ j, 0 ≤ V j) (hfix : ∀ j, j < 8 → (F j).there = true → V j = size (F j).body V) (hF : Fits F V G) (n : Nat) (hn : n ≤ 8) : Fits F V (readyTo G n) := by
  induction n with
  | zero => exact hF
  | succ n ih => exact readyStep_fits hV hfix (ih (by omega)) n (by omega)
theorem roundsTo_fits {F : Nat → Fn} {V : Nat → Int} (hI : Init F) (hV : ∀ j, 0 ≤ V j) (hfix : ∀ j, j < 8 → (F j).there = true → V j = size (F j).body V) (r : Nat) : Fits F V (roundsTo F r) := by
  induction r with
  | zero => exact ⟨fun j => ⟨rfl, rfl⟩, fun j _ hd => by rw [show roundsTo F 0 = F from rfl, hI.done0 j] at hd; cases hd⟩
  | succ r ih => exact readyTo_fits hV hfix ih 8 (by omega)
end Wd
end Go.Proofs.Ytecmfdkhcffpmaa
