/- Same6, Same7, Same8. -/
import Derived.Test.YtecmfdkhcffpmaaB08
/- Rounds of unfolding: a function is left just if one comes back to itself. -/
namespace Go.Proofs.Ytecmfdkhcffpmaa
set_option linter.unusedSimpArgs false
set_option linter.unusedVariables false
namespace Wd
/-- The functions as they are taken out of a text whose names are right. -/
structure Init (F : Nat → Fn) : Prop where
  done0 : ∀ j, (F j).done = false
  there : ∀ f c, c ∈ (F f).body → up (bt c) = true → (F (bt c - 65).toNat).there = true
  bare : ∀ f, (F f).there = false → (F f).body = []
def callB (F : Nat → Fn) (j : Nat) : Bool := decide (j / 8 < 8) && callRow (F (j / 8)).body (j % 8)
theorem callB_at (F : Nat → Fn) (x g : Nat) (hx : x < 8) (hg : g < 8) : callB F (x * 8 + g) = callRow (F x).body g := by
  simp only [callB]
  rw [show (x * 8 + g) / 8 = x from by omega, show (x * 8 + g) % 8 = g from by omega]
  simp [hx]
theorem callRow_iff (b : List UInt8) (g : Nat) : callRow b g = true ↔ ∃ c ∈ b, bt c = 65 + (g : Int) := by simp [callRow]
theorem allDone_iff (G : Nat → Fn) (l : List UInt8) : allDone G l = true ↔ ∀ c ∈ l, up (bt c) = true → (G (bt c - 65).toNat).done = true := by
  unfold allDone
  rw [Option.isNone_iff_eq_none]
  unfold first
  rw [List.find?_range_eq_none]
  constructor
  · intro h c hc hu
    obtain ⟨i, hi, e⟩ := List.getElem_of_mem hc
    have := h i hi
    have ea : at_ l i = bt c := by simp [at_, bt, hi, e]
    simp [undoneP, ea, hu] at this
    exact this
  · intro h i hi
    have ea : at_ l i = bt l[i] := by simp [at_, bt, hi]
    have := h l[i] (List.getElem_mem hi)
    simp only [undoneP, ea]
    cases hu : up (bt l[i]) with
    | false => rfl
    | true => simp [this hu]
def SameFB (G F : Nat → Fn) : Prop := ∀ j, (G j).there = (F j).there ∧ (G j).body = (F j).body
theorem newFn_same (G : Nat → Fn) (f : Fn) : (newFn G f).there = f.there ∧ (newFn G f).body = f.body ∧ (newFn G f).done = true := by
  unfold newFn; split <;> exact ⟨rfl, rfl, rfl⟩
theorem readyStep_same {G F : Nat → Fn} (h : SameFB G F) (n : Nat) : SameFB (readyStep G n) F := by
  intro j
  unfold readyStep
  split
  · by_cases e : j = n
    · subst e; simp only [if_true]
      obtain ⟨a, b, _⟩ := newFn_same G (G j)
      rw [a, b]; exact h j
    · simp only [e, if_false]; exact h j
  · exact h j
theorem readyTo_same {G F : Nat → Fn} (h : SameFB G F) (n : Nat) : SameFB (readyTo G n) F := by
  induction n with
  | zero => exact h
  | succ n ih => exact readyStep_same ih n
theorem roundsTo_same (F : Nat → Fn) (r : Nat) : SameFB (roundsTo F r) F := by
  induction r with
  | zero => exact fun j => ⟨rfl, rfl⟩
  | succ r ih => exact readyTo_same ih 8
theorem readyStep_done {G : Nat → Fn} {j : Nat} (h : (G j).done = true) (n : Nat) : (readyStep G n j).done = true := by
  unfold readyStep
  split
  · by_cases e : j = n
    · subst e; simp only [if_true]; exact (newFn_same G (G j)).2.2
    · simp only [e, if_false]; exact h
  · exact h
theorem readyTo_done {G : Nat → Fn} {j : Nat} (n m : Nat) (h : (readyTo G n j).done = true) : (readyTo G (n + m) j).done = true := by
  induction m with
  | zero => exact h
  | succ m ih => exact readyStep_done ih (n + m)
theorem allDone_mono {G H : Nat → Fn} (h : ∀ j, (G j).done = true → (H j).done = true) (l : List UInt8) (hd : allDone G l = true) : allDone H l = true := by
  rw [allDone_iff] at hd ⊢
  exact fun c hc hu => h _ (hd c hc hu)
theorem ready_done {G : Nat → Fn} {u : Nat} (hu : u < 8) (ht : (G u).there = true) (hd : allDone G (G u).body = true) : (readyTo G 8 u).done = true := by
  have hs := readyTo_same (G := G) (F := G) (fun j => ⟨rfl, rfl⟩) u
  have h1 : (readyTo G (u + 1) u).done = true := by
    simp only [readyTo]
    generalize hH : readyTo G u = H at hs
    have hall : allDone H (H u).body = true := by
      rw [(hs u).2]
      refine allDone_mono (fun j hj => ?_) _ hd
      rw [← hH]
      have := readyTo_done (G := G) (j := j) 0 u hj
      simpa using this
    by_cases hdn : (H u).done = true
    · exact readyStep_done hdn u
    · unfold readyStep
      rw [if_pos ⟨by rw [(hs u).1]; exact ht, by simpa using hdn, hall⟩]
      simp only [if_true]
      exact (newFn_same H (H u)).2.2
  have := readyTo_done (u + 1) (8 - (u + 1)) h1
  rwa [show u + 1 + (8 - (u + 1)) = 8 from by omega] at this
/-- A function that comes back to itself is never unfolded. -/
def NoneDone (F G : Nat → Fn) : Prop := SameFB G F ∧ ∀ i, i < 8 → reach (callB F) i i = true → (G i).done = false
theorem readyStep_none {F G : Nat → Fn} (h : NoneDone F G) (n : Nat) (hn : n < 8) : NoneDone F (readyStep G n) := by
  refine ⟨readyStep_same h.1 n, ?_⟩
  intro i hi hr
  unfold readyStep
  split
  · next hc =>
    by_cases e : i = n
    · exfalso
      subst e
      obtain ⟨g, hg, hb, hgi⟩ := reach_first hi hi hr
      have hgg : reach (callB F) g g = true := by
        rcases hgi with e | e
        · subst e; exact hr
        · exact reach_trans hg hi hg e (reach_one hi hg hb)
      have hnd := h.2 g hg hgg
      rw [callB_at F i g hi hg, callRow_iff] at hb
      obtain ⟨c, hcm, hce⟩ := hb
      have := (allDone_iff G (G i).body).1 hc.2.2 c (by rw [(h.1 i).2]; exact hcm) (by rw [up_iff]; omega)
      rw [hce, show (65 + (g : Int) - 65).toNat = g from by omega] at this
      rw [this] at hnd
      cases hnd
    · simp only [e, if_false]; exact h.2 i hi hr
  · exact h.2 i hi hr
theorem readyTo_none {F G : Nat → Fn} (h : NoneDone F G) (n : Nat) (hn : n ≤ 8) : NoneDone F (readyTo G n) := by
  induction n with
  | zero => exact h
  | succ n ih => exact readyStep_none (ih (by omega)) n (by omega)
theorem roundsTo_none {F : Nat → Fn} (hI : Init F) (r : Nat) : NoneDone F (roundsTo F r) := by
  induction r with
  | zero => exact ⟨fun j => ⟨rfl, rfl⟩, fun i _ _ => hI.done0 i⟩
  | succ r ih => exact readyTo_none ih 8 (by omega)
/-- Without one, every function is unfolded in time. -/
theorem roundsTo_done {F : Nat → Fn} (hI : Init F) (hirr : ∀ i, i < 8 → reach (callB F) i i = false) (r : Nat) (u : Nat) (hu : u < 8) (ht : (F u).there = true) (hc : count (callB F) u < r) : (roundsTo F r u).done = true := by
  induction r generalizing u with
  | zero => omega
  | succ r ih =>
    have hs := roundsTo_same F r
    simp only [roundsTo]
    refine ready_done hu (by rw [(hs u).1]; exact ht) ?_
    rw [allDone_iff]
    intro c hcm hup
    rw [(hs u).2] at hcm
    have hup' := (up_iff _).1 hup
    have hg : (bt c - 65).toNat < 8 := by omega
    have hb : callB F (u * 8 + (bt c - 65).toNat) = true := by
      rw [callB_at F u _ hu hg, callRow_iff]; exact ⟨c, hcm, by omega⟩
    have := count_lt hirr hu hg hb
    exact ih _ hg (hI.there u c hcm hup) (by omega)
theorem left_iff (G : Nat → Fn) : left G = true ↔ ∃ j, j < 8 ∧ (G j).there = true ∧ (G j).done = false := by
  unfold left first
  rw [List.find?_isSome]
  simp [leftP]
theorem first_iff (p : Nat → Bool) (n : Nat) : (first p n).isSome = true ↔ ∃ j, j < n ∧ p j = true := by
  unfold first
  rw [List.find?_isSome]
  simp
theorem left_same {F : Nat → Fn} (hI : Init F) : left (roundsTo F 8) = (first (fun i => reach (callB F) i i) 8).isSome := by
  rw [Bool.eq_iff_iff, left_iff, first_iff]
  constructor
  · rintro ⟨j, hj, ht, hd⟩
    apply Classical.byContradiction
    intro hno
    have hirr : ∀ i, i < 8 → reach (callB F) i i = false := by
      intro i hi
      cases hr : reach (callB F) i i with
      | false => rfl
      | true => exact absurd ⟨i, hi, hr⟩ hno
    rw [(roundsTo_same F 8 j).1] at ht
    rw [roundsTo_done hI hirr 8 j hj ht (count_bd hirr hj)] at hd
    cases hd
  · rintro ⟨i, hi, hr⟩
    refine ⟨i, hi, ?_, (roundsTo_none hI 8).2 i hi hr⟩
    rw [(roundsTo_same F 8 i).1]
    obtain ⟨g, hg, hb, _⟩ := reach_first hi hi hr
    rw [callB_at F i g hi hg, callRow_iff] at hb
    obtain ⟨c, hc, _⟩ := hb
    cases ht : (F i).there with
    | true => rfl
    | false => rw [hI.bare i ht] at hc; simp at hc
end Wd
end Go.Proofs.Ytecmfdkhcffpmaa
/- The functions of a text whose names are right: by the program's taking apart and by the document's looking. -/
namespace Go.Proofs.Ytecmfdkhcffpmaa
set_option linter.unusedSimpArgs false
set_option linter.unusedVariables false
namespace Wd
theorem namesFrom_none (F : Nat → Fn) (ps : List Part) (seen : Nat → Bool) (h : namesFrom F ps seen = none) :
    (∀ p ∈ ps, unknown F p.body = none) ∧ (∀ p ∈ ps, up p.letter = true → seen (p.letter - 65).toNat = false) ∧ ps.Pairwise (fun a b => up a.letter = true → b.letter ≠ a.letter) := by
  induction ps generalizing seen with
  | nil => simp
  | cons p r ih =>
    simp only [namesFrom] at h
    split at h
    · cases h
    · next hc =>
      cases hu : unknown F p.body with
      | some u => rw [hu] at h; cases h
      | none =>
        rw [hu] at h
        simp only at h
        obtain ⟨i1, i2, i3⟩ := ih _ h
        have hp : up p.letter = true → seen (p.letter - 65).toNat = false := by
          intro hup
          cases hs : seen (p.letter - 65).toNat with
          | false => rfl
          | true => exact absurd ⟨hup, hs⟩ hc
        refine ⟨?_, ?_, ?_⟩
        · intro q hq
          simp only [List.mem_cons] at hq
          rcases hq with hq | hq
          · subst hq; exact hu
          · exact i1 q hq
        · intro q hq hup
          simp only [List.mem_cons] at hq
          rcases hq with hq | hq
          · subst hq; exact hp hup
          · have := i2 q hq hup
            by_cases hpu : up p.letter = true
            · rw [if_pos hpu] at this
              by_cases e : (q.letter - 65).toNat = (p.letter - 65).toNat
              · rw [if_pos e] at this; cases this
              · rw [if_neg e] at this; exact this
            · rw [if_neg hpu] at this; exact this
        · refine List.Pairwise.cons ?_ i3
          intro q hq hpu e
          have := i2 q hq (by rw [e]; exact hpu)
          rw [if_pos hpu, if_pos (by rw [e])] at this
          cases this
theorem fold_skip (ps : List Part) (F : Nat → Fn) (j : Nat) (h : ∀ q ∈ ps, ¬ (up q.letter = true ∧ (q.letter - 65).toNat = j)) : (ps.foldl addF F) j = F j := by
  induction ps generalizing F with
  | nil => rfl
  | cons p r ih =>
    rw [List.foldl_cons, ih _ (fun q hq => h q (by simp [hq]))]
    unfold addF
    split
    · next hu =>
      have := h p (by simp)
      have hne : ¬ j = (p.letter - 65).toNat := fun e => this ⟨hu, e.symm⟩
      simp only [if_neg hne]
    · rfl
theorem fold_at (ps : List Part) (F : Nat → Fn) (h : ps.Pairwise (fun a b => up a.letter = true → b.letter ≠ a.letter)) (p : Part) (hp : p ∈ ps) (hu : up p.letter = true) : (ps.foldl addF F) (p.letter - 65).toNat = ⟨true, p.body, false, false, []⟩ := by
  induction ps generalizing F with
  | nil => simp at hp
  | cons q r ih =>
    rw [List.foldl_cons]
    obtain ⟨h1, h2⟩ := List.pairwise_cons.1 h
    simp only [List.mem_cons] at hp
    rcases hp with hp | hp
    · subst hp
      rw [fold_skip]
      · unfold addF; rw [if_pos hu]; simp
      · rintro x hx ⟨hxu, e⟩
        apply h1 x hx hu
        have a1 := (up_iff _).1 hu
        have a2 := (up_iff _).1 hxu
        omega
    · exact ih _ h2 hp
/-- A function of a text whose names are right. -/
theorem fns_at (rs : List (UInt8 × List UInt8)) (h : ∀ x ∈ rs, okRaw x) (hn : misnamed (flat rs) = none) (f : Nat) (hf : f < 8) :
    (∃ p ∈ lay 0 rs, p.letter = 65 + (f : Int) ∧ fnsOf rs f = ⟨true, p.body, false, false, []⟩ ∧ head (flat rs) (65 + (f : Int)) = some p.pos ∧ body (flat rs) p.pos = p.body) ∨ (fnsOf rs f = fn0 ∧ head (flat rs) (65 + (f : Int)) = none) := by
  have hns := names_same rs h
  rw [hn, split_of rs h] at hns
  obtain ⟨n1, n2, n3⟩ := namesFrom_none _ _ _ hns
  have hl := lay_facts rs [] h
  simp only [List.nil_append, List.length_nil] at hl
  rw [head_lay rs h]
  cases hq : (lay 0 rs).find? (fun p => p.letter == 65 + (f : Int)) with
  | some p =>
    left
    have hp := List.mem_of_find?_eq_some hq
    have hc := List.find?_some hq
    simp at hc
    refine ⟨p, hp, hc, ?_, rfl, (hl p hp).2.1⟩
    have := fold_at (lay 0 rs) (fun _ => fn0) n3 p hp (by rw [up_iff]; omega)
    rw [show (p.letter - 65).toNat = f from by omega] at this
    exact this
  | none =>
    right
    refine ⟨?_, rfl⟩
    rw [List.find?_eq_none] at hq
    apply fold_skip
    rintro q hqm ⟨hu, e⟩
    have a := (up_iff _).1 hu
    apply hq q hqm
    simp; omega
theorem fns_big (rs : List (UInt8 × List UInt8)) (f : Nat) (hf : ¬ f < 8) : fnsOf rs f = fn0 := by
  apply fold_skip
  rintro q hqm ⟨hu, e⟩
  have a := (up_iff _).1 hu
  omega
theorem unknown_none {F : Nat → Fn} {l : List UInt8} (h : unknown F l = none) : ∀ c ∈ l, up (bt c) = true → (F (bt c - 65).toNat).there = true := by
  intro c hc hu
  unfold unknown first at h
  rw [List.find?_range_eq_none] at h
  obtain ⟨i, hi, e⟩ := List.getElem_of_mem hc
  have := h i hi
  have ea : at_ l i = bt c := by simp [at_, bt, hi, e]
  simp [unkP, ea, hu] at this
  exact this
theorem init_of (rs : List (UInt8 × List UInt8)) (h : ∀ x ∈ rs, okRaw x) (hn : misnamed (flat rs) = none) : Init (fnsOf rs) ∧ ∀ p ∈ lay 0 rs, ∀ c ∈ p.body, up (bt c) = true → (fnsOf rs (bt c - 65).toNat).there = true := by
  have hns := names_same rs h
  rw [hn, split_of rs h] at hns
  obtain ⟨n1, n2, n3⟩ := namesFrom_none _ _ _ hns
  have hth : ∀ p ∈ lay 0 rs, ∀ c ∈ p.body, up (bt c) = true → (fnsOf rs (bt c - 65).toNat).there = true := fun p hp => unknown_none (n1 p hp)
  refine ⟨⟨?_, ?_, ?_⟩, hth⟩
  · intro j
    by_cases hj : j < 8
    · rcases fns_at rs h hn j hj with ⟨p, hp, _, e, _⟩ | ⟨e, _⟩
      · rw [e]
      · rw [e]; rfl
    · rw [fns_big rs j hj]; rfl
  · intro f c hc hu
    by_cases hj : f < 8
    · rcases fns_at rs h hn f hj with ⟨p, hp, _, e, _⟩ | ⟨e, _⟩
      · rw [e] at hc; exact hth p hp c hc hu
      · rw [e] at hc; simp [fn0] at hc
    · rw [fns_big rs f hj] at hc; simp [fn0] at hc
  · intro f hb
    by_cases hj : f < 8
    · rcases fns_at rs h hn f hj with ⟨p, hp, _, e, _⟩ | ⟨e, _⟩
      · rw [e] at hb; cases hb
      · rw [e]; rfl
    · rw [fns_big rs f hj]; rfl
theorem calls_same (rs : List (UInt8 × List UInt8)) (h : ∀ x ∈ rs, okRaw x) (hn : misnamed (flat rs) = none) : callsTo (flat rs) 8 = callB (fnsOf rs) := by
  funext j
  simp only [callsTo, callB]
  by_cases hj : j / 8 < 8
  · congr 1
    unfold calls
    rcases fns_at rs h hn (j / 8) hj with ⟨p, hp, _, e, hh, hb⟩ | ⟨e, hh⟩
    · rw [hh]; simp only; rw [hb, e]
    · rw [hh, e]; rfl
  · simp [hj]
theorem round_same (rs : List (UInt8 × List UInt8)) (h : ∀ x ∈ rs, okRaw x) (hn : misnamed (flat rs) = none) : left (roundsTo (split (flat rs)).F 8) = round (flat rs) := by
  rw [split_of rs h]
  show left (roundsTo (fnsOf rs) 8) = _
  rw [left_same (init_of rs h hn).1, round, calls_same rs h hn]
  rfl
end Wd
end Go.Proofs.Ytecmfdkhcffpmaa
/- The first thread or handler that is too long, unfolded: by the program's texts and by the document's lengths. -/
namespace Go.Proofs.Ytecmfdkhcffpmaa
set_option linter.unusedSimpArgs false
set_option linter.unusedVariables false
namespace Wd
theorem sizeFrom_congr (of1 of2 : Nat → Int) (b : List UInt8) (n : Int) (h : ∀ c ∈ b, up (bt c) = true → of1 (bt c - 65).toNat = of2 (bt c - 65).toNat) : sizeFrom of1 b n = sizeFrom of2 b n := by
  induction b generalizing n with
  | nil => rfl
  | cons c r ih =>
    have hp : plus of1 n (bt c) = plus of2 n (bt c) := by
      unfold plus
      split
      · next hu => rw [h c (by simp) hu]
      · rfl
    simp only [sizeFrom, hp]
    rw [ih _ (fun x hx => h x (by simp [hx]))]
theorem sizesStep_at (rs : List (UInt8 × List UInt8)) (h : ∀ x ∈ rs, okRaw x) (hn : misnamed (flat rs) = none) (of : Nat → Int) (f : Nat) (hf : f < 8) : sizesStep (flat rs) of f = if (fnsOf rs f).there = true then size (fnsOf rs f).body of else of f := by
  unfold sizesStep
  rcases fns_at rs h hn f hf with ⟨p, hp, _, e, hh, hb⟩ | ⟨e, hh⟩
  · rw [hh, e]; simp [hb]
  · rw [hh, e]; simp [fn0]
theorem sizes_stable (rs : List (UInt8 × List UInt8)) (h : ∀ x ∈ rs, okRaw x) (hn : misnamed (flat rs) = none) (hirr : ∀ i, i < 8 → reach (callB (fnsOf rs)) i i = false) (k f : Nat) (hf : f < 8) (ht : (fnsOf rs f).there = true) (hc : count (callB (fnsOf rs)) f < k) : sizesN (flat rs) (k + 1) f = sizesN (flat rs) k f := by
  induction k generalizing f with
  | zero => omega
  | succ k ih =>
    show sizesStep (flat rs) (sizesN (flat rs) (k + 1)) f = sizesStep (flat rs) (sizesN (flat rs) k) f
    rw [sizesStep_at rs h hn _ f hf, sizesStep_at rs h hn _ f hf, if_pos ht, if_pos ht]
    unfold size
    apply sizeFrom_congr
    intro c hcm hu
    have hu' := (up_iff _).1 hu
    have hg : (bt c - 65).toNat < 8 := by omega
    have hb : callB (fnsOf rs) (f * 8 + (bt c - 65).toNat) = true := by
      rw [callB_at _ f _ hf hg, callRow_iff]; exact ⟨c, hcm, by omega⟩
    have := count_lt hirr hf hg hb
    exact ih _ hg ((init_of rs h hn).1.there f c hcm hu) (by omega)
theorem sizes_fix (rs : List (UInt8 × List UInt8)) (h : ∀ x ∈ rs, okRaw x) (hn : misnamed (flat rs) = none) (hirr : ∀ i, i < 8 → reach (callB (fnsOf rs)) i i = false) (f : Nat) (hf : f < 8) (ht : (fnsOf rs f).there = true) : sizesN (flat rs) 8 f = size (fnsOf rs f).body (sizesN (flat rs) 8) := by
  have := sizes_stable rs h hn hirr 8 f hf ht (count_bd hirr hf)
  rw [← this]
  show sizesStep (flat rs) (sizesN (flat rs) 8) f = _
  rw [sizesStep_at rs h hn _ f hf, if_pos ht]
/-- Functions that are done have their text, if it is short enough, of the length that the document reckons. -/
def Fits (F : Nat → Fn) (V : Nat → Int) (G : Nat → Fn) : Prop := SameFB G F ∧ ∀ j, j < 8 → (G j).done = true → (((G j).fits = true ↔ V j ≤ 300) ∧ ((G j).fits = true → ((G j).text.length : Int) = V j))
theorem unf_size {F G : Nat → Fn} {V : Nat → Int} (hF : Fits F V G) (hV : ∀ j, 0 ≤ V j) (b acc : List UInt8) (hb : ∀ c ∈ b, up (bt c) = true → (G (bt c - 65).toNat).done = true) (ha : acc.length ≤ 300) :
    (sizeFrom V b (acc.length : Int) ≤ 300 → ∃ x, unf G b acc = some x ∧ (x.length : Int) = sizeFrom V b (acc.length : Int)) ∧ (300 < sizeFrom V b (acc.length : Int) → unf G b acc = none) := by
  induction b generalizing acc with
  | nil =>
    simp only [sizeFrom, unf]
    exact ⟨fun _ => ⟨acc, rfl, rfl⟩, fun hh => by omega⟩
  | cons c r ih =>
    have hr : ∀ x ∈ r, up (bt x) = true → (G (bt x - 65).toNat).done = true := fun x hx => hb x (by simp [hx])
    cases hu : up (bt c) with
    | true =>
      have hu' := (up_iff _).1 hu
      have hg : (bt c - 65).toNat < 8 := by omega
      obtain ⟨f1, f2⟩ := hF.2 _ hg (hb c (by simp) hu)
      have hp : plus V (acc.length : Int) (bt c) = (acc.length : Int) + V (bt c - 65).toNat := by unfold plus; rw [if_pos hu]
      have hv0 := hV (bt c - 65).toNat
      simp only [sizeFrom, hp, unf, if_pos hu]
      by_cases hv : V (bt c - 65).toNat ≤ 300
      · have hft := f1.2 hv
        have hlen := f2 hft
        rw [if_pos hft]
        by_cases hbig : 300 < (acc ++ (G (bt c - 65).toNat).text).length
        · rw [if_pos hbig, if_pos (by simp at hbig; omega)]
          exact ⟨fun hh => by omega, fun _ => rfl⟩
        · rw [if_neg hbig, if_neg (by simp at hbig; omega)]
          have e : (acc.length : Int) + V (bt c - 65).toNat = ((acc ++ (G (bt c - 65).toNat).text).length : Int) := by simp; omega
          rw [e]
          exact ih _ hr (by omega)
      · have hft : ¬ (G (bt c - 65).toNat).fits = true := fun hh => hv (f1.1 hh)
        rw [if_neg hft, if_pos (by omega)]
        exact ⟨fun hh => by omega, fun _ => rfl⟩
    | false =>
      have hne : ¬ up (bt c) = true := by rw [hu]; simp
      have hp : plus V (acc.length : Int) (bt c) = (acc.length : Int) + 1 := by unfold plus; rw [if_neg hne]
      simp only [sizeFrom, hp, unf, if_neg hne]
      by_cases hbig : 300 < (acc ++ [c]).length
      · rw [if_pos hbig, if_pos (by simp at hbig; omega)]
        exact ⟨fun hh => by omega, fun _ => rfl⟩
      · rw [if_neg hbig, if_neg (by simp at hbig; omega)]
        have e : (acc.length : Int) + 1 = ((acc ++ [c]).length : Int) := by simp
        rw [e]
        exact ih _ hr (by omega)
theorem readyStep_fits {F G : Nat → Fn} {V : Nat → Int} (hV : ∀ j, 0 ≤ V j) (hfix : ∀ j, j < 8 → (F j).there = true → V j = size (F j).body V) (hF : Fits F V G) (n : Nat) (hn : n < 8) : Fits F V (readyStep G n) := by
  refine ⟨readyStep_same hF.1 n, ?_⟩
  intro j hj
  unfold readyStep
  split
  · next hc =>
    by_cases e : j = n
    · subst e
      simp only [if_true]
      intro _
      have hall := (allDone_iff G (G j).body).1 hc.2.2
      obtain ⟨u1, u2⟩ := unf_size hF hV (G j).body [] hall (by simp)
      have hs := hfix j hj (by rw [← (hF.1 j).1]; exact hc.1)
      rw [← (hF.1 j).2] at hs
      unfold size at hs
      simp only [List.length_nil, Int.natCast_zero] at u1 u2
      rw [← hs] at u1 u2
      unfold newFn unfold
      by_cases hv : V j ≤ 300
      · obtain ⟨x, hx, hl⟩ := u1 hv
        rw [hx]
        exact ⟨⟨fun _ => hv, fun _ => rfl⟩, fun _ => hl⟩
      · rw [u2 (by omega)]
        exact ⟨⟨(fun hh => by cases hh), (fun hh => absurd hh hv)⟩, (fun hh => by cases hh)⟩
    · simp only [e, if_false]; exact hF.2 j hj
  · exact hF.2 j hj
theorem readyTo_fits {F G : Nat → Fn} {V : Nat → Int} (hV : ∀ j, 0 ≤ V j) (hfix : ∀ j, j < 8 → (F j).there = true → V j = size (F j).body V) (hF : Fits F V G) (n : Nat) (hn : n ≤ 8) : Fits F V (readyTo G n) := by
  induction n with
  | zero => exact hF
  | succ n ih => exact readyStep_fits hV hfix (ih (by omega)) n (by omega)
theorem roundsTo_fits {F : Nat → Fn} {V : Nat → Int} (hI : Init F) (hV : ∀ j, 0 ≤ V j) (hfix : ∀ j, j < 8 → (F j).there = true → V j = size (F j).body V) (r : Nat) : Fits F V (roundsTo F r) := by
  induction r with
  | zero => exact ⟨fun j => ⟨rfl, rfl⟩, fun j _ hd => by rw [show roundsTo F 0 = F from rfl, hI.done0 j] at hd; cases hd⟩
  | succ r ih => exact readyTo_fits hV hfix ih 8 (by omega)
end Wd
end Go.Proofs.Ytecmfdkhcffpmaa
