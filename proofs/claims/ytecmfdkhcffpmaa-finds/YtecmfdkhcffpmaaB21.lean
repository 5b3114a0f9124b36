/- Same8, Same, Unf1, Unf2. -/
import Derived.Test.YtecmfdkhcffpmaaB20
import Derived.Test.YtecmfdkhcffpmaaB14
import Derived.Test.YtecmfdkhcffpmaaB18
/- The first thread or handler that is too long, unfolded: by the program's texts and by the document's lengths. -/
namespace Go.Proofs.Ytecmfdkhcffpmaa
set_option linter.unusedSimpArgs false
set_option linter.unusedVariables false
namespace Wd
theorem sizeFrom_congr (of1 of2 : Nat → Int) (b : List UInt8) (n : Int) (h : ∀ c ∈ b, up (bt c) = true → of1 (bt c - 65).toNat = of2 (bt c - 65).toNat) : sizeFrom of1 b n = sizeFrom of2 b n := by
  induction b generalizing n with
  | nil => rfl
  | cons c r ih =>
    have hp : plus of1 n (bt c) = plus of2 n (bt c) := by
      unfold plus
      split
      · next hu => rw [h c (by simp) hu]
      · rfl
    simp only [sizeFrom, hp]
    rw [ih _ (fun x hx => h x (by simp [hx]))]
theorem sizesStep_at (rs : List (UInt8 × List UInt8)) (h : ∀ x ∈ rs, okRaw x) (hn : misnamed (flat rs) = none) (of : Nat → Int) (f : Nat) (hf : f < 8) : sizesStep (flat rs) of f = if (fnsOf rs f).there = true then size (fnsOf rs f).body of else of f := by
  unfold sizesStep
  rcases fns_at rs h hn f hf with ⟨p, hp, _, e, hh, hb⟩ | ⟨e, hh⟩
  · rw [hh, e]; simp [hb]
  · rw [hh, e]; simp [fn0]
theorem sizes_stable (rs : List (UInt8 × List UInt8)) (h : ∀ x ∈ rs, okRaw x) (hn : misnamed (flat rs) = none) (hirr : ∀ i, i < 8 → reach (callB (fnsOf rs)) i i = false) (k f : Nat) (hf : f < 8) (ht : (fnsOf rs f).there = true) (hc : count (callB (fnsOf rs)) f < k) : sizesN (flat rs) (k + 1) f = sizesN (flat rs) k f := by
  induction k generalizing f with
  | zero => omega
  | succ k ih =>
    show sizesStep (flat rs) (sizesN (flat rs) (k + 1)) f = sizesStep (flat rs) (sizesN (flat rs) k) f
    rw [sizesStep_at rs h hn _ f hf, sizesStep_at rs h hn _ f hf, if_pos ht, if_pos ht]
    unfold size
    apply sizeFrom_congr
    intro c hcm hu
    have hu' := (up_iff _).1 hu
    have hg : (bt c - 65).toNat < 8 := by omega
    have hb : callB (fnsOf rs) (f * 8 + (bt c - 65).toNat) = true := by
      rw [callB_at _ f _ hf hg, callRow_iff]; exact ⟨c, hcm, by omega⟩
    have := count_lt hirr hf hg hb
    exact ih _ hg ((init_of rs h hn).1.there f c hcm hu) (by omega)
theorem sizes_fix (rs : List (UInt8 × List UInt8)) (h : ∀ x ∈ rs, okRaw x) (hn : misnamed (flat rs) = none) (hirr : ∀ i, i < 8 → reach (callB (fnsOf rs)) i i = false) (f : Nat) (hf : f < 8) (ht : (fnsOf rs f).there = true) : sizesN (flat rs) 8 f = size (fnsOf rs f).body (sizesN (flat rs) 8) := by
  have := sizes_stable rs h hn hirr 8 f hf ht (count_bd hirr hf)
  rw [← this]
  show sizesStep (flat rs) (sizesN (flat rs) 8) f = _
  rw [sizesStep_at rs h hn _ f hf, if_pos ht]
/-- Functions that are done have their text, if it is short enough, of the length that the document reckons. -/
def Fits (F : Nat → Fn) (V : Nat → Int) (G : Nat → Fn) : Prop := SameFB G F ∧ ∀ j, j < 8 → (G j).done = true → (((G j).fits = true ↔ V j ≤ 300) ∧ ((G j).fits = true → ((G j).text.length : Int) = V j))
theorem unf_size {F G : Nat → Fn} {V : Nat → Int} (hF : Fits F V G) (hV : ∀ j, 0 ≤ V j) (b acc : List UInt8) (hb : ∀ c ∈ b, up (bt c) = true → (G (bt c - 65).toNat).done = true) (ha : acc.length ≤ 300) :
    (sizeFrom V b (acc.length : Int) ≤ 300 → ∃ x, unf G b acc = some x ∧ (x.length : Int) = sizeFrom V b (acc.length : Int)) ∧ (300 < sizeFrom V b (acc.length : Int) → unf G b acc = none) := by
  induction b generalizing acc with
  | nil =>
    simp only [sizeFrom, unf]
    exact ⟨fun _ => ⟨acc, rfl, rfl⟩, fun hh => by omega⟩
  | cons c r ih =>
    have hr : ∀ x ∈ r, up (bt x) = true → (G (bt x - 65).toNat).done = true := fun x hx => hb x (by simp [hx])
    cases hu : up (bt c) with
    | true =>
      have hu' := (up_iff _).1 hu
      have hg : (bt c - 65).toNat < 8 := by omega
      obtain ⟨f1, f2⟩ := hF.2 _ hg (hb c (by simp) hu)
      have hp : plus V (acc.length : Int) (bt c) = (acc.length : Int) + V (bt c - 65).toNat := by unfold plus; rw [if_pos hu]
      have hv0 := hV (bt c - 65).toNat
      simp only [sizeFrom, hp, unf, if_pos hu]
      by_cases hv : V (bt c - 65).toNat ≤ 300
      · have hft := f1.2 hv
        have hlen := f2 hft
        rw [if_pos hft]
        by_cases hbig : 300 < (acc ++ (G (bt c - 65).toNat).text).length
        · rw [if_pos hbig, if_pos (by simp at hbig; omega)]
          exact ⟨fun hh => by omega, fun _ => rfl⟩
        · rw [if_neg hbig, if_neg (by simp at hbig; omega)]
          have e : (acc.length : Int) + V (bt c - 65).toNat = ((acc ++ (G (bt c - 65).toNat).text).length : Int) := by simp; omega
          rw [e]
          exact ih _ hr (by omega)
      · have hft : ¬ (G (bt c - 65).toNat).fits = true := fun hh => hv (f1.1 hh)
        rw [if_neg hft, if_pos (by omega)]
        exact ⟨fun hh => by omega, fun _ => rfl⟩
    | false =>
      have hne : ¬ up (bt c) = true := by rw [hu]; simp
      have hp : plus V (acc.length : Int) (bt c) = (acc.length : Int) + 1 := by unfold plus; rw [if_neg hne]
      simp only [sizeFrom, hp, unf, if_neg hne]
      by_cases hbig : 300 < (acc ++ [c]).length
      · rw [if_pos hbig, if_pos (by simp at hbig; omega)]
        exact ⟨fun hh => by omega, fun _ => rfl⟩
      · rw [if_neg hbig, if_neg (by simp at hbig; omega)]
        have e : (acc.length : Int) + 1 = ((acc ++ [c]).length : Int) := by simp
        rw [e]
        exact ih _ hr (by omega)
theorem readyStep_fits {F G : Nat → Fn} {V : Nat → Int} (hV : ∀ j, 0 ≤ V j) (hfix : ∀ j, j < 8 → (F j).there = true → V j = size (F j).body V) (hF : Fits F V G) (n : Nat) (hn : n < 8) : Fits F V (readyStep G n) := by
  refine ⟨readyStep_same hF.1 n, ?_⟩
  intro j hj
  unfold readyStep
  split
  · next hc =>
    by_cases e : j = n
    · subst e
      simp only [if_true]
      intro _
      have hall := (allDone_iff G (G j).body).1 hc.2.2
      obtain ⟨u1, u2⟩ := unf_size hF hV (G j).body [] hall (by simp)
      have hs := hfix j hj (by rw [← (hF.1 j).1]; exact hc.1)
      rw [← (hF.1 j).2] at hs
      unfold size at hs
      simp only [List.length_nil, Int.natCast_zero] at u1 u2
      rw [← hs] at u1 u2
      unfold newFn unfold
      by_cases hv : V j ≤ 300
      · obtain ⟨x, hx, hl⟩ := u1 hv
        rw [hx]
        exact ⟨⟨fun _ => hv, fun _ => rfl⟩, fun _ => hl⟩
      · rw [u2 (by omega)]
        exact ⟨⟨(fun hh => by cases hh), (fun hh => absurd hh hv)⟩, (fun hh => by cases hh)⟩
    · simp only [e, if_false]; exact hF.2 j hj
  · exact hF.2 j hj
theorem readyTo_fits {F G : Nat → Fn} {V : Nat → Int} (hV : ∀ j, 0 ≤ V j) (hfix : ∀ j, j < 8 → (F j).there = true → V j = size (F j).body V) (hF : Fits F V G) (n : Nat) (hn : n ≤ 8) : Fits F V (readyTo G n) := by
  induction n with
  | zero => exact hF
  | succ n ih => exact readyStep_fits hV hfix (ih (by omega)) n (by omega)
theorem roundsTo_fits {F : Nat → Fn} {V : Nat → Int} (hI : Init F) (hV : ∀ j, 0 ≤ V j) (hfix : ∀ j, j < 8 → (F j).there = true → V j = size (F j).body V) (r : Nat) : Fits F V (roundsTo F r) := by
  induction r with
  | zero => exact ⟨fun j => ⟨rfl, rfl⟩, fun j _ hd => by rw [show roundsTo F 0 = F from rfl, hI.done0 j] at hd; cases hd⟩
  | succ r ih => exact readyTo_fits hV hfix ih 8 (by omega)
end Wd
end Go.Proofs.Ytecmfdkhcffpmaa
/- The program's answer to Check is the document's, whatever the text. -/
namespace Go.Proofs.Ytecmfdkhcffpmaa
set_option linter.unusedSimpArgs false
set_option linter.unusedVariables false
namespace Wd
theorem startsTo_stay (l : List UInt8) (k n : Nat) (h : ∀ i, k ≤ i → i < k + n → startP l i = false) : startsTo l (k + n) = startsTo l k := by
  induction n with
  | zero => rfl
  | succ n ih =>
    rw [show k + (n + 1) = (k + n) + 1 from rfl, startsTo_no (h (k + n) (by omega) (by omega)), ih (fun i h1 h2 => h i h1 (by omega))]
/-- The threads and handlers among the parts. -/
def tops (ps : List Part) : List Part := ps.filter (fun p => !up p.letter)
theorem starts_flat (rs0 : List (UInt8 × List UInt8)) (h0 : ∀ x ∈ rs0, okRaw x) (rs : List (UInt8 × List UInt8)) (pre : List UInt8) (hl : flat rs0 = pre ++ flat rs) (qs : List Part) (hPS : lay 0 rs0 = qs ++ lay pre.length rs) (h : ∀ x ∈ rs, okRaw x) :
    starts (flat rs0) = startsTo (flat rs0) pre.length ++ (tops (lay pre.length rs)).map (·.pos) := by
  induction rs generalizing pre qs with
  | nil =>
    have e : (flat rs0).length = pre.length := by rw [hl]; simp [flat]
    simp [starts, e, lay, tops]
  | cons x r ih =>
    obtain ⟨hx1, hx2⟩ := h x (by simp)
    have hlay : lay pre.length (x :: r) = ⟨bt x.1, pre.length, x.2⟩ :: lay (pre.length + x.2.length + 3) r := rfl
    have hsort := lay_sorted rs0 0
    rw [hPS] at hsort
    have hq_lt : ∀ q ∈ qs, q.pos < pre.length := by
      intro q hq
      rw [List.pairwise_append] at hsort
      exact hsort.2.2 q hq ⟨bt x.1, pre.length, x.2⟩ (by rw [hlay]; simp)
    have hheads : ∀ i, heads (flat rs0) i = true ↔ ∃ p ∈ lay 0 rs0, p.pos = i := fun i => heads_flat rs0 [] h0 i (Nat.zero_le _)
    have hin : (⟨bt x.1, pre.length, x.2⟩ : Part) ∈ lay 0 rs0 := by rw [hPS, hlay]; simp
    have hat := (lay_facts rs0 [] h0 _ hin).1
    simp only [List.nil_append] at hat
    have hbut : ∀ i, pre.length + 1 ≤ i → i < pre.length + 1 + (x.2.length + 2) → startP (flat rs0) i = false := by
      intro i h1 h2
      have : heads (flat rs0) i = false := by
        rw [← Bool.not_eq_true, hheads]
        rintro ⟨p, hp, e2⟩
        rw [hPS, List.mem_append] at hp
        rcases hp with hp | hp
        · have := hq_lt p hp; omega
        · rw [hlay] at hp
          simp only [List.mem_cons] at hp
          rcases hp with hp | hp
          · subst hp; simp only at e2; omega
          · have := lay_ge _ _ p hp; omega
      simp [startP, this]
    have hl2 : flat rs0 = (pre ++ (x.1 :: 123 :: (x.2 ++ [125]))) ++ flat r := by rw [hl, pre_next]
    have := ih (pre ++ (x.1 :: 123 :: (x.2 ++ [125]))) hl2 (qs ++ [⟨bt x.1, pre.length, x.2⟩]) (by rw [hPS, hlay, pre_len]; simp) (fun y hy => h y (by simp [hy]))
    rw [pre_len, show pre.length + x.2.length + 3 = pre.length + 1 + (x.2.length + 2) from by omega, startsTo_stay _ _ _ hbut] at this
    rw [this, hlay]
    have hst : startP (flat rs0) pre.length = !up (bt x.1) := by
      have hh : heads (flat rs0) pre.length = true := (hheads _).2 ⟨_, hin, rfl⟩
      simp only [startP, hh, hat, Bool.true_and]
      rcases hx1 with e | e | e
      · rw [e]; decide
      · rw [e]; decide
      · rw [e]
        have := (up_iff _).1 e
        simp; omega
    cases hu : up (bt x.1) with
    | true =>
      rw [startsTo_no (by rw [hst, hu]; rfl)]
      simp [tops, hu, show pre.length + 1 + (x.2.length + 2) = pre.length + x.2.length + 3 from by omega]
    | false =>
      rw [startsTo_yes (by rw [hst, hu]; rfl)]
      simp [tops, hu, show pre.length + 1 + (x.2.length + 2) = pre.length + x.2.length + 3 from by omega]
theorem starts_of (rs : List (UInt8 × List UInt8)) (h : ∀ x ∈ rs, okRaw x) : starts (flat rs) = (tops (lay 0 rs)).map (·.pos) := by
  have := starts_flat rs h rs [] rfl [] rfl h
  simpa [startsTo] using this
theorem itemsFrom_tops (G : Nat → Fn) (ps : List Part) (acc : List It) : itemsFrom G ps acc = itemsFrom G (tops ps) acc := by
  induction ps generalizing acc with
  | nil => rfl
  | cons p r ih =>
    cases hu : up p.letter with
    | true =>
      have e : tops (p :: r) = tops r := by simp [tops, hu]
      rw [e, itemsFrom, if_pos hu, ih]
    | false =>
      have e : tops (p :: r) = p :: tops r := by simp [tops, hu]
      have hne : ¬ up p.letter = true := by rw [hu]; simp
      rw [e, itemsFrom, itemsFrom, if_neg hne, if_neg hne]
      split
      · exact ih _
      · rfl
/-- The first item that does not fit. -/
theorem itemsFrom_big {F G : Nat → Fn} {V : Nat → Int} (hF : Fits F V G) (hV : ∀ j, 0 ≤ V j) (all dn ts : List Part) (hall : all = dn ++ ts) (hup : ∀ p ∈ ts, up p.letter = false) (hdone : ∀ p ∈ ts, ∀ c ∈ p.body, up (bt c) = true → (G (bt c - 65).toNat).done = true) (acc : List It) (hacc : acc.length = dn.length)
    (P : Nat → Bool) (hP : ∀ k (hk : k < all.length), P k = decide (300 < size (all[k]).body V)) (hno : ∀ k, k < dn.length → P k = false) :
    (∃ its, itemsFrom G ts acc = .ok its ∧ first P all.length = none) ∨ (∃ n, itemsFrom G ts acc = .error n ∧ first P all.length = some n) := by
  induction ts generalizing dn acc with
  | nil =>
    left
    refine ⟨acc, rfl, first_no ?_⟩
    intro j hj
    apply hno
    rw [hall] at hj
    simpa using hj
  | cons p r ih =>
    have hu := hup p (by simp)
    have hne : ¬ up p.letter = true := by rw [hu]; simp
    have hlt : dn.length < all.length := by rw [hall]; simp
    have hget : all[dn.length] = p := by simp [hall]
    have hPd := hP dn.length hlt
    rw [hget] at hPd
    obtain ⟨u1, u2⟩ := unf_size hF hV p.body [] (hdone p (by simp)) (by simp)
    simp only [List.length_nil, Int.natCast_zero] at u1 u2
    simp only [itemsFrom, if_neg hne]
    by_cases hv : size p.body V ≤ 300
    · obtain ⟨x, hx, _⟩ := u1 hv
      unfold unfold
      rw [hx]
      simp only
      have := ih (dn ++ [p]) (by rw [hall]; simp) (fun q hq => hup q (by simp [hq])) (fun q hq => hdone q (by simp [hq])) (acc ++ [⟨p.letter == 104, x⟩]) (by simp [hacc]) ?_
      · exact this
      · intro k hk
        simp at hk
        by_cases e : k = dn.length
        · rw [e, hPd]; simp; omega
        · exact hno k (by omega)
    · right
      unfold unfold
      rw [u2 (by unfold size at hv; omega)]
      refine ⟨acc.length, rfl, ?_⟩
      rw [hacc]
      exact first_yes hlt (by rw [hPd]; simp; omega) hno
theorem big_same (rs : List (UInt8 × List UInt8)) (h : ∀ x ∈ rs, okRaw x) (hn : misnamed (flat rs) = none) (hr : round (flat rs) = false) :
    (∃ its, items (roundsTo (split (flat rs)).F 8) (split (flat rs)).ps = .ok its ∧ bigR (flat rs) = none) ∨ (∃ n, items (roundsTo (split (flat rs)).F 8) (split (flat rs)).ps = .error n ∧ bigR (flat rs) = some n) := by
  obtain ⟨hI, hth⟩ := init_of rs h hn
  have hirr : ∀ i, i < 8 → reach (callB (fnsOf rs)) i i = false := by
    intro i hi
    cases hq : reach (callB (fnsOf rs)) i i with
    | false => rfl
    | true =>
      exfalso
      have : round (flat rs) = true := by
        rw [round, calls_same rs h hn, first_iff]; exact ⟨i, hi, hq⟩
      rw [this] at hr; cases hr
  have hV : ∀ j, 0 ≤ sizesN (flat rs) 8 j := fun j => (sizesN_bd _ 8 j).1
  have hF := roundsTo_fits hI hV (sizes_fix rs h hn hirr) 8
  rw [split_of rs h]
  show (∃ its, items (roundsTo (fnsOf rs) 8) (lay 0 rs) = .ok its ∧ _) ∨ (∃ n, items (roundsTo (fnsOf rs) 8) (lay 0 rs) = .error n ∧ _)
  unfold items
  rw [itemsFrom_tops]
  have hst := starts_of rs h
  have hfacts := lay_facts rs [] h
  simp only [List.nil_append, List.length_nil] at hfacts
  have hlen : (starts (flat rs)).length = (tops (lay 0 rs)).length := by rw [hst]; simp
  unfold bigR
  rw [hlen]
  refine itemsFrom_big hF hV (tops (lay 0 rs)) [] (tops (lay 0 rs)) rfl ?_ ?_ [] rfl _ ?_ (by simp)
  · intro p hp; simp [tops] at hp; exact hp.2
  · intro p hp c hc hu
    simp [tops] at hp
    have hu' := (up_iff _).1 hu
    exact roundsTo_done hI hirr 8 _ (by omega) (hth p hp.1 c hc hu) (count_bd hirr (by omega))
  · intro k hk
    have e : (starts (flat rs)).getD k 0 = ((tops (lay 0 rs))[k]).pos := by rw [hst]; simp [hk]
    have hm : (tops (lay 0 rs))[k] ∈ lay 0 rs := by
      have := List.getElem_mem hk
      simp only [tops, List.mem_filter] at this
      exact this.1
    have e2 := (hfacts _ hm).2.1
    rw [e, e2]
theorem check_same (l : List UInt8) : checkP l = checkR l := by
  unfold checkP
  by_cases hbig : 240 < l.length
  · rw [readP_long hbig, checkR_long hbig]
  · cases hf : fault l with
    | some i => rw [readP_text hbig hf, checkR_text hbig (by rw [← fault_same]; exact hf)]
    | none =>
      have hp : place l = none := by rw [← fault_same]; exact hf
      obtain ⟨rs, rfl, h⟩ := shape_of hf
      have hns := names_same rs h
      cases hn : misnamed (flat rs) with
      | some i =>
        rw [hn] at hns
        rw [readP_name hbig hf hns, checkR_name hbig hp hn]
      | none =>
        rw [hn] at hns
        have hrs := round_same rs h hn
        cases hr : round (flat rs) with
        | true =>
          rw [hr] at hrs
          rw [readP_round hbig hf hns hrs, checkR_round hbig hp hn hr]
        | false =>
          rw [hr] at hrs
          rcases big_same rs h hn hr with ⟨its, h1, h2⟩ | ⟨n, h1, h2⟩
          · rw [readP_ok hbig hf hns hrs h1, checkR_ok hbig hp hn hr h2]
          · rw [readP_big hbig hf hns hrs h1, checkR_big hbig hp hn hr h2]
end Wd
end Go.Proofs.Ytecmfdkhcffpmaa
/- The plain function of the document's 'unfolded': every name replaced, again and again. -/
namespace Go.Proofs.Ytecmfdkhcffpmaa
set_option linter.unusedSimpArgs false
set_option linter.unusedVariables false
namespace Wd
/-- What a byte becomes in one pass. -/
def passC (l : List UInt8) (of : Nat → Int) (c : UInt8) : List UInt8 :=
  if up (bt c) = true then (if 0 < of (bt c - 65).toNat then body l ((head l (bt c)).getD 0) else []) else [c]
def pass (l : List UInt8) (of : Nat → Int) (b : List UInt8) : List UInt8 := b.flatMap (passC l of)
def passN (l : List UInt8) (of : Nat → Int) (b : List UInt8) : Nat → List UInt8
  | 0 => b
  | k + 1 => pass l of (passN l of b k)
theorem pass_snoc (l : List UInt8) (of : Nat → Int) (s : ByteArray) (k : Nat) (h : k < s.size) : pass l of (s.data.toList.take (k + 1)) = pass l of (s.data.toList.take k) ++ passC l of s[k] := by
  rw [List.take_succ_eq_append_getElem (by rw [len_str]; exact h)]
  simp [pass]
  rfl
theorem pass_take (l : List UInt8) (of : Nat → Int) (b : List UInt8) (k : Nat) : (pass l of (b.take k)).length ≤ (pass l of b).length := by
  have : pass l of b = pass l of (b.take k) ++ pass l of (b.drop k) := by
    rw [pass, pass, pass, ← List.flatMap_append, List.take_append_drop]
  rw [this]; simp
end Wd
end Go.Proofs.Ytecmfdkhcffpmaa
/- The plain function of the document's 'Unfold'. -/
namespace Go.Proofs.Ytecmfdkhcffpmaa
set_option linter.unusedSimpArgs false
set_option linter.unusedVariables false
namespace Wd
def itemR (l : List UInt8) (i : Nat) : It := ⟨at_ l i == 104, passN l (sizesN l 8) (body l i) 8⟩
def unfoldR (l : List UInt8) : List It := (starts l).map (itemR l)
theorem sizesN_none (l : List UInt8) (f k : Nat) (h : head l (65 + (f : Int)) = none) : sizesN l k f = 0 := by
  induction k with
  | zero => rfl
  | succ k ih => simp only [sizesN, sizesStep, h, ih]
theorem sizesN_head (l : List UInt8) (c : Int) (hu : up c = true) (hp : 0 < sizesN l 8 (c - 65).toNat) : ∃ i, head l c = some i := by
  cases hh : head l c with
  | some i => exact ⟨i, rfl⟩
  | none =>
    simp [up] at hu
    have := sizesN_none l (c - 65).toNat 8 (by rw [show 65 + (((c - 65).toNat : Nat) : Int) = c from by omega]; exact hh)
    omega
end Wd
end Go.Proofs.Ytecmfdkhcffpmaa
