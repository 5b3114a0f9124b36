/- SameU. -/
import Derived.Test.YtecmfdkhcffpmaaB21
/- The program's items are the document's. -/
namespace Go.Proofs.Ytecmfdkhcffpmaa
set_option linter.unusedSimpArgs false
set_option linter.unusedVariables false
namespace Wd
theorem readP_err {l : List UInt8} {x : Int × Int} (h : readP l = .error x) : x.1 ≠ 0 := by
  unfold readP at h
  repeat' (split at h)
  all_goals (cases h)
  all_goals simp
/-- A body with the functions' texts put in. -/
def expC (G : Nat → Fn) (c : UInt8) : List UInt8 := if up (bt c) = true then (G (bt c - 65).toNat).text else [c]
def exp (G : Nat → Fn) (b : List UInt8) : List UInt8 := b.flatMap (expC G)
theorem unf_exp (G : Nat → Fn) (b acc x : List UInt8) (h : unf G b acc = some x) : x = acc ++ exp G b := by
  induction b generalizing acc with
  | nil => simp [unf] at h; simp [exp, h]
  | cons c r ih =>
    unfold unf at h
    split at h
    · next hu =>
      split at h
      · split at h
        · cases h
        · rw [ih _ h]; simp [exp, expC, hu]
      · cases h
    · next hu =>
      split at h
      · cases h
      · rw [ih _ h]; simp [exp, expC, hu]
theorem flatMap_congr {f g : UInt8 → List UInt8} (b : List UInt8) (h : ∀ c ∈ b, f c = g c) : b.flatMap f = b.flatMap g := by
  induction b with
  | nil => rfl
  | cons c r ih => rw [List.flatMap_cons, List.flatMap_cons, h c (by simp), ih (fun x hx => h x (by simp [hx]))]
theorem exp_congr {G H : Nat → Fn} (b : List UInt8) (h : ∀ c ∈ b, up (bt c) = true → H (bt c - 65).toNat = G (bt c - 65).toNat) : exp H b = exp G b := by
  apply flatMap_congr
  intro c hc
  unfold expC
  split
  · next hu => rw [h c hc hu]
  · rfl
theorem readyStep_keep {G : Nat → Fn} {j : Nat} (h : (G j).done = true) (n : Nat) : readyStep G n j = G j := by
  unfold readyStep
  split
  · next hc =>
    have hne : ¬ j = n := fun e => by rw [e, hc.2.1] at h; cases h
    simp only [if_neg hne]
  · rfl
/-- A function that is done has its text out of texts that are done. -/
def Texts (F G : Nat → Fn) : Prop := SameFB G F ∧ ∀ j, (G j).done = true → (∀ c ∈ (F j).body, up (bt c) = true → (G (bt c - 65).toNat).done = true) ∧ ((G j).fits = true → (G j).text = exp G (F j).body)
theorem readyStep_texts {F G : Nat → Fn} (h : Texts F G) (n : Nat) : Texts F (readyStep G n) := by
  refine ⟨readyStep_same h.1 n, ?_⟩
  intro j hd
  have hkeep : ∀ b : List UInt8, (∀ c ∈ b, up (bt c) = true → (G (bt c - 65).toNat).done = true) → (∀ c ∈ b, up (bt c) = true → (readyStep G n (bt c - 65).toNat).done = true) ∧ exp (readyStep G n) b = exp G b := fun b hb =>
    ⟨fun c hc hu => readyStep_done (hb c hc hu) n, exp_congr b (fun c hc hu => readyStep_keep (hb c hc hu) n)⟩
  by_cases hdj : (G j).done = true
  · obtain ⟨h1, h2⟩ := h.2 j hdj
    obtain ⟨k1, k2⟩ := hkeep _ h1
    refine ⟨k1, ?_⟩
    rw [readyStep_keep hdj, k2]
    exact h2
  · by_cases hc : (G n).there = true ∧ (G n).done = false ∧ allDone G (G n).body = true
    · have e0 : readyStep G n = fun j => if j = n then newFn G (G n) else G j := by unfold readyStep; rw [if_pos hc]
      by_cases e : j = n
      · subst e
        have hall := (allDone_iff G (G j).body).1 hc.2.2
        rw [(h.1 j).2] at hall
        obtain ⟨k1, k2⟩ := hkeep _ hall
        refine ⟨k1, ?_⟩
        rw [k2]
        have e1 : readyStep G j j = newFn G (G j) := by rw [e0]; simp
        rw [e1]
        unfold newFn unfold
        rw [(h.1 j).2]
        cases hq : unf G (F j).body [] with
        | none => intro hf; cases hf
        | some x => intro _; simpa using unf_exp G _ [] x hq
      · exfalso
        rw [e0] at hd
        simp only [if_neg e] at hd
        exact hdj hd
    · exfalso
      unfold readyStep at hd
      rw [if_neg hc] at hd
      exact hdj hd
theorem readyTo_texts {F G : Nat → Fn} (h : Texts F G) (n : Nat) : Texts F (readyTo G n) := by
  induction n with
  | zero => exact h
  | succ n ih => exact readyStep_texts ih n
theorem roundsTo_texts {F : Nat → Fn} (hI : Init F) (r : Nat) : Texts F (roundsTo F r) := by
  induction r with
  | zero => exact ⟨fun j => ⟨rfl, rfl⟩, fun j hd => by rw [show roundsTo F 0 = F from rfl, hI.done0 j] at hd; cases hd⟩
  | succ r ih => exact readyTo_texts ih 8
/-- The weight of a body: how long it is, unfolded. -/
def wt (V : Nat → Int) (c : UInt8) : Int := if up (bt c) = true then V (bt c - 65).toNat else 1
def wsum (V : Nat → Int) : List UInt8 → Int
  | [] => 0
  | c :: r => wt V c + wsum V r
theorem wt_lo {V : Nat → Int} (hV : ∀ j, 0 ≤ V j) (c : UInt8) : 0 ≤ wt V c := by
  unfold wt; split
  · exact hV _
  · omega
theorem wsum_lo {V : Nat → Int} (hV : ∀ j, 0 ≤ V j) (b : List UInt8) : 0 ≤ wsum V b := by
  induction b with
  | nil => simp [wsum]
  | cons c r ih => have := wt_lo hV c; simp only [wsum]; omega
theorem wsum_app (V : Nat → Int) (a b : List UInt8) : wsum V (a ++ b) = wsum V a + wsum V b := by
  induction a with
  | nil => simp [wsum]
  | cons c r ih => simp only [List.cons_append, wsum, ih]; omega
theorem sizeFrom_sum {V : Nat → Int} (b : List UInt8) (n : Int) (h : sizeFrom V b n ≤ 300) : sizeFrom V b n = n + wsum V b := by
  induction b generalizing n with
  | nil => simp [sizeFrom, wsum]
  | cons c r ih =>
    have hp : plus V n (bt c) = n + wt V c := by unfold plus wt; split <;> rfl
    simp only [sizeFrom, hp] at h ⊢
    split at h
    · omega
    · next hg =>
      rw [if_neg hg, ih _ h]
      simp only [wsum]; omega
/-- All that is known of a text whose names are right and whose functions do not come back. -/
structure World8 (l : List UInt8) (F G : Nat → Fn) (V : Nat → Int) : Prop where
  pos : ∀ j, 0 ≤ V j
  fix : ∀ j, j < 8 → (F j).there = true → V j = size (F j).body V
  there : ∀ f c, c ∈ (F f).body → up (bt c) = true → (F (bt c - 65).toNat).there = true
  done : ∀ j, j < 8 → (F j).there = true → (G j).done = true
  fits : Fits F V G
  texts : Texts F G
  irr : ∀ i, i < 8 → reach (callB F) i i = false
  body : ∀ c : UInt8, up (bt c) = true → (F (bt c - 65).toNat).there = true → 0 < V (bt c - 65).toNat → passC l V c = (F (bt c - 65).toNat).body
  short : ∀ j, (F j).body.length ≤ 240
def Good (F : Nat → Fn) (V : Nat → Int) (b : List UInt8) : Prop := (∀ c ∈ b, up (bt c) = true → (F (bt c - 65).toNat).there = true) ∧ wsum V b ≤ 300
theorem passC_good {l : List UInt8} {F G : Nat → Fn} {V : Nat → Int} (H : World8 l F G V) (c : UInt8) (hc : up (bt c) = true → (F (bt c - 65).toNat).there = true) (hw : wt V c ≤ 300) :
    wsum V (passC l V c) = wt V c ∧ (∀ x ∈ passC l V c, up (bt x) = true → (F (bt x - 65).toNat).there = true) ∧ exp G (passC l V c) = expC G c ∧ ((passC l V c).length : Int) ≤ 240 * wt V c ∧
    (∀ k, (up (bt c) = true → count (callB F) (bt c - 65).toNat < k + 1) → ∀ x ∈ passC l V c, up (bt x) = true → count (callB F) (bt x - 65).toNat < k) := by
  cases hu : up (bt c) with
  | false =>
    have hne : ¬ up (bt c) = true := by rw [hu]; simp
    have e : passC l V c = [c] := by unfold passC; rw [if_neg hne]
    rw [e]
    refine ⟨by simp [wsum], ?_, by simp [exp], by unfold wt; rw [if_neg hne]; simp, ?_⟩
    · intro x hx hxu; simp at hx; subst hx; exact absurd hxu hne
    · intro k _ x hx hxu; simp at hx; subst hx; exact absurd hxu hne
  | true =>
    have hu' := (up_iff _).1 hu
    have hg : (bt c - 65).toNat < 8 := by omega
    have ht := hc hu
    have hwt : wt V c = V (bt c - 65).toNat := by unfold wt; rw [if_pos hu]
    rw [hwt] at hw ⊢
    obtain ⟨f1, f2⟩ := H.fits.2 _ hg (H.done _ hg ht)
    have hft := f1.2 hw
    have hlen := f2 hft
    have htx := (H.texts.2 _ (H.done _ hg ht)).2 hft
    have hec : expC G c = (G (bt c - 65).toNat).text := by unfold expC; rw [if_pos hu]
    by_cases hp : 0 < V (bt c - 65).toNat
    · have e := H.body c hu ht hp
      rw [e]
      have hfix := H.fix _ hg ht
      unfold size at hfix
      have hsum := sizeFrom_sum (V := V) (F (bt c - 65).toNat).body 0 (by omega)
      refine ⟨by omega, fun x hx hxu => H.there _ x hx hxu, by rw [hec, htx], ?_, ?_⟩
      · have := H.short (bt c - 65).toNat; omega
      · intro k hk x hx hxu
        have hxu' := (up_iff _).1 hxu
        have hgx : (bt x - 65).toNat < 8 := by omega
        have hb : callB F ((bt c - 65).toNat * 8 + (bt x - 65).toNat) = true := by
          rw [callB_at F _ _ hg hgx, callRow_iff]; exact ⟨x, hx, by omega⟩
        have := count_lt H.irr hg hgx hb
        have := hk rfl
        omega
    · have hz : V (bt c - 65).toNat = 0 := by have := H.pos (bt c - 65).toNat; omega
      have e : passC l V c = [] := by unfold passC; rw [if_pos hu, if_neg hp]
      rw [e, hz]
      refine ⟨rfl, by simp, ?_, by simp, by simp⟩
      rw [hec]
      have : (G (bt c - 65).toNat).text.length = 0 := by omega
      rw [List.eq_nil_of_length_eq_zero this]; rfl
theorem pass_good {l : List UInt8} {F G : Nat → Fn} {V : Nat → Int} (H : World8 l F G V) (b : List UInt8) (hb : Good F V b) :
    wsum V (pass l V b) = wsum V b ∧ Good F V (pass l V b) ∧ exp G (pass l V b) = exp G b ∧ ((pass l V b).length : Int) ≤ 240 * wsum V b ∧
    (∀ k, (∀ c ∈ b, up (bt c) = true → count (callB F) (bt c - 65).toNat < k + 1) → ∀ x ∈ pass l V b, up (bt x) = true → count (callB F) (bt x - 65).toNat < k) := by
  induction b with
  | nil => exact ⟨rfl, hb, rfl, by simp [pass, wsum], by simp [pass]⟩
  | cons c r ih =>
    obtain ⟨h1, h2⟩ := hb
    have w1 := wt_lo H.pos c
    have w2 := wsum_lo H.pos r
    simp only [wsum] at h2
    obtain ⟨i1, i2, i3, i4, i5⟩ := ih ⟨fun x hx => h1 x (by simp [hx]), by omega⟩
    obtain ⟨p1, p2, p3, p4, p5⟩ := passC_good H c (h1 c (by simp)) (by omega)
    have e : pass l V (c :: r) = passC l V c ++ pass l V r := rfl
    rw [e]
    refine ⟨by rw [wsum_app, p1, i1]; rfl, ⟨?_, by rw [wsum_app, p1, i1]; omega⟩, ?_, ?_, ?_⟩
    · intro x hx hxu
      simp only [List.mem_append] at hx
      rcases hx with hx | hx
      · exact p2 x hx hxu
      · exact i2.1 x hx hxu
    · have : exp G (passC l V c ++ pass l V r) = exp G (passC l V c) ++ exp G (pass l V r) := by simp [exp]
      rw [this, p3, i3]; rfl
    · simp only [List.length_append, wsum]; omega
    · intro k hk x hx hxu
      simp only [List.mem_append] at hx
      rcases hx with hx | hx
      · exact p5 k (hk c (by simp)) x hx hxu
      · exact i5 k (fun y hy => hk y (by simp [hy])) x hx hxu
theorem passN_good {l : List UInt8} {F G : Nat → Fn} {V : Nat → Int} (H : World8 l F G V) (b : List UInt8) (hb : Good F V b) (hl : b.length ≤ 240) (p : Nat) (hp : p ≤ 8) :
    Good F V (passN l V b p) ∧ exp G (passN l V b p) = exp G b ∧ (passN l V b p).length ≤ 100000 ∧ (∀ c ∈ passN l V b p, up (bt c) = true → count (callB F) (bt c - 65).toNat < 8 - p) := by
  induction p with
  | zero =>
    refine ⟨hb, rfl, by simp only [passN]; omega, ?_⟩
    intro c hc hu
    have hu' := (up_iff _).1 hu
    exact count_bd H.irr (by omega)
  | succ p ih =>
    obtain ⟨i1, i2, i3, i4⟩ := ih (by omega)
    obtain ⟨q1, q2, q3, q4, q5⟩ := pass_good H _ i1
    have := i1.2
    refine ⟨q2, by rw [passN, q3, i2], by simp only [passN]; omega, ?_⟩
    exact q5 (8 - (p + 1)) (fun c hc hu => by have := i4 c hc hu; omega)
theorem passN_exp {l : List UInt8} {F G : Nat → Fn} {V : Nat → Int} (H : World8 l F G V) (b : List UInt8) (hb : Good F V b) (hl : b.length ≤ 240) : passN l V b 8 = exp G b := by
  obtain ⟨i1, i2, i3, i4⟩ := passN_good H b hb hl 8 (by omega)
  rw [← i2]
  have : ∀ c ∈ passN l V b 8, expC G c = [c] := by
    intro c hc
    unfold expC
    rw [if_neg]
    intro hu
    have := i4 c hc hu
    omega
  unfold exp
  rw [flatMap_congr _ this]
  simp
theorem itemsFrom_ok (G : Nat → Fn) (ts : List Part) (hup : ∀ p ∈ ts, up p.letter = false) (acc its : List It) (h : itemsFrom G ts acc = .ok its) :
    its = acc ++ ts.map (fun p => ⟨p.letter == 104, exp G p.body⟩) ∧ ∀ p ∈ ts, ∃ x, unf G p.body [] = some x := by
  induction ts generalizing acc with
  | nil => simp [itemsFrom] at h; simp [h]
  | cons p r ih =>
    have hne : ¬ up p.letter = true := by rw [hup p (by simp)]; simp
    simp only [itemsFrom, if_neg hne, unfold] at h
    cases hq : unf G p.body [] with
    | none => rw [hq] at h; cases h
    | some x =>
      rw [hq] at h
      simp only at h
      obtain ⟨i1, i2⟩ := ih (fun q hq => hup q (by simp [hq])) _ h
      have hx := unf_exp G _ [] x hq
      simp only [List.nil_append] at hx
      refine ⟨by rw [i1, hx]; simp, ?_⟩
      intro q hqm
      simp only [List.mem_cons] at hqm
      rcases hqm with e | e
      · subst e; exact ⟨x, hq⟩
      · exact i2 q e
theorem readP_good {l : List UInt8} {its : List It} (h : readP l = .ok its) : l.length ≤ 240 ∧ its = unfoldR l ∧ its.length ≤ 240 ∧ ∀ i ∈ starts l, ∀ p, p ≤ 8 → (passN l (sizesN l 8) (body l i) p).length ≤ 100000 := by
  by_cases hbig : 240 < l.length
  · rw [readP_long hbig] at h; cases h
  cases hf : fault l with
  | some i => rw [readP_text hbig hf] at h; cases h
  | none =>
    obtain ⟨rs, rfl, hr⟩ := shape_of hf
    have hns := names_same rs hr
    cases hn : misnamed (flat rs) with
    | some i => rw [hn] at hns; rw [readP_name hbig hf hns] at h; cases h
    | none =>
      rw [hn] at hns
      have hrs := round_same rs hr hn
      cases hrd : round (flat rs) with
      | true => rw [hrd] at hrs; rw [readP_round hbig hf hns hrs] at h; cases h
      | false =>
        rw [hrd] at hrs
        cases hq : items (roundsTo (split (flat rs)).F 8) (split (flat rs)).ps with
        | error n => rw [readP_big hbig hf hns hrs hq] at h; cases h
        | ok its' =>
          rw [readP_ok hbig hf hns hrs hq] at h
          cases h
          obtain ⟨hI, hth⟩ := init_of rs hr hn
          have hirr : ∀ i, i < 8 → reach (callB (fnsOf rs)) i i = false := by
            intro i hi
            cases hq2 : reach (callB (fnsOf rs)) i i with
            | false => rfl
            | true =>
              exfalso
              have : round (flat rs) = true := by
                rw [round, calls_same rs hr hn, first_iff]; exact ⟨i, hi, hq2⟩
              rw [this] at hrd; cases hrd
          have hV : ∀ j, 0 ≤ sizesN (flat rs) 8 j := fun j => (sizesN_bd _ 8 j).1
          have hfix := sizes_fix rs hr hn hirr
          have hF := roundsTo_fits hI hV hfix 8
          have hfacts := lay_facts rs [] hr
          simp only [List.nil_append, List.length_nil] at hfacts
          have H : World8 (flat rs) (fnsOf rs) (roundsTo (fnsOf rs) 8) (sizesN (flat rs) 8) := by
            refine ⟨hV, hfix, hI.there, fun j hj ht => roundsTo_done hI hirr 8 j hj ht (count_bd hirr hj), hF, roundsTo_texts hI 8, hirr, ?_, ?_⟩
            · intro c hu ht hp
              have hu' := (up_iff _).1 hu
              unfold passC
              rw [if_pos hu, if_pos hp]
              rcases fns_at rs hr hn (bt c - 65).toNat (by omega) with ⟨p, hpm, _, e, hh, hb⟩ | ⟨e, hh⟩
              · rw [show (65 + (((bt c - 65).toNat : Nat) : Int)) = bt c from by omega] at hh
                rw [hh, e]; exact hb
              · rw [e] at ht; cases ht
            · intro j
              by_cases hj : j < 8
              · rcases fns_at rs hr hn j hj with ⟨p, hpm, _, e, _, _⟩ | ⟨e, _⟩
                · rw [e]
                  have := (hfacts p hpm).2.2.2.2.2
                  simp only; omega
                · rw [e]; simp [fn0]
              · rw [fns_big rs j hj]; simp [fn0]
          rw [split_of rs hr] at hq
          have hq' : itemsFrom (roundsTo (fnsOf rs) 8) (tops (lay 0 rs)) [] = .ok its := by rw [← itemsFrom_tops]; exact hq
          have hup : ∀ p ∈ tops (lay 0 rs), up p.letter = false := fun p hp => by simp [tops] at hp; exact hp.2
          have hin : ∀ p ∈ tops (lay 0 rs), p ∈ lay 0 rs := fun p hp => by simp only [tops, List.mem_filter] at hp; exact hp.1
          obtain ⟨t1, t2⟩ := itemsFrom_ok _ _ hup _ _ hq'
          have hgood : ∀ p ∈ tops (lay 0 rs), Good (fnsOf rs) (sizesN (flat rs) 8) p.body ∧ p.body.length ≤ 240 := by
            intro p hp
            have hpl := hin p hp
            refine ⟨⟨fun c hc hu => hth p hpl c hc hu, ?_⟩, by have := (hfacts p hpl).2.2.2.2.2; omega⟩
            obtain ⟨x, hx⟩ := t2 p hp
            obtain ⟨u1, u2⟩ := unf_size hF hV p.body [] (fun c hc hu => by
              have hu' := (up_iff _).1 hu
              exact roundsTo_done hI hirr 8 _ (by omega) (hth p hpl c hc hu) (count_bd hirr (by omega))) (by simp)
            simp only [List.length_nil, Int.natCast_zero] at u1 u2
            have hle : sizeFrom (sizesN (flat rs) 8) p.body 0 ≤ 300 := by
              apply Classical.byContradiction
              intro hgt
              rw [u2 (by omega)] at hx; cases hx
            have := sizeFrom_sum (V := sizesN (flat rs) 8) p.body 0 hle
            omega
          have hst := starts_of rs hr
          refine ⟨by omega, ?_, ?_, ?_⟩
          · rw [t1, List.nil_append, unfoldR, hst, List.map_map]
            apply List.map_congr_left
            intro p hp
            obtain ⟨f1, f2, _⟩ := hfacts p (hin p hp)
            obtain ⟨g1, g2⟩ := hgood p hp
            simp only [Function.comp, itemR, f1, f2, passN_exp H p.body g1 g2]
          · rw [t1]
            have := startsTo_len (flat rs) (flat rs).length
            have e2 : (starts (flat rs)).length = (tops (lay 0 rs)).length := by rw [hst]; simp
            have e3 : (starts (flat rs)).length ≤ (flat rs).length := this
            simp only [List.nil_append, List.length_map]; omega
          · intro i hi p hp
            rw [hst, List.mem_map] at hi
            obtain ⟨q, hq2, rfl⟩ := hi
            obtain ⟨g1, g2⟩ := hgood q hq2
            rw [(hfacts q (hin q hq2)).2.1]
            exact (passN_good H q.body g1 g2 p hp).2.2.1
end Wd
end Go.Proofs.Ytecmfdkhcffpmaa
