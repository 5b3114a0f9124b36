/- KpT, MacB. -/
import Derived.Test.YtecmfdkhcffpmabB16
import Derived.Test.YtecmfdkhcffpmabRows
import Derived.WalkKit
import Derived.WalkSpells
import Derived.WalkLawsBesides
import Derived.Test.YtecmfdkhcffpmabB02
/- Plain: what goes wrong on the machine is told: the top promise. -/
namespace Go.Proofs.Ytecmfdkhcffpmab
open Go.RowKit
set_option linter.unusedSimpArgs false
set_option linter.unusedVariables false
open Mc
namespace Mc
open Wd
/-- There is a report of an item by itself, of this kind. -/
def Solo (its : List It) (k : Int) : Prop := ∃ i p, i < its.length ∧ p < (bodyOf its i).length + 1 ∧ BadAt (isH its i) (bodyOf its i) k p
/-- There is a ring. -/
def RingW (its : List It) : Prop := ∃ l, l < 6 ∧ Way (edgeS its) 6 l l
def RaceW (its : List It) : Prop := ∃ c, c < 4 ∧ Race its c
theorem eg_way {its : List It} {l m : Nat} (h : Eg its l m) : edgeS its l m = true := by simp [edgeS, h]
theorem Rch.place {b : List UInt8} (hg : GB b) {hd : Bool} {s : St3} (h : Rch hd b s) : s.1 < b.length + 1 := by
  have := (h.ok hg).2.le; omega
theorem solo_of {its : List It} (hf : Fine its) {S : Ma} (h : All3 its S) {c : Nat} (hc : c < 3) (hth : (works S c).there = true) {v k : Int} (hv : faultP (isH its (works S c).item) (bodyOf its (works S c).item) (works S c).pos (works S c).held (frOff S c) = v) (hk : kindP v = k) : Solo its k := by
  have hfr := works_fr h.inv c hc
  have hR := h.si.works h.inv c hc hth
  refine ⟨(works S c).item, (works S c).pos, hfr.item hth, hR.place (hf.gb (hfr.item hth)), _, _, hR, ?_⟩
  show kindP (faultP _ _ _ _ _) = k
  simp only
  rw [hv]; exact hk
theorem held_six {its : List It} {S : Ma} (hi : Inv its 3 S) {c : Nat} (hc : c < 3) {l : Nat} (h : cpHolds (S.cp c) l = true) : l < 6 := by
  simp only [cpHolds, Bool.or_eq_true] at h
  rcases h with h | h
  · exact bit_six (hi.t c hc).held h
  · exact bit_six (hi.h c hc).held h
/-- A processor that holds l and wants m makes an edge. -/
theorem edge_at {its : List It} (hf : Fine its) {S : Ma} (h : All3 its S) {d : Nat} (hd : d < 3) {l m : Nat} (hth : (works S d).there = true) (e : atB (bodyOf its (works S d).item) (works S d).pos = 43) (hm : (num (bodyOf its (works S d).item) (works S d).pos).toNat = m) (hl : cpHolds (S.cp d) l = true) (hno : holds (works S d).held m = false) : Eg its l m := by
  have hfr := works_fr h.inv d hd
  have hit := hfr.item hth
  have hg := hf.gb hit
  have hR := h.si.works h.inv d hd hth
  have hn := num_lockB hg.pair (Or.inl e)
  have htk : (tkP (bodyOf its (works S d).item) (works S d).pos (works S d).held).testBit m = true := by
    have hb : hasB (works S d).held (numP (bodyOf its (works S d).item) (works S d).pos) = false := by
      rw [hasB_num hg.pair (Or.inl e), hm]; exact hno
    have e2 : numP (bodyOf its (works S d).item) (works S d).pos = num (bodyOf its (works S d).item) (works S d).pos := by unfold numP; rw [if_pos (Or.inl e)]
    unfold tkP
    rw [if_pos ⟨e, hb⟩, e2, hm]
    simp
  by_cases hw : holds (works S d).held l = true
  · exact Or.inl ⟨_, hit, _, hR, hw, htk⟩
  · right
    have hw : holds (works S d).held l = false := by simpa using hw
    simp only [cpHolds, Bool.or_eq_true] at hl
    have hht : (S.cp d).h.there = true := by
      cases hq : (S.cp d).h.there
      · exfalso
        rw [works_t hq] at hw
        have hn := (h.inv.h d hd).none hq
        rcases hl with hl | hl
        · rw [hw] at hl; cases hl
        · rw [hn] at hl; simp [noFr, holds] at hl
      · rfl
    rw [works_h hht] at hw
    have hl : holds (S.cp d).t.held l = true := by
      rcases hl with hl | hl
      · exact hl
      · rw [hw] at hl; cases hl
    have htt : (S.cp d).t.there = true := by
      cases hq : (S.cp d).t.there
      · have hn := (h.inv.t d hd).none hq
        rw [hn] at hl; simp [noFr, holds] at hl
      · rfl
    have hRt := h.si.t d htt
    rw [h.si.off d hht] at hRt
    have hkt := (h.inv.t d hd).kind htt
    refine ⟨⟨(S.cp d).t.item, (h.inv.t d hd).item htt, hkt, ((S.cp d).t.pos, (S.cp d).t.held, false), ?_, ?_, ?_⟩, ⟨(works S d).item, hit, ?_, _, hR, htk⟩⟩
    · rw [hkt]; exact hRt
    · rfl
    · exact hl
    · rw [hfr.kind hth]; exact hht
theorem holderFrom_some {S : Ma} {l : Nat} : ∀ (m k d : Nat), holderFrom S l k m = some d → cpHolds (S.cp d) l = true
  | 0, _, _, h => by cases h
  | m + 1, k, d, h => by
    rw [holderFrom] at h
    split at h
    · rename_i e; cases h; exact e
    · exact holderFrom_some m (k + 1) d h
theorem holder_some {S : Ma} {n l d : Nat} (h : holder S n l = some d) : cpHolds (S.cp d) l = true := holderFrom_some n 0 d h
theorem wants_some {its : List It} {f : Fr} {m : Nat} (h : wantsF its f = some m) : f.there = true ∧ atB (bodyOf its f.item) f.pos = 43 ∧ (num (bodyOf its f.item) f.pos).toNat = m := by
  unfold wantsF stands at h
  by_cases ht : f.there = true
  · rw [if_pos ht] at h
    split at h
    · rename_i e; exact ⟨ht, e, by simpa using h⟩
    · cases h
  · rw [if_neg ht] at h; simp at h
theorem leadsTo_stuck {its : List It} {S : Ma} {c d : Nat} (hne : d ≠ c) (hd : nx its S d = some d) : ∀ m, leadsTo its S c m (some d) = false
  | 0 => rfl
  | m + 1 => by rw [leadsTo, if_neg hne, hd]; exact leadsTo_stuck hne hd m
theorem works_holds {S : Ma} {d m : Nat} (h : cpHolds (S.cp d) m = false) : holds (works S d).held m = false := by
  simp only [cpHolds, Bool.or_eq_false_iff] at h
  unfold works
  split
  · exact h.2
  · exact h.1
/-- Those who hold and want lead from lock to lock. -/
theorem leads_way {its : List It} (hf : Fine its) {S : Ma} (h : All3 its S) {c : Nat} (hc : c < 3) : ∀ (m d l : Nat), d < 3 → leadsTo its S c m (some d) = true → cpHolds (S.cp d) l = true → ∃ l', cpHolds (S.cp c) l' = true ∧ (l' = l ∨ Way (edgeS its) 6 l l')
  | 0, d, l, hd, hl, hh => by cases hl
  | m + 1, d, l, hd, hl, hh => by
    rw [leadsTo] at hl
    split at hl
    · rename_i e; subst e; exact ⟨l, hh, Or.inl rfl⟩
    · rename_i hne
      cases hw : wantsF its (works S d) with
      | none =>
        have : nx its S d = none := by unfold nx; rw [hw]; rfl
        rw [this] at hl
        cases m <;> cases hl
      | some w =>
        cases ho : holder S 3 w with
        | none =>
          have : nx its S d = none := by unfold nx; rw [hw]; exact ho
          rw [this] at hl
          cases m <;> cases hl
        | some d' =>
          have hnx : nx its S d = some d' := by unfold nx; rw [hw]; exact ho
          rw [hnx] at hl
          obtain ⟨w1, w2, w3⟩ := wants_some hw
          have hd' := holder_some ho
          have hdd : d' ≠ d := by
            intro e
            rw [e] at hnx hl
            rw [leadsTo_stuck hne hnx m] at hl; cases hl
          have hno : cpHolds (S.cp d) w = false := by
            cases hq : cpHolds (S.cp d) w
            · rfl
            · exact absurd (h.si.one w d' d hd' hq) hdd
          have hE := edge_at hf h hd w1 w2 w3 hh (works_holds hno)
          have hw6 : w < 6 := held_six h.inv (holder_in ho) hd'
          obtain ⟨l', h1, h2⟩ := leads_way hf h hc m d' w (holder_in ho) hl hd'
          refine ⟨l', h1, Or.inr ?_⟩
          rcases h2 with h2 | h2
          · rw [h2]; exact .one (eg_way hE)
          · exact .more (eg_way hE) hw6 h2
theorem way_snoc {T : Tb} {i x j : Nat} (h : Way T 6 i x) (hx : x < 6) (e : T x j = true) : Way T 6 i j := h.join hx (.one e)
/-- D and W at a lock. -/
theorem wait_told {its : List It} (hf : Fine its) {S : Ma} (h : All3 its S) {c : Nat} (hc : c < 3) (hth : (works S c).there = true) (e : atB (bodyOf its (works S c).item) (works S c).pos = 43) :
    (waitP its S c (num (bodyOf its (works S c).item) (works S c).pos).toNat = 68 → Solo its 1 ∨ RingW its) ∧ (waitP its S c (num (bodyOf its (works S c).item) (works S c).pos).toNat = 87 → RingW its) := by
  have hfr := works_fr h.inv c hc
  have hg := hf.gb (hfr.item hth)
  have hn := num_lockB hg.pair (Or.inl e)
  unfold waitP
  cases hl : holder S 3 (num (bodyOf its (works S c).item) (works S c).pos).toNat with
  | none => exact ⟨fun x => (by cases x), fun x => (by cases x)⟩
  | some d =>
    simp only
    have hd := holder_some hl
    by_cases e1 : d = c
    · subst e1
      simp only [if_true]
      refine ⟨fun _ => ?_, fun x => (by simp at x)⟩
      by_cases hw : holds (works S d).held (num (bodyOf its (works S d).item) (works S d).pos).toNat = true
      · left
        refine solo_of hf h hc hth (v := 68) ?_ rfl
        unfold faultP
        rw [if_pos e, hasB_num hg.pair (Or.inl e), hw]; rfl
      · right
        have hE := edge_at hf h hc hth e rfl hd (by simpa using hw)
        exact ⟨_, by omega, .one (eg_way hE)⟩
    · simp only [e1, if_false]
      refine ⟨fun x => ?_, fun x => ?_⟩
      · split at x <;> cases x
      · split at x
        · rename_i hq
          have hno : cpHolds (S.cp c) (num (bodyOf its (works S c).item) (works S c).pos).toNat = false := by
            cases hq : cpHolds (S.cp c) (num (bodyOf its (works S c).item) (works S c).pos).toNat
            · rfl
            · exact absurd (h.si.one _ d c hd hq) e1
          obtain ⟨l', h1, h2⟩ := leads_way hf h hc 3 d _ (holder_in hl) hq hd
          have hE := edge_at hf h hc hth e rfl h1 (works_holds hno)
          have hl6 := held_six h.inv hc h1
          rcases h2 with h2 | h2
          · rw [h2, hno] at h1; cases h1
          · exact ⟨_, by omega, way_snoc h2 hl6 (eg_way hE)⟩
        · cases x
theorem clashFrom_some {its : List It} {S : Ma} {c : Nat} {x own : Int} : ∀ (m d : Nat), clashFrom its S c x own d m = true → ∃ k, d ≤ k ∧ k < d + m ∧ clashAt its S c x own k = true
  | 0, _, h => by cases h
  | m + 1, d, h => by
    rw [clashFrom] at h
    split at h
    · rename_i e; exact ⟨d, Nat.le_refl _, by omega, e⟩
    · obtain ⟨k, h1, h2, h3⟩ := clashFrom_some m (d + 1) h
      exact ⟨k, by omega, by omega, h3⟩
theorem num_cell {b : List UInt8} (hok : PairOK b) {p : Nat} (h : atB b p = 114 ∨ atB b p = 119) : 0 ≤ num b p ∧ num b p < 4 := by
  have hp : p < b.length := atB_lt (by rcases h with h | h <;> rw [h] <;> decide)
  simp only [atB, hp, if_true] at h
  obtain ⟨h1, h2, h3⟩ := (hok p hp).2 h
  rw [num, if_pos h1, if_neg (by omega)]; omega
theorem and_zero {x y : Nat} (h : ∀ l, x.testBit l = true → y.testBit l = true → False) : x &&& y = 0 := by
  apply Nat.eq_of_testBit_eq
  intro l
  rw [Nat.testBit_and, Nat.zero_testBit]
  cases e : x.testBit l
  · rfl
  · cases e2 : y.testBit l
    · rfl
    · exact (h l e e2).elim
theorem works_cp {S : Ma} {c l : Nat} (h : holds (works S c).held l = true) : cpHolds (S.cp c) l = true := by
  simp only [cpHolds, Bool.or_eq_true]
  unfold works at h
  split at h
  · exact Or.inr h
  · exact Or.inl h
theorem clash_told {its : List It} (hf : Fine its) {S : Ma} (h : All3 its S) {c : Nat} (hc : c < 3) (hth : (works S c).there = true) (e : atB (bodyOf its (works S c).item) (works S c).pos = 114 ∨ atB (bodyOf its (works S c).item) (works S c).pos = 119) (hcl : clash its S 3 c (works S c) = true) : RaceW its := by
  obtain ⟨d, _, hd, hk⟩ := clashFrom_some 3 0 hcl
  have hd : d < 3 := by omega
  unfold clashAt at hk
  simp only [Bool.and_eq_true, Bool.or_eq_true, decide_eq_true_eq] at hk
  obtain ⟨⟨hne, hs⟩, hx, hw⟩ := hk
  have hthd : (works S d).there = true := by
    cases hq : (works S d).there
    · unfold stands at hs; rw [if_neg (by rw [hq]; decide)] at hs; omega
    · rfl
  have est : stands its (works S d) = atB (bodyOf its (works S d).item) (works S d).pos := by unfold stands; rw [if_pos hthd]
  rw [est] at hs hw
  have hfc := works_fr h.inv c hc
  have hfd := works_fr h.inv d hd
  have hgc := hf.gb (hfc.item hth)
  have hgd := hf.gb (hfd.item hthd)
  have hRc := h.si.works h.inv c hc hth
  have hRd := h.si.works h.inv d hd hthd
  have hnc := num_cell hgc.pair e
  have hnd := num_cell hgd.pair hs
  have eP : ∀ {b : List UInt8} {p : Nat}, (atB b p = 114 ∨ atB b p = 119) → numP b p = num b p := fun {b p} hb => by unfold numP; rw [if_pos (by omega)]
  have hdis : ∀ l, holds (works S c).held l = true → holds (works S d).held l = true → False := fun l h1 h2 => hne (h.si.one l d c (works_cp h2) (works_cp h1))
  have hij : (works S c).item = (works S d).item → isH its (works S c).item = true := by
    intro ei
    have k1 := hfc.kind hth
    have k2 := hfd.kind hthd
    cases hq : isH its (works S c).item
    · exfalso
      rw [hq] at k1
      rw [← ei, hq] at k2
      have w1 := works_t k1.symm
      have w2 := works_t k2.symm
      rw [w1] at hth ei
      rw [w2] at hthd ei
      exact hne (h.si.u1 d c hthd hth ei.symm)
    · rfl
  have hcc : (((num (bodyOf its (works S c).item) (works S c).pos).toNat : Nat) : Int) = num (bodyOf its (works S c).item) (works S c).pos := by omega
  have hA1 : AtC (bodyOf its (works S c).item) (num (bodyOf its (works S c).item) (works S c).pos).toNat (works S c).pos := ⟨e, by rw [eP e, hcc]⟩
  have hA2 : AtC (bodyOf its (works S d).item) (num (bodyOf its (works S c).item) (works S c).pos).toNat (works S d).pos := ⟨hs, by rw [eP hs, hcc, hx]⟩
  refine ⟨(num (bodyOf its (works S c).item) (works S c).pos).toNat, by omega, ?_⟩
  rcases hw with hw | hw
  · exact ⟨_, _, hfc.item hth, hfd.item hthd, hij, _, _, hRc, hRd, ⟨hA1, hw⟩, hA2, and_zero hdis⟩
  · exact ⟨_, _, hfd.item hthd, hfc.item hth, fun ei => by rw [ei]; exact hij ei.symm, _, _, hRd, hRc, ⟨hA2, hw⟩, hA1, and_zero fun l h1 h2 => hdis l h2 h1⟩
/-- What is told of a letter. -/
structure Told (its : List It) (t : Int) : Prop where
  d : t = 68 → Solo its 1 ∨ RingW its
  u : t = 85 → Solo its 2
  s : t = 83 → Solo its 3
  e : t = 69 → Solo its 4
  i : t = 73 → Solo its 5
  w : t = 87 → RingW its
  r : t = 82 → RaceW its
theorem Told.plain {its : List It} {t : Int} (h : bad t = false) : Told its t := by
  have : ∀ x : Int, bad x = true → t ≠ x := fun x hx e => by rw [e, hx] at h; cases h
  exact ⟨fun e => absurd e (this _ rfl), fun e => absurd e (this _ rfl), fun e => absurd e (this _ rfl), fun e => absurd e (this _ rfl), fun e => absurd e (this _ rfl), fun e => absurd e (this _ rfl), fun e => absurd e (this _ rfl)⟩
theorem stands_bad {v : Int} (h : Stands v) : bad v = false := by
  unfold Stands at h
  rcases h with h | h | h | h | h | h | h | h | h | h | h | h | h <;> rw [h] <;> rfl
theorem told_step {its : List It} (hf : Fine its) {S : Ma} (h : All3 its S) (c : Nat) (hc : c < 3) (comma : Bool) : Told its (step its S 3 c comma).1 := by
  rw [← stepM_eq hf h.inv h.ats h.rest c hc comma]
  unfold stepM
  simp only
  by_cases hth0 : (works S c).there = false
  · rw [if_pos hth0]; exact Told.plain rfl
  have hth : (works S c).there = true := by simpa using hth0
  rw [if_neg hth0]
  have hfr := works_fr h.inv c hc
  have hg := hf.gb (hfr.item hth)
  have hst := hg.stands (h.ats.works c hc hth)
  by_cases hh : hindP its S c (works S c) ≠ 0
  · rw [if_pos hh]
    simp only
    unfold hindP at hh ⊢
    by_cases e43 : atB (bodyOf its (works S c).item) (works S c).pos = 43
    · rw [if_pos e43]
      have hw := wait_told hf h hc hth e43
      have hv : waitP its S c (num (bodyOf its (works S c).item) (works S c).pos).toNat = 0 ∨ waitP its S c (num (bodyOf its (works S c).item) (works S c).pos).toNat = 68 ∨ waitP its S c (num (bodyOf its (works S c).item) (works S c).pos).toNat = 87 ∨ waitP its S c (num (bodyOf its (works S c).item) (works S c).pos).toNat = 58 := by
        unfold waitP
        split
        · simp
        · split
          · simp
          · split <;> simp
      generalize waitP its S c (num (bodyOf its (works S c).item) (works S c).pos).toNat = v at hw hv
      exact ⟨hw.1, fun e => by omega, fun e => by omega, fun e => by omega, fun e => by omega, hw.2, fun e => by omega⟩
    · rw [if_neg e43] at hh ⊢
      by_cases ec : atB (bodyOf its (works S c).item) (works S c).pos = 114 ∨ atB (bodyOf its (works S c).item) (works S c).pos = 119
      · rw [if_pos ec] at hh ⊢
        by_cases hcl : clash its S 3 c (works S c) = true
        · rw [if_pos hcl]
          have := clash_told hf h hc hth ec hcl
          exact ⟨fun e => by omega, fun e => by omega, fun e => by omega, fun e => by omega, fun e => by omega, fun e => by omega, fun _ => this⟩
        · rw [if_neg hcl] at hh; exact absurd rfl hh
      · rw [if_neg ec] at hh; exact absurd rfl hh
  rw [if_neg hh]
  have hletter : Told its (stepS (isH its (works S c).item) (bodyOf its (works S c).item) (works S c).pos (works S c).held (frOff S c) comma).2 := by
    unfold stepS
    by_cases hq : faultP (isH its (works S c).item) (bodyOf its (works S c).item) (works S c).pos (works S c).held (frOff S c) = 0
    · rw [if_pos hq]
      exact Told.plain (stands_bad hst)
    · rw [if_neg hq]
      simp only
      have hs := fun (v k : Int) hv hk => solo_of hf h hc hth (v := v) (k := k) hv hk
      have hv := faultP_vals (isH its (works S c).item) (bodyOf its (works S c).item) (works S c).pos (works S c).held (frOff S c)
      generalize faultP (isH its (works S c).item) (bodyOf its (works S c).item) (works S c).pos (works S c).held (frOff S c) = v at hs hv hq
      exact ⟨fun e => Or.inl (hs 68 1 e rfl), fun e => hs 85 2 e rfl, fun e => hs 83 3 e rfl, fun e => hs 69 4 e rfl, fun e => hs 73 5 e rfl, fun e => by omega, fun e => by omega⟩
  split
  · exact Told.plain rfl
  split
  · exact Told.plain rfl
  · exact hletter
theorem told_command {its : List It} (hf : Fine its) {S : Ma} (h : All3 its S) (c : Nat) (hc : c < 3) (what : Int) : Told its (command its S 3 c what).1 := by
  unfold Mc.command
  split
  · exact told_step hf h c hc _
  split
  · unfold comes
    repeat' split
    all_goals exact Told.plain rfl
  split <;> exact Told.plain rfl
/-- Whatever letter comes: it is told. -/
theorem told_trace {its : List It} (hf : Fine its) (n : Nat) (hn : n ≤ 3) : ∀ (s : List UInt8) (S : Ma), All3 its S → Rest n S → scriptB n s = true → ∀ c ∈ traceB its n S s, Told its (bt c)
  | [], S, _, _, _, c, hc => by simp [traceB] at hc
  | [_], S, _, _, _, c, hc => by simp [traceB] at hc
  | a :: o :: r, S, h, hr, hs, c, hc => by
    rw [scriptB] at hs
    simp only [Bool.and_eq_true, decide_eq_true_eq] at hs
    obtain ⟨⟨⟨h1, h2⟩, h3⟩, h4⟩ := hs
    have hcn : (bt a - 48).toNat < n := by omega
    rw [traceB, List.mem_cons] at hc
    have e := command_three (its := its) hr hn _ hcn (bt o)
    rcases hc with hc | hc
    · rw [hc, bt_letter, e]
      exact told_command hf h _ (by omega) _
    · split at hc
      · cases hc
      · rw [e] at hc
        exact told_trace hf n hn r _ (h.command hf _ (by omega) _) (hr.command 3 _ hcn _) h4 c hc
/-- A report's kind is there. -/
def hasK (l : List Rp) (k : Int) : Bool := l.any (fun r => r.1 == k)
theorem solo_has {its : List It} {k : Nat} (hk : 1 ≤ k) (hk5 : k ≤ 5) (h : Solo its k) : hasK (analyseS its) k = true := by
  obtain ⟨i, p, hi, hp, hb⟩ := h
  unfold hasK
  rw [List.any_eq_true]
  refine ⟨((k : Int), (i : Int), (p : Int)), ?_, by simp⟩
  unfold analyseS
  rw [List.mem_append, List.mem_append]
  left; left
  unfold soloS solos
  rw [List.mem_flatMap]
  refine ⟨k - 1, by simp; omega, ?_⟩
  rw [show k - 1 + 1 = k by omega]
  unfold soloK
  rw [List.mem_flatMap]
  refine ⟨i, by simpa using hi, ?_⟩
  unfold soloRow
  rw [List.mem_map]
  refine ⟨p, ?_, rfl⟩
  rw [List.mem_filter]
  exact ⟨by simpa using hp, by simpa using hb⟩
theorem ring_has {its : List It} (h : RingW its) : hasK (analyseS its) 6 = true := by
  obtain ⟨l, hl, hw⟩ := h
  unfold hasK
  rw [List.any_eq_true]
  refine ⟨(6, -1, (l : Int)), ?_, by simp⟩
  unfold analyseS
  rw [List.mem_append, List.mem_append]
  left; right
  unfold ringL
  rw [List.mem_map]
  refine ⟨l, ?_, rfl⟩
  rw [List.mem_filter]
  exact ⟨by simpa using hl, (fwK_way _ 6 (Nat.le_refl _) l l hl hl).2 hw⟩
theorem race_has {its : List It} (h : RaceW its) : hasK (analyseS its) 7 = true := by
  obtain ⟨c, hc, hr⟩ := h
  unfold hasK
  rw [List.any_eq_true]
  refine ⟨(7, -1, (c : Int)), ?_, by simp⟩
  unfold analyseS
  rw [List.mem_append]
  right
  unfold raceS raceL
  rw [List.mem_map]
  refine ⟨c, ?_, rfl⟩
  rw [List.mem_filter]
  exact ⟨by simpa using hc, by simpa using hr⟩
/-- Is a letter foreseen? -/
def warnedP (l : List Rp) (t : Int) : Bool :=
  if t = 68 then hasK l 1 || hasK l 6 else if t = 85 then hasK l 2 else if t = 83 then hasK l 3 else if t = 69 then hasK l 4
  else if t = 73 then hasK l 5 else if t = 87 then hasK l 6 else if t = 82 then hasK l 7 else true
theorem warned_told {its : List It} {t : Int} (h : Told its t) : warnedP (analyseS its) t = true := by
  unfold warnedP
  split
  · rename_i e
    rw [Bool.or_eq_true]
    rcases h.d e with h | h
    · exact Or.inl (solo_has (k := 1) (by decide) (by decide) h)
    · exact Or.inr (ring_has h)
  split
  · rename_i e; exact solo_has (k := 2) (by decide) (by decide) (h.u e)
  split
  · rename_i e; exact solo_has (k := 3) (by decide) (by decide) (h.s e)
  split
  · rename_i e; exact solo_has (k := 4) (by decide) (by decide) (h.e e)
  split
  · rename_i e; exact solo_has (k := 5) (by decide) (by decide) (h.i e)
  split
  · rename_i e; exact ring_has (h.w e)
  split
  · rename_i e; exact race_has (h.r e)
  · rfl
/-- The bad letter at the end of a trace, or 0. -/
def lastP (t : List UInt8) : Int := match t.getLast? with
  | none => 0
  | some c => if bad (bt c) = true then bt c else 0
theorem sound_plain {its : List It} (hf : Fine its) (n : Nat) (hn : n ≤ 3) (s : List UInt8) (hs : scriptB n s = true) : warnedP (analyseS its) (lastP (traceB its n (begin_ its) s)) = true := by
  apply warned_told
  unfold lastP
  split
  · exact Told.plain rfl
  · rename_i c hc
    split
    · exact told_trace hf n hn s _ (All3.begin_ its) (Rest.begin_ its n) hs c (List.mem_of_getLast? hc)
    · exact Told.plain rfl
end Mc
end Go.Proofs.Ytecmfdkhcffpmab
/- Contracts of the document's machine: what stands at a place, the place behind it, locks in a number. -/
namespace Go.Proofs.Ytecmfdkhcffpmab
open Go.RowKit
set_option linter.unusedSimpArgs false
set_option linter.unusedVariables false
set_option maxHeartbeats 800000

theorem ret_bool {a b : Bool} (h : a = b) : Ending.returned (.bool a) = .returned (.bool b) := by rw [h]
theorem atB_in (s : ByteArray) (p : Nat) (h : p < s.size) : Mc.atB s.data.toList p = ((s[p].toNat : Nat) : Int) := by
  rw [Mc.atB, Wd.len_str, if_pos h, Wd.at_str s p h]
theorem atB_out (s : ByteArray) (p : Nat) (h : ¬ p < s.size) : Mc.atB s.data.toList p = 101 := by
  rw [Mc.atB, Wd.len_str, if_neg h]
end Go.Proofs.Ytecmfdkhcffpmab
