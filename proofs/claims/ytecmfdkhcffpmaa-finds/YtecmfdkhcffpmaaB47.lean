/- KpV, KpW. -/
import Derived.Test.YtecmfdkhcffpmaaB45
import Derived.Test.YtecmfdkhcffpmaaB46
import Derived.Test.YtecmfdkhcffpmaaB44
/- Plain: the script along a way makes the machine go wrong just so. -/
namespace Go.Proofs.Ytecmfdkhcffpmaa
open Go.RowKit
set_option linter.unusedSimpArgs false
set_option linter.unusedVariables false
open Mc
namespace Mc
open Wd
/-- A way of states, each another than the one before. -/
inductive Chn (hd : Bool) (b : List UInt8) : St3 → List Rc → St3 → Prop
  | nil (s : St3) : Chn hd b s [] s
  | cons {s t : St3} (r : Rc) (rs : List Rc) (h : r.st = stp hd b s r.comma) (hne : r.st ≠ s) (hr : Chn hd b r.st rs t) : Chn hd b s (r :: rs) t
theorem Chn.snoc {hd : Bool} {b : List UInt8} {s t : St3} {rs : List Rc} (h : Chn hd b s rs t) (r : Rc) (h1 : r.st = stp hd b t r.comma) (h2 : r.st ≠ t) : Chn hd b s (rs ++ [r]) r.st := by
  induction h with
  | nil s => exact .cons r [] h1 h2 (.nil _)
  | cons q qs a c hq ih => exact .cons q _ a c (ih h1 h2)
theorem chn_way {hd : Bool} {b : List UInt8} {L : List Rc} (hF : RFin hd b L) : ∀ (j : Nat) (r : Rc), L[j]? = some r → Chn hd b (0, 0, hd) (wayP L j) r.st := by
  have hfr := hF.fr
  obtain ⟨i, f, hI, _⟩ := hF
  intro j
  induction j using Nat.strongRecOn with
  | ind j ih =>
    intro r hr
    by_cases h0 : j = 0
    · subst h0
      rw [hI.head] at hr
      cases hr
      unfold wayP
      rw [wayBack_zero]
      exact .nil _
    · obtain ⟨q, h1, h2, h3⟩ := hI.back j r (by omega) hr
      have e : wayP L j = wayP L r.fr ++ [r] := by
        unfold wayP
        cases j with
        | zero => exact absurd rfl h0
        | succ n => rw [wayBack_step h0 hr, wayBack_more hfr n r.fr r.fr (by omega) (Nat.le_refl _), List.reverse_cons]
      rw [e]
      refine (ih r.fr h1 q h2).snoc r h3 (fun hst => ?_)
      have hs : r.sn = q.sn := by
        have e1 : r.p = q.p ∧ r.h = q.h ∧ r.off = q.off := by simpa [Rc.st] using hst
        unfold Rc.sn
        rw [e1.1, e1.2.1, e1.2.2]
      have n1 : (L.map Rc.sn)[j]? = some r.sn := by rw [List.getElem?_map, hr]; rfl
      have n2 : (L.map Rc.sn)[r.fr]? = some r.sn := by rw [List.getElem?_map, h2, hs]; rfl
      have hj1 := (List.getElem?_eq_some_iff.1 n1).1
      have hj2 := (List.getElem?_eq_some_iff.1 n2).1
      have e1 := (List.getElem?_eq_some_iff.1 n1).2
      have e2 := (List.getElem?_eq_some_iff.1 n2).2
      exact absurd (e2.trans e1.symm) (List.pairwise_iff_getElem.1 hI.nd r.fr j hj2 hj1 h1)
/-- The machine on which item i alone is at work, at this state. -/
structure AtS (its : List It) (i : Nat) (s : St3) (S : Ma) : Prop where
  all : All3 its S
  rest : Rest 1 S
  wk : works S 0 = ⟨true, i, s.1, s.2.1⟩
  off : frOff S 0 = s.2.2
  h : (S.cp 0).h.there = isH its i
  oth : if isH its i = true then (S.cp 0).t = noFr ∧ (S.cp 0).off = false else (S.cp 0).h = noFr
theorem AtS.free {its : List It} {i : Nat} {s : St3} {S : Ma} (h : AtS its i s S) {l : Nat} (hl : holds s.2.1 l = false) : holder S 3 l = none := by
  cases hq : holder S 3 l with
  | none => rfl
  | some d =>
    exfalso
    have hd := holder_some hq
    have e0 : d = 0 := by
      cases d with
      | zero => rfl
      | succ d => rw [h.rest (d + 1) (by omega), cpHolds_no] at hd; cases hd
    subst e0
    have hw := h.wk
    have ho := h.oth
    simp only [cpHolds, Bool.or_eq_true] at hd
    cases hh : isH its i
    · rw [hh] at ho
      simp only [Bool.false_eq_true, if_false] at ho
      have hht := h.h
      rw [hh] at hht
      rw [works_t hht] at hw
      rw [hw, ho] at hd
      rcases hd with hd | hd
      · rw [hl] at hd; cases hd
      · simp [noFr, holds] at hd
    · rw [hh] at ho
      simp only [if_true] at ho
      have hht := h.h
      rw [hh] at hht
      rw [works_h hht] at hw
      rw [hw, ho.1] at hd
      rcases hd with hd | hd
      · simp [noFr, holds] at hd
      · rw [hl] at hd; cases hd
theorem AtS.noclash {its : List It} {i : Nat} {s : St3} {S : Ma} (h : AtS its i s S) (f : Fr) : clash its S 3 0 f = false := by
  cases hq : clash its S 3 0 f
  · rfl
  · obtain ⟨d, _, _, hk⟩ := clashFrom_some 3 0 hq
    cases d with
    | zero => unfold clashAt at hk; simp at hk
    | succ d => rw [clashAt_no (h.rest (d + 1) (by omega))] at hk; cases hk
theorem AtS.item {its : List It} {i : Nat} {s : St3} {S : Ma} (h : AtS its i s S) : i < its.length := by
  have := (works_fr h.all.inv 0 (by decide)).item (by rw [h.wk])
  rw [h.wk] at this; exact this
/-- Nothing hinders a step that is not wrong. -/
theorem AtS.hind {its : List It} (hf : Fine its) {i : Nat} {s : St3} {S : Ma} (h : AtS its i s S) (hn : atB (bodyOf its i) s.1 = 43 → faultP (isH its i) (bodyOf its i) s.1 s.2.1 s.2.2 = 0) : hindP its S 0 (works S 0) = 0 := by
  rw [h.wk]
  unfold hindP
  simp only
  have hg := hf.gb h.item
  by_cases e43 : atB (bodyOf its i) s.1 = 43
  · rw [if_pos e43]
    have hfa := hn e43
    unfold faultP at hfa
    rw [if_pos e43, hasB_num hg.pair (Or.inl e43)] at hfa
    have hq : holds s.2.1 (num (bodyOf its i) s.1).toNat = false := by
      cases hq : holds s.2.1 (num (bodyOf its i) s.1).toNat
      · rfl
      · rw [hq] at hfa; simp at hfa
    unfold waitP
    rw [h.free hq]
  · rw [if_neg e43]
    split
    · rw [h.noclash]; rfl
    · rfl
theorem stp_nofault {hd : Bool} {b : List UInt8} {s : St3} {comma : Bool} (h : stp hd b s comma ≠ s) : faultP hd b s.1 s.2.1 s.2.2 = 0 ∧ atB b s.1 ≠ 101 := by
  have h1 : faultP hd b s.1 s.2.1 s.2.2 = 0 := by
    by_cases e : faultP hd b s.1 s.2.1 s.2.2 = 0
    · exact e
    · exfalso; apply h; unfold stp stepS; rw [if_neg e]
  refine ⟨h1, fun e => h ?_⟩
  unfold stp stepS
  rw [if_pos h1]
  simp [nextP, e]
theorem step1 {its : List It} (hf : Fine its) {S : Ma} (h : All3 its S) (hr : Rest 1 S) (what : Int) : command its S 1 0 what = command its S 3 0 what := command_three hr (by decide) 0 (by decide) what
theorem command_step {its : List It} (S : Ma) (n c : Nat) (comma : Bool) : command its S n c (if comma = true then 44 else 46) = step its S n c comma := by
  unfold command
  cases comma
  · simp
  · simp
/-- A step that is not wrong, no sleep. -/
theorem AtS.go {its : List It} (hf : Fine its) {i : Nat} {s : St3} {S : Ma} (h : AtS its i s S) (comma : Bool) (hne : stp (isH its i) (bodyOf its i) s comma ≠ s) :
    (command its S 1 0 (if comma = true then 44 else 46)).1 = atB (bodyOf its i) s.1 ∧
    (atB (bodyOf its i) s.1 ≠ 122 → AtS its i (stp (isH its i) (bodyOf its i) s comma) (command its S 1 0 (if comma = true then 44 else 46)).2) ∧
    (atB (bodyOf its i) s.1 = 122 → AtS its i (stp (isH its i) (bodyOf its i) s comma) (command its (command its S 1 0 (if comma = true then 44 else 46)).2 1 0 (48 + (i : Int))).2 ∧ (command its (command its S 1 0 (if comma = true then 44 else 46)).2 1 0 (48 + (i : Int))).1 = 116) := by
  have hA := h.all.command hf 0 (by decide) (if comma = true then 44 else 46)
  have hR := h.rest.command (its := its) 3 0 (by decide) (if comma = true then 44 else 46)
  rw [step1 hf h.all h.rest]
  rw [command_step] at hA hR ⊢
  obtain ⟨hfa, h101⟩ := stp_nofault hne
  have hhd := h.hind hf (fun _ => hfa)
  have hm := stepM_eq hf h.all.inv h.all.ats h.all.rest 0 (by decide) comma
  have hth : (works S 0).there = true := by rw [h.wk]
  have hst : stepS (isH its i) (bodyOf its i) s.1 s.2.1 s.2.2 comma = (stp (isH its i) (bodyOf its i) s comma, atB (bodyOf its i) s.1) := by
    unfold stp stepS
    rw [if_pos hfa]
  unfold stepM at hm
  simp only at hm
  rw [if_neg (by rw [hth]; decide), if_neg (by rw [hhd]; decide)] at hm
  simp only [h.wk, h.off, hst] at hm
  rw [if_neg h101] at hm
  rw [← hm] at hA hR ⊢
  generalize hz : stp (isH its i) (bodyOf its i) s comma = z at *
  by_cases e122 : atB (bodyOf its i) s.1 = 122
  · rw [if_pos e122] at hA hR ⊢
    obtain ⟨k1, k2, k3, k4⟩ := stepS_122 (hd := isH its i) (b := bodyOf its i) (p := s.1) (h := s.2.1) (off := s.2.2) (comma := comma) (by rw [hst]; exact e122)
    rw [hst] at k4
    simp only at k4
    refine ⟨e122.symm, fun e => absurd e122 e, fun _ => ?_⟩
    simp only at hA hR ⊢
    have hht : (S.cp 0).h.there = false := by rw [h.h]; exact k1
    have ho := h.oth
    rw [k1] at ho
    simp only [Bool.false_eq_true, if_false] at ho
    have hw := h.wk
    rw [works_t hht] at hw
    have hi := h.item
    have hL : layP (setPl (setRd S i true) i z.1) 0 noFr false = Mc.setCp (setPl (setRd S i true) i z.1) 0 { (S.cp 0) with t := noFr, off := false } := by
      unfold layP
      rw [if_neg (show ¬ ((setPl (setRd S i true) i z.1).cp 0).h.there = true from by show ¬ (S.cp 0).h.there = true; rw [hht]; decide)]
      rfl
    rw [hL] at hA hR ⊢
    rw [step1 hf hA hR]
    have hA2 := hA.command hf 0 (by decide) (48 + (i : Int))
    have hR2 := hR.command (its := its) 3 0 (by decide) (48 + (i : Int))
    have hi8 := hf.len
    have hc : command its (Mc.setCp (setPl (setRd S i true) i z.1) 0 { (S.cp 0) with t := noFr, off := false }) 3 0 (48 + (i : Int)) = (116, Mc.setCp (setRd (Mc.setCp (setPl (setRd S i true) i z.1) 0 { (S.cp 0) with t := noFr, off := false }) i false) 0 { ({ (S.cp 0) with t := noFr, off := false } : Cp) with t := ⟨true, i, z.1, 0⟩ }) := by
      unfold command
      rw [if_neg (by omega), if_pos (by omega), show (48 + (i : Int) - 48).toNat = i by omega]
      unfold comes
      have e1 : ((Mc.setCp (setPl (setRd S i true) i z.1) 0 { (S.cp 0) with t := noFr, off := false }).cp 0) = { (S.cp 0) with t := noFr, off := false } := by simp [Mc.setCp]
      rw [e1, if_neg (by rw [not_or]; exact ⟨by omega, by simp [hht]⟩), if_neg (by rw [k1]; decide), if_neg (by simp [noFr, Mc.setCp, setPl, setRd])]
      simp [Mc.setCp, setPl, setRd]
    rw [hc] at hA2 hR2 ⊢
    refine ⟨⟨hA2, hR2, ?_, ?_, ?_, ?_⟩, rfl⟩
    · rw [works_t (by simp [Mc.setCp, hht])]
      simp [Mc.setCp, k4]
    · unfold frOff
      rw [if_neg (by simp [Mc.setCp, hht]), k4]
      simp [Mc.setCp]
    · simp [Mc.setCp, hht, k1]
    · rw [k1]
      simp only [Bool.false_eq_true, if_false]
      simp [Mc.setCp, ho]
  · rw [if_neg e122] at hA hR ⊢
    refine ⟨rfl, fun _ => ?_, fun e => absurd e e122⟩
    simp only at hA hR ⊢
    have ho := h.oth
    have hht := h.h
    unfold layP at hA hR ⊢
    cases hh : isH its i
    · rw [hh] at ho hht
      simp only [Bool.false_eq_true, if_false] at ho
      rw [if_neg (by rw [hht]; decide)] at hA hR ⊢
      refine ⟨hA, hR, ?_, ?_, ?_, ?_⟩
      · rw [works_t (by simp [Mc.setCp, hht])]; simp [Mc.setCp]
      · unfold frOff
        rw [if_neg (by simp [Mc.setCp, hht])]; simp [Mc.setCp]
      · simp [Mc.setCp, hht, hh]
      · rw [hh]; simp only [Bool.false_eq_true, if_false]; simp [Mc.setCp, ho]
    · rw [hh] at ho hht
      simp only [if_true] at ho
      rw [if_pos hht] at hA hR ⊢
      have hoff : z.2.2 = true := by
        rw [← hz, hh]
        refine stp_off ?_ comma
        rw [← h.off]; unfold frOff; rw [if_pos hht]
      refine ⟨hA, hR, ?_, ?_, ?_, ?_⟩
      · rw [works_h (by simp [Mc.setCp])]; simp [Mc.setCp]
      · unfold frOff
        rw [if_pos (by simp [Mc.setCp]), hoff]
      · simp [Mc.setCp, hh]
      · rw [hh]; simp only [if_true]; simp [Mc.setCp, ho]
/-- What is done first: the item is called. -/
theorem AtS.begin_ {its : List It} (hf : Fine its) {i : Nat} (hi : i < its.length) : AtS its i (0, 0, isH its i) (command its (begin_ its) 1 0 (48 + (i : Int))).2 ∧ bad (command its (begin_ its) 1 0 (48 + (i : Int))).1 = false := by
  have hA0 := All3.begin_ its
  have hR0 := Rest.begin_ its 1
  rw [step1 hf hA0 hR0]
  have hA := hA0.command hf 0 (by decide) (48 + (i : Int))
  have hR := hR0.command (its := its) 3 0 (by decide) (48 + (i : Int))
  have h8 := hf.len
  cases hh : isH its i
  · have hc : command its (Mc.begin_ its) 3 0 (48 + (i : Int)) = (116, Mc.setCp (setRd (Mc.begin_ its) i false) 0 { noCp with t := ⟨true, i, 0, 0⟩ }) := by
      unfold command
      rw [if_neg (by omega), if_pos (by omega), show (48 + (i : Int) - 48).toNat = i by omega]
      unfold comes
      rw [if_neg (by rw [not_or]; exact ⟨by omega, by simp [Mc.begin_, noCp, noFr]⟩), if_neg (by rw [hh]; decide), if_neg (by simp [Mc.begin_, noCp, noFr, hh])]
      rfl
    rw [hc] at hA hR ⊢
    refine ⟨⟨hA, hR, ?_, ?_, ?_, ?_⟩, rfl⟩
    · rw [works_t (by simp [Mc.setCp, noCp, noFr])]; simp [Mc.setCp]
    · unfold frOff; rw [if_neg (by simp [Mc.setCp, noCp, noFr])]; simp [Mc.setCp, noCp]
    · simp [Mc.setCp, noCp, noFr, hh]
    · rw [hh]; simp [Mc.setCp, noCp]
  · have hc : command its (Mc.begin_ its) 3 0 (48 + (i : Int)) = (104, Mc.setCp (Mc.begin_ its) 0 { noCp with h := ⟨true, i, 0, 0⟩ }) := by
      unfold command
      rw [if_neg (by omega), if_pos (by omega), show (48 + (i : Int) - 48).toNat = i by omega]
      unfold comes
      rw [if_neg (by rw [not_or]; exact ⟨by omega, by simp [Mc.begin_, noCp, noFr]⟩), if_pos hh, if_neg (by simp [Mc.begin_, noCp])]
      rfl
    rw [hc] at hA hR ⊢
    refine ⟨⟨hA, hR, ?_, ?_, ?_, ?_⟩, rfl⟩
    · rw [works_h (by simp [Mc.setCp])]; simp [Mc.setCp]
    · unfold frOff; rw [if_pos (by simp [Mc.setCp])]
    · simp [Mc.setCp, hh]
    · rw [hh]; simp [Mc.setCp, noCp]
/-- The step that goes wrong. -/
theorem AtS.wrong {its : List It} (hf : Fine its) {i : Nat} {s : St3} {S : Ma} (h : AtS its i s S) (hn : faultP (isH its i) (bodyOf its i) s.1 s.2.1 s.2.2 ≠ 0) : (command its S 1 0 46).1 = faultP (isH its i) (bodyOf its i) s.1 s.2.1 s.2.2 := by
  rw [step1 hf h.all h.rest]
  have e := command_step (its := its) S 3 0 false
  simp only [Bool.false_eq_true, if_false] at e
  rw [e, ← stepM_eq hf h.all.inv h.all.ats h.all.rest 0 (by decide) false]
  have hth : (works S 0).there = true := by rw [h.wk]
  have hg := hf.gb h.item
  unfold stepM
  simp only
  rw [if_neg (by rw [hth]; decide)]
  by_cases e43 : atB (bodyOf its i) s.1 = 43
  · have hfa : faultP (isH its i) (bodyOf its i) s.1 s.2.1 s.2.2 = 68 ∧ holds s.2.1 (num (bodyOf its i) s.1).toNat = true := by
      unfold faultP at hn ⊢
      rw [if_pos e43, hasB_num hg.pair (Or.inl e43)] at hn ⊢
      cases hq : holds s.2.1 (num (bodyOf its i) s.1).toNat
      · rw [hq] at hn; simp at hn
      · exact ⟨rfl, rfl⟩
    have hh : hindP its S 0 (works S 0) = 68 := by
      unfold hindP
      rw [h.wk]
      simp only
      rw [if_pos e43]
      unfold waitP
      have hcp : cpHolds (S.cp 0) (num (bodyOf its i) s.1).toNat = true := works_cp (by rw [h.wk]; exact hfa.2)
      have hho : holder S 3 (num (bodyOf its i) s.1).toNat = some 0 := by
        unfold holder holderFrom
        rw [if_pos hcp]
      rw [hho]
      simp
    rw [hh, if_pos (by decide), hfa.1]
  · have hh := h.hind hf (fun e => absurd e e43)
    rw [hh, if_neg (by decide)]
    simp only [h.wk, h.off]
    have hst : stepS (isH its i) (bodyOf its i) s.1 s.2.1 s.2.2 false = (s, faultP (isH its i) (bodyOf its i) s.1 s.2.1 s.2.2) := by
      unfold stepS
      rw [if_neg hn]
    rw [hst]
    simp only
    have hv := faultP_vals (isH its i) (bodyOf its i) s.1 s.2.1 s.2.2
    rw [if_neg (by omega), if_neg (by omega)]
theorem bt_ord (c : Bool) : bt (if c = true then (44 : UInt8) else 46) = if c = true then 44 else 46 := by cases c <;> rfl
/-- Along the way nothing goes wrong, at its end just that. -/
theorem drive {its : List It} (hf : Fine its) {i : Nat} {s t : St3} {rs : List Rc} (hc : Chn (isH its i) (bodyOf its i) s rs t) (hn : faultP (isH its i) (bodyOf its i) t.1 t.2.1 t.2.2 ≠ 0) : ∀ S, AtS its i s S → lastP (traceB its 1 S (scriptW i (bodyOf its i) s.1 rs)) = faultP (isH its i) (bodyOf its i) t.1 t.2.1 t.2.2 := by
  have hbad : bad (faultP (isH its i) (bodyOf its i) t.1 t.2.1 t.2.2) = true := by
    rcases faultP_vals (isH its i) (bodyOf its i) t.1 t.2.1 t.2.2 with h | h | h | h | h | h
    · exact absurd h hn
    all_goals rw [h]; rfl
  induction hc with
  | nil t =>
    intro S h
    have hw := h.wrong hf hn
    unfold scriptW
    rw [traceB, show (bt 48 - 48).toNat = 0 from rfl, show bt 46 = 46 from rfl, hw, if_pos hbad]
    unfold lastP
    simp only [List.getLast?_singleton]
    rw [← hw, bt_letter, hw, if_pos hbad]
  | @cons s t r rs h1 h2 hr ih =>
    intro S h
    rw [h1] at h2
    have hg := h.go hf r.comma h2
    have hst := (hf.gb h.item).stands (by have := h.all.ats.works 0 (by decide) (by rw [h.wk]); rw [h.wk] at this; exact this)
    have hnb : bad (command its S 1 0 (if r.comma = true then 44 else 46)).1 = false := by rw [hg.1]; exact stands_bad hst
    have last_cons : ∀ (x : UInt8) (T : List UInt8), T ≠ [] → lastP (x :: T) = lastP T := by
      intro x T hT
      unfold lastP
      cases T with
      | nil => exact absurd rfl hT
      | cons y T => simp [List.getLast?_cons_cons]
    have hne : ∀ S', AtS its i (stp (isH its i) (bodyOf its i) s r.comma) S' → traceB its 1 S' (scriptW i (bodyOf its i) r.p rs) ≠ [] := by
      intro S' hS'
      cases rs <;> simp [scriptW, traceB]
    have hrp : r.st.1 = r.p := rfl
    rw [h1] at ih
    have hrp2 : (stp (isH its i) (bodyOf its i) s r.comma).1 = r.p := by rw [← h1]; rfl
    have ih := ih hn hbad
    rw [hrp2] at ih
    unfold scriptW
    rw [List.cons_append, List.cons_append, List.nil_append, traceB, show (bt 48 - 48).toNat = 0 from rfl, bt_ord]
    generalize (if r.comma = true then (44 : Int) else 46) = o at hg hnb ⊢
    rw [if_neg (by rw [hnb]; decide)]
    by_cases e122 : atB (bodyOf its i) s.1 = 122
    · obtain ⟨g1, g2⟩ := hg.2.2 e122
      have hi := h.item
      have h8 := hf.len
      rw [if_pos e122, List.cons_append, List.cons_append, List.nil_append, traceB, show (bt 48 - 48).toNat = 0 from rfl, bt_b8 (by omega), show ((48 + i : Nat) : Int) = 48 + (i : Int) by omega, if_neg (by rw [g2]; decide)]
      rw [last_cons _ _ (by simp), last_cons _ _ (hne _ g1)]
      exact ih _ g1
    · have g := hg.2.1 e122
      rw [if_neg e122, List.nil_append, last_cons _ _ (hne _ g)]
      exact ih _ g
theorem scriptW_ok (i : Nat) (hi : i < 8) (b : List UInt8) : ∀ (rs : List Rc) (p : Nat), scriptB (1 : Nat) (scriptW i b p rs) = true ∧ (scriptW i b p rs).length ≤ 4 * rs.length + 2
  | [], p => ⟨by unfold scriptW; decide, by simp [scriptW]⟩
  | r :: rs, p => by
    have ih := scriptW_ok i hi b rs r.p
    have hd : isOrd (bt (b8 (48 + i))) = true := by rw [bt_b8 (by omega)]; simp [isOrd]; omega
    unfold scriptW
    constructor
    · rw [List.cons_append, List.cons_append, List.nil_append, scriptB]
      have ho : isOrd (bt (if r.comma = true then (44 : UInt8) else 46)) = true := by cases r.comma <;> rfl
      rw [ho]
      split
      · rw [List.cons_append, List.cons_append, List.nil_append, scriptB, hd, ih.1]; decide
      · rw [List.nil_append, ih.1]; decide
    · have h4 : ((if atB b p = 122 then [48, b8 (48 + i)] else []) : List UInt8).length ≤ 2 := by split <;> simp
      simp only [List.length_append, List.length_cons, List.length_nil]
      omega
/-- Show's script makes the machine go wrong as is told. -/
theorem show_plain {its : List It} (hf : Fine its) {i : Nat} (hi : i < its.length) {L : List Rc} (hF : RFin (isH its i) (bodyOf its i) L) {j : Nat} {r : Rc} (hr : L[j]? = some r) (hn : faultP (isH its i) (bodyOf its i) r.p r.h r.off ≠ 0) :
    lastP (traceB its 1 (begin_ its) (scriptP i (bodyOf its i) (wayP L j))) = faultP (isH its i) (bodyOf its i) r.p r.h r.off ∧ scriptB (1 : Nat) (scriptP i (bodyOf its i) (wayP L j)) = true ∧ (scriptP i (bodyOf its i) (wayP L j)).length ≤ 200000 := by
  have hi8 := hf.len
  have hc := chn_way hF j r hr
  obtain ⟨hA, hb⟩ := AtS.begin_ hf hi
  have hd := drive hf hc hn _ hA
  have hok := scriptW_ok i (by omega) (bodyOf its i) (wayP L j) 0
  refine ⟨?_, ?_, ?_⟩
  · unfold scriptP
    rw [List.cons_append, List.cons_append, List.nil_append, traceB, show (bt 48 - 48).toNat = 0 from rfl, bt_b8 (by omega), show ((48 + i : Nat) : Int) = 48 + (i : Int) by omega, if_neg (by rw [hb]; decide)]
    refine Eq.trans ?_ hd
    unfold lastP
    have : traceB its 1 (command its (Mc.begin_ its) 1 0 (48 + (i : Int))).2 (scriptW i (bodyOf its i) 0 (wayP L j)) ≠ [] := by
      cases wayP L j <;> simp [scriptW, traceB]
    cases hq : traceB its 1 (command its (Mc.begin_ its) 1 0 (48 + (i : Int))).2 (scriptW i (bodyOf its i) 0 (wayP L j)) with
    | nil => exact absurd hq this
    | cons y T => simp [List.getLast?_cons_cons]
  · unfold scriptP
    have hdg : isOrd (bt (b8 (48 + i))) = true := by rw [bt_b8 (by omega)]; simp [isOrd]; omega
    rw [List.cons_append, List.cons_append, List.nil_append, scriptB, hdg, hok.1]; decide
  · have hw : (wayP L j).length ≤ j := by unfold wayP; rw [List.length_reverse]; exact wayBack_len L j j
    have hjl := (List.getElem?_eq_some_iff.1 hr).1
    have hl := hF.len (hf.gb hi)
    have hsh := hf.short i hi
    have h3 := Nat.mul_le_mul_right 128 (show (bodyOf its i).length + 1 ≤ 301 by omega)
    unfold scriptP
    rw [List.length_append]
    have := hok.2
    simp only [List.length_cons, List.length_nil]
    omega
end Mc
end Go.Proofs.Ytecmfdkhcffpmaa
/- Plain: by the document's machine, too, the script along a way ends just so, there. -/
namespace Go.Proofs.Ytecmfdkhcffpmaa
open Go.RowKit
set_option linter.unusedSimpArgs false
set_option linter.unusedVariables false
open Mc
namespace Mc
open Wd
theorem driveE {its : List It} (hf : Fine its) {i : Nat} {s t : St3} {rs : List Rc} (hc : Chn (isH its i) (bodyOf its i) s rs t) (K P : Int) (hn : faultP (isH its i) (bodyOf its i) t.1 t.2.1 t.2.2 ≠ 0) (hK : kindD (faultP (isH its i) (bodyOf its i) t.1 t.2.1 t.2.2) = K) (hP : (t.1 : Int) = P) : ∀ S, AtS its i s S → endsB its K i P S (scriptW i (bodyOf its i) s.1 rs) = true := by
  have hbad : bad (faultP (isH its i) (bodyOf its i) t.1 t.2.1 t.2.2) = true := by
    rcases faultP_vals (isH its i) (bodyOf its i) t.1 t.2.1 t.2.2 with h | h | h | h | h | h
    · exact absurd h hn
    all_goals rw [h]; rfl
  induction hc with
  | nil t =>
    intro S h
    have hw := h.wrong hf hn
    unfold scriptW
    rw [endsB, show bt 46 = 46 from rfl, hw, if_pos hbad, h.wk]
    simp [hK, hP]
  | @cons s t r rs h1 h2 hr ih =>
    intro S h
    rw [h1] at h2
    have hg := h.go hf r.comma h2
    have hst := (hf.gb h.item).stands (by have := h.all.ats.works 0 (by decide) (by rw [h.wk]); rw [h.wk] at this; exact this)
    have hnb : bad (command its S 1 0 (if r.comma = true then 44 else 46)).1 = false := by rw [hg.1]; exact stands_bad hst
    rw [h1] at ih
    have hrp2 : (stp (isH its i) (bodyOf its i) s r.comma).1 = r.p := by rw [← h1]; rfl
    have ih := ih hn hK hP hbad
    rw [hrp2] at ih
    unfold scriptW
    rw [List.cons_append, List.cons_append, List.nil_append, endsB, bt_ord]
    generalize (if r.comma = true then (44 : Int) else 46) = o at hg hnb ⊢
    rw [if_neg (by rw [hnb]; decide)]
    by_cases e122 : atB (bodyOf its i) s.1 = 122
    · obtain ⟨g1, g2⟩ := hg.2.2 e122
      have hi := h.item
      have h8 := hf.len
      rw [if_pos e122, List.cons_append, List.cons_append, List.nil_append, endsB, bt_b8 (by omega), show ((48 + i : Nat) : Int) = 48 + (i : Int) by omega, if_neg (by rw [g2]; decide)]
      exact ih _ g1
    · have g := hg.2.1 e122
      rw [if_neg e122, List.nil_append]
      exact ih _ g
theorem kindD_P (hd : Bool) (b : List UInt8) (p h : Nat) (off : Bool) : kindD (faultP hd b p h off) = kindP (faultP hd b p h off) := by
  rcases faultP_vals hd b p h off with e | e | e | e | e | e <;> rw [e] <;> rfl
theorem ends_plain {its : List It} (hf : Fine its) {i : Nat} (hi : i < its.length) {L : List Rc} (hF : RFin (isH its i) (bodyOf its i) L) {j : Nat} {r : Rc} (hr : L[j]? = some r) {K P : Int} (hk : kd (isH its i) (bodyOf its i) r.st = K) (hK : K ≠ 0) (hP : (r.p : Int) = P) :
    endsB its K i P (begin_ its) (scriptP i (bodyOf its i) (wayP L j)) = true := by
  have hi8 := hf.len
  have hc := chn_way hF j r hr
  obtain ⟨hA, hb⟩ := AtS.begin_ hf hi
  have hkk : kindP (faultP (isH its i) (bodyOf its i) r.p r.h r.off) = K := hk
  have hn : faultP (isH its i) (bodyOf its i) r.p r.h r.off ≠ 0 := by
    intro e; rw [e] at hkk; exact hK hkk.symm
  have hd := driveE hf hc K P hn (by rw [kindD_P]; exact hkk) hP _ hA
  unfold scriptP
  rw [List.cons_append, List.cons_append, List.nil_append, endsB, bt_b8 (by omega), show ((48 + i : Nat) : Int) = 48 + (i : Int) by omega, if_neg (by rw [hb]; decide)]
  exact hd
end Mc
end Go.Proofs.Ytecmfdkhcffpmaa
