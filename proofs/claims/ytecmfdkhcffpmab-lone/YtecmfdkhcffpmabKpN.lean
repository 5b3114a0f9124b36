/- Plain: one thread on one processor. -/
import Derived.Test.YtecmfdkhcffpmabB17
namespace Go.Proofs.Ytecmfdkhcffpmab
open Go.RowKit
set_option linter.unusedSimpArgs false
set_option linter.unusedVariables false
open Mc
namespace Mc
open Wd
/-- One thread. -/
structure One (its : List It) : Prop where
  len : its.length = 1
  th : isH its 0 = false
theorem one_prog (zs : List Int) : One ((progR [⟨false, zs⟩] 1 240).map itOf) := by
  have e : progR [⟨false, zs⟩] 1 240 = [(116, weaveP zs 237)] := by
    simp [progR, progFrom, flat, letterOf, orOne]
  rw [e]
  exact ⟨rfl, rfl⟩
structure Lo (its : List It) (t : Int) : Prop where
  d : t = 68 → Solo its 1
  n1 : t ≠ 58
  n2 : t ≠ 104
  n3 : t ≠ 87
  n4 : t ≠ 82
theorem Lo.plain {its : List It} {t : Int} (h0 : t ≠ 68) (h1 : t ≠ 58) (h2 : t ≠ 104) (h3 : t ≠ 87) (h4 : t ≠ 82) : Lo its t := ⟨fun e => absurd e h0, h1, h2, h3, h4⟩
theorem Lo.k {its : List It} {t : Int} (h : (t == 68 || t == 58 || t == 104 || t == 87 || t == 82) = false) : Lo its t := by
  simp only [Bool.or_eq_false_iff, beq_eq_false_iff_ne] at h
  obtain ⟨⟨⟨⟨h0, h1⟩, h2⟩, h3⟩, h4⟩ := h
  exact Lo.plain h0 h1 h2 h3 h4
theorem One.item {its : List It} (h : One its) {i : Nat} (hi : i < its.length) : isH its i = false := by
  have e : i = 0 := by have := h.len; omega
  rw [e]; exact h.th
theorem One.noH {its : List It} (h : One its) {S : Ma} (hi : Inv its 3 S) (c : Nat) (hc : c < 3) : (S.cp c).h.there = false := by
  cases e : (S.cp c).h.there
  · rfl
  · have h1 := (hi.h c hc).kind e
    rw [h.item ((hi.h c hc).item e)] at h1; cases h1
theorem lo_step {its : List It} (hf : Fine its) (ho : One its) {S : Ma} (h : All3 its S) (hr : Rest 1 S) (comma : Bool) : Lo its (step its S 3 0 comma).1 := by
  have hc : (0 : Nat) < 3 := by decide
  rw [← stepM_eq hf h.inv h.ats h.rest 0 hc comma]
  unfold stepM
  simp only
  by_cases hth0 : (works S 0).there = false
  · rw [if_pos hth0]; exact Lo.k rfl
  have hth : (works S 0).there = true := by simpa using hth0
  rw [if_neg hth0]
  have hfr := works_fr h.inv 0 hc
  have hg := hf.gb (hfr.item hth)
  have hst := hg.stands (h.ats.works 0 hc hth)
  have hnoh := ho.noH h.inv 0 hc
  by_cases hh : hindP its S 0 (works S 0) ≠ 0
  · rw [if_pos hh]
    simp only
    unfold hindP at hh ⊢
    by_cases e43 : atB (bodyOf its (works S 0).item) (works S 0).pos = 43
    · rw [if_pos e43] at hh ⊢
      unfold waitP at hh ⊢
      cases hl : holder S 3 (num (bodyOf its (works S 0).item) (works S 0).pos).toNat with
      | none => rw [hl] at hh; exact absurd rfl hh
      | some d =>
        have hd := holder_some hl
        have e0 : d = 0 := by
          cases d with
          | zero => rfl
          | succ d => rw [hr (d + 1) (by omega), cpHolds_no] at hd; cases hd
        subst e0
        simp only [if_true]
        refine ⟨fun _ => ?_, by decide, by decide, by decide, by decide⟩
        have hw : holds (works S 0).held (num (bodyOf its (works S 0).item) (works S 0).pos).toNat = true := by
          have ew := works_t hnoh
          simp only [cpHolds, Bool.or_eq_true] at hd
          have hn := (h.inv.h 0 hc).none hnoh
          rcases hd with hd | hd
          · rw [ew] at hd ⊢; exact hd
          · rw [hn] at hd; simp [noFr, holds] at hd
        refine solo_of hf h hc hth (v := 68) ?_ rfl
        unfold faultP
        rw [if_pos e43, hasB_num hg.pair (Or.inl e43), hw]; rfl
    · rw [if_neg e43] at hh ⊢
      exfalso
      by_cases ec : atB (bodyOf its (works S 0).item) (works S 0).pos = 114 ∨ atB (bodyOf its (works S 0).item) (works S 0).pos = 119
      · rw [if_pos ec] at hh
        have hcl : clash its S 3 0 (works S 0) = false := by
          cases hq : clash its S 3 0 (works S 0)
          · rfl
          · obtain ⟨d, _, _, hk⟩ := clashFrom_some 3 0 hq
            cases d with
            | zero => unfold clashAt at hk; simp at hk
            | succ d => rw [clashAt_no (hr (d + 1) (by omega))] at hk; cases hk
        rw [hcl] at hh; exact absurd rfl hh
      · rw [if_neg ec] at hh; exact absurd rfl hh
  rw [if_neg hh]
  have hletter : Lo its (stepS (isH its (works S 0).item) (bodyOf its (works S 0).item) (works S 0).pos (works S 0).held (frOff S 0) comma).2 := by
    unfold stepS
    by_cases hq : faultP (isH its (works S 0).item) (bodyOf its (works S 0).item) (works S 0).pos (works S 0).held (frOff S 0) = 0
    · rw [if_pos hq]
      simp only
      unfold Stands at hst
      exact Lo.plain (by omega) (by omega) (by omega) (by omega) (by omega)
    · rw [if_neg hq]
      simp only
      have hs := fun (v k : Int) hv hk => solo_of hf h hc hth (v := v) (k := k) hv hk
      have hv := faultP_vals (isH its (works S 0).item) (bodyOf its (works S 0).item) (works S 0).pos (works S 0).held (frOff S 0)
      generalize faultP (isH its (works S 0).item) (bodyOf its (works S 0).item) (works S 0).pos (works S 0).held (frOff S 0) = v at hs hv hq
      exact ⟨fun e => hs 68 1 e rfl, by omega, by omega, by omega, by omega⟩
  split
  · exact Lo.k rfl
  split
  · exact Lo.k rfl
  · exact hletter
theorem lo_command {its : List It} (hf : Fine its) (ho : One its) {S : Ma} (h : All3 its S) (hr : Rest 1 S) (what : Int) : Lo its (command its S 3 0 what).1 := by
  unfold Mc.command
  split
  · exact lo_step hf ho h hr _
  split
  · unfold comes
    split
    · exact Lo.k rfl
    rename_i h1
    simp only [not_or] at h1
    split
    · rename_i h2
      rw [ho.item (by omega)] at h2; cases h2
    split
    · exact Lo.k rfl
    · exact Lo.k rfl
  split
  · exact Lo.k rfl
  · exact Lo.k rfl
theorem lo_trace {its : List It} (hf : Fine its) (ho : One its) : ∀ (s : List UInt8) (S : Ma), All3 its S → Rest 1 S → scriptB (1 : Nat) s = true → ∀ c ∈ traceB its 1 S s, Lo its (bt c)
  | [], S, _, _, _, c, hc => by simp [traceB] at hc
  | [_], S, _, _, _, c, hc => by simp [traceB] at hc
  | a :: o :: r, S, h, hr, hs, c, hc => by
    rw [scriptB] at hs
    simp only [Bool.and_eq_true, decide_eq_true_eq] at hs
    obtain ⟨⟨⟨h1, h2⟩, h3⟩, h4⟩ := hs
    have hcn : (bt a - 48).toNat = 0 := by omega
    rw [traceB, List.mem_cons, hcn] at hc
    have e := command_three (its := its) hr (by decide) 0 (by decide) (bt o)
    rcases hc with hc | hc
    · rw [hc, bt_letter, e]
      exact lo_command hf ho h hr _
    · split at hc
      · cases hc
      · rw [e] at hc
        exact lo_trace hf ho r _ (h.command hf 0 (by omega) _) (hr.command 3 0 (by decide) _) h4 c hc
theorem no_race {its : List It} (ho : One its) : hasK (analyseS its) 7 = false := by
  unfold hasK
  rw [List.any_eq_false]
  intro x hx
  simp only [beq_iff_eq]
  unfold analyseS at hx
  rw [List.mem_append, List.mem_append] at hx
  rcases hx with (hx | hx) | hx
  · unfold soloS solos at hx
    rw [List.mem_flatMap] at hx
    obtain ⟨k, hk, hx⟩ := hx
    unfold soloK at hx
    rw [List.mem_flatMap] at hx
    obtain ⟨i, hi, hx⟩ := hx
    unfold soloRow at hx
    rw [List.mem_map] at hx
    obtain ⟨p, _, rfl⟩ := hx
    simp at hk ⊢
    omega
  · unfold ringL at hx
    rw [List.mem_map] at hx
    obtain ⟨p, _, rfl⟩ := hx
    simp
  · unfold raceS raceL at hx
    rw [List.mem_map] at hx
    obtain ⟨p, hp, rfl⟩ := hx
    rw [List.mem_filter] at hp
    have hp2 : Race its p := by have := hp.2; simpa using this
    obtain ⟨i, j, hi, hj, hij, _⟩ := hp2
    have := hij (by have := ho.len; omega)
    rw [ho.item hi] at this; cases this
/-- The letters of one thread on one processor. -/
theorem lone_plain {its : List It} (hf : Fine its) (ho : One its) (s : List UInt8) (hs : scriptB (1 : Nat) s = true) :
    (∀ c ∈ traceB its 1 (begin_ its) s, Lo its (bt c)) ∧ (lastP (traceB its 1 (begin_ its) s) = 68 → hasK (analyseS its) 1 = true) := by
  have h := lo_trace hf ho s _ (All3.begin_ its) (Rest.begin_ its 1) hs
  refine ⟨h, fun e => ?_⟩
  unfold lastP at e
  split at e
  · cases e
  · rename_i c hc
    split at e
    · exact solo_has (k := 1) (by decide) (by decide) ((h c (List.mem_of_getLast? hc)).d e)
    · cases e
end Mc
end Go.Proofs.Ytecmfdkhcffpmab
