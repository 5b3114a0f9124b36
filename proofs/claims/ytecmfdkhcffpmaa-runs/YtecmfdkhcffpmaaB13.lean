/- PureM3, PureP2, PureP5. -/
import Derived.Test.YtecmfdkhcffpmaaB03
import Derived.Test.YtecmfdkhcffpmaaB12
/- The document's machine, plain: what holds of it goes on holding. -/
namespace Go.Proofs.Ytecmfdkhcffpmaa
open Go.RowKit
set_option linter.unusedSimpArgs false
set_option linter.unusedVariables false
namespace Mc
open Wd

theorem Inv.setCp {its : List It} {n : Nat} {S : Ma} (h : Inv its n S) (c : Nat) (x : Cp) (ht : FrOK its false x.t) (hh : FrOK its true x.h) (ho : x.off = true → x.t.there = true) : Inv its n (setCp S c x) := by
  refine ⟨fun d hd => ?_, fun d hd => ?_, fun d hd => ?_, h.pl⟩ <;> unfold Mc.setCp <;> by_cases e : d = c <;> simp only [e, if_true, if_false]
  · exact ht
  · exact h.t d hd
  · exact hh
  · exact h.h d hd
  · exact ho
  · exact h.off d hd
theorem frOK_no (its : List It) (hd : Bool) : FrOK its hd noFr := ⟨by simp [noFr], by simp [noFr], by simp [noFr], by simp [noFr], fun _ => rfl⟩
theorem Inv.setRd {its : List It} {n : Nat} {S : Ma} (h : Inv its n S) (i : Nat) (b : Bool) : Inv its n (setRd S i b) := ⟨h.t, h.h, h.off, h.pl⟩
theorem Inv.setPl {its : List It} {n : Nat} {S : Ma} (h : Inv its n S) (i p : Nat) (hp : p ≤ (bodyOf its i).length + 1) : Inv its n (setPl S i p) := by
  refine ⟨h.t, h.h, h.off, fun j hj => ?_⟩
  unfold Mc.setPl
  by_cases e : j = i
  · subst e; simp only [if_true]; exact hp
  · simp only [e, if_false]; exact h.pl j hj
theorem Inv.begin_ (its : List It) (n : Nat) : Inv its n (begin_ its) :=
  ⟨fun _ _ => frOK_no its false, fun _ _ => frOK_no its true, fun _ _ h => by simp [Mc.begin_, noCp] at h, fun _ _ => by simp [Mc.begin_]⟩
theorem atB_lt {b : List UInt8} {p : Nat} (h : atB b p ≠ 101) : p < b.length := by
  by_cases e : p < b.length
  · exact e
  · simp [atB, e] at h
theorem behind_le (b : List UInt8) (p : Nat) (second : Bool) (h : p < b.length) : behind b p second ≤ b.length + 1 := by
  unfold behind
  have h1 := ahead_bd b p 124 h
  have h2 := ahead_bd b p 41 h
  have h3 := ahead_bd b p 93 h
  have h4 : back b p ≤ p := backN_le b p 0
  repeat' split
  all_goals omega
theorem bits_add : ∀ h, h < 64 → ∀ l, l < 6 → Nat.testBit h l = false → h + 2 ^ l < 64 := by decide
theorem holderFrom_none (S : Ma) (l : Nat) : ∀ m k, holderFrom S l k m = none → ∀ d, k ≤ d → d < k + m → cpHolds (S.cp d) l = false
  | 0, k, _, d, h1, h2 => by omega
  | m + 1, k, h, d, h1, h2 => by
    unfold holderFrom at h
    split at h
    · cases h
    · by_cases e : d = k
      · subst e; rename_i hh; simpa using hh
      · exact holderFrom_none S l m (k + 1) h d (by omega) (by omega)
theorem holder_none {S : Ma} {n l : Nat} (h : holder S n l = none) (d : Nat) (hd : d < n) : cpHolds (S.cp d) l = false := holderFrom_none S l n 0 h d (by omega) (by omega)
theorem works_nohold {S : Ma} {n l c : Nat} (h : holder S n l = none) (hc : c < n) : holds (works S c).held l = false := by
  have := holder_none h c hc
  unfold cpHolds at this
  rw [Bool.or_eq_false_iff] at this
  unfold works
  split
  · exact this.2
  · exact this.1
theorem works_fr {its : List It} {n : Nat} {S : Ma} (h : Inv its n S) (c : Nat) (hc : c < n) : FrOK its (S.cp c).h.there (works S c) := by
  unfold works
  cases e : (S.cp c).h.there
  · simp; exact h.t c hc
  · simp; exact h.h c hc
theorem Inv.put {its : List It} {n : Nat} {S : Ma} (h : Inv its n S) (c : Nat) (hc : c < n) (f : Fr) (hf : FrOK its (S.cp c).h.there f) (ho : (S.cp c).h.there = false → (S.cp c).off = true → f.there = true) : Inv its n (put S c f) := by
  unfold Mc.put
  refine h.setCp c _ ?_ ?_ ?_ <;> unfold putCp <;> cases e : (S.cp c).h.there <;> simp only [if_true, if_false, Bool.false_eq_true]
  · rw [e] at hf; exact hf
  · exact h.t c hc
  · exact h.h c hc
  · rw [e] at hf; exact hf
  · exact ho e
  · exact h.off c hc
theorem Inv.leaves {its : List It} {n : Nat} {S : Ma} (h : Inv its n S) (c : Nat) (hc : c < n) (p : Nat) (hp : p ≤ (bodyOf its (S.cp c).t.item).length + 1) (ho : (S.cp c).off = false) : Inv its n (leaves S c p) := by
  unfold Mc.leaves
  exact ((h.setRd _ _).setPl _ p hp).setCp c _ (frOK_no its false) (h.h c hc) (fun e => by rw [ho] at e; cases e)

theorem takes_fr {its : List It} {n : Nat} {S : Ma} (hi : Inv its n S) (ho : ItsOK its) (c : Nat) (hc : c < n) (hth : (works S c).there = true) (h43 : atB (bodyOf its (works S c).item) (works S c).pos = 43) (hl : (num (bodyOf its (works S c).item) (works S c).pos).toNat < 6) :
    FrOK its (S.cp c).h.there (takes its S n c (works S c) (num (bodyOf its (works S c).item) (works S c).pos).toNat).2 ∧ (takes its S n c (works S c) (num (bodyOf its (works S c).item) (works S c).pos).toNat).2.there = true := by
  have hf := works_fr hi c hc
  unfold takes
  cases e : holder S n (num (bodyOf its (works S c).item) (works S c).pos).toNat with
  | none =>
    simp only
    have hp : (works S c).pos < (bodyOf its (works S c).item).length := atB_lt (by rw [h43]; decide)
    refine ⟨⟨hf.item, hf.kind, fun _ => by simp only; omega, ?_, fun h => by simp only at h; rw [hth] at h; cases h⟩, hth⟩
    exact bits_add _ hf.held _ hl (works_nohold e hc)
  | some d =>
    simp only
    split
    · exact ⟨hf, hth⟩
    · split
      · exact ⟨hf, hth⟩
      · exact ⟨hf, hth⟩
theorem alone_fr {its : List It} {f : Fr} {hd off second : Bool} (hf : FrOK its hd f) (hth : f.there = true) (hp : f.pos < (bodyOf its f.item).length) :
    FrOK its hd (alone (bodyOf its f.item) f hd off second).2.1 ∧ (alone (bodyOf its f.item) f hd off second).2.1.there = true ∧ ((alone (bodyOf its f.item) f hd off second).2.2 = true → off = true ∨ hd = false) := by
  have hb := behind_le (bodyOf its f.item) f.pos second hp
  unfold alone
  split
  · split
    · refine ⟨⟨hf.item, hf.kind, fun _ => hb, ?_, fun h => by simp only at h; rw [hth] at h; cases h⟩, hth, fun h => Or.inl h⟩
      exact Nat.lt_of_le_of_lt (Nat.sub_le _ _) hf.held
    · exact ⟨hf, hth, fun h => Or.inl h⟩
  · split
    · split
      · exact ⟨hf, hth, fun h => Or.inl h⟩
      · rename_i hn
        refine ⟨⟨hf.item, hf.kind, fun _ => hb, hf.held, fun h => by simp only at h; rw [hth] at h; cases h⟩, hth, fun _ => Or.inr (by simpa using hn)⟩
    · exact ⟨⟨hf.item, hf.kind, fun _ => hb, hf.held, fun h => by simp only at h; rw [hth] at h; cases h⟩, hth, fun h => Or.inl h⟩
theorem put_cp (S : Ma) (c : Nat) (f : Fr) : (put S c f).cp c = putCp (S.cp c) f := by simp [Mc.put, Mc.setCp]
theorem num_lock' {its : List It} (ho : ItsOK its) {i p : Nat} (hi : i < its.length) (h : atB (bodyOf its i) p = 43 ∨ atB (bodyOf its i) p = 45) : (num (bodyOf its i) p).toNat < 6 := by
  have hp : p < (bodyOf its i).length := atB_lt (by rcases h with h | h <;> rw [h] <;> decide)
  simp only [atB, hp, if_true] at h
  obtain ⟨h1, h2, h3⟩ := (ho.pair i hi p hp).1 h
  rw [num, if_pos h1, if_pos h2]; omega
theorem Inv.lone {its : List It} {n : Nat} {S : Ma} (h : Inv its n S) (c : Nat) (hc : c < n) (second : Bool) (hth : (works S c).there = true) (hp : (works S c).pos < (bodyOf its (works S c).item).length) : Inv its n (lone its S c second).2 := by
  obtain ⟨h1, h2, h3⟩ := alone_fr (off := (S.cp c).off) (second := second) (works_fr h c hc) hth hp
  unfold Mc.lone setOff
  simp only
  have hput := h.put c hc _ h1 (fun _ _ => h2)
  refine hput.setCp c _ (hput.t c hc) (hput.h c hc) ?_
  simp only
  intro ho
  rw [put_cp]
  unfold putCp
  cases e : (S.cp c).h.there
  · simp only [if_false, Bool.false_eq_true]; rw [← e]; exact h2
  · simp only [if_true]
    rcases h3 ho with h3 | h3
    · exact h.off c hc h3
    · rw [e] at h3; cases h3
theorem Inv.step {its : List It} {n : Nat} {S : Ma} (h : Inv its n S) (ho : ItsOK its) (c : Nat) (hc : c < n) (second : Bool) : Inv its n (step its S n c second).2 := by
  have hf := works_fr h c hc
  unfold Mc.step
  simp only
  split
  · exact h
  rename_i hth
  have hth : (works S c).there = true := by simpa using hth
  split
  · split
    · exact h
    · rename_i hb
      refine h.put c hc _ (frOK_no its _) fun e1 e2 => ?_
      simp [e1, e2] at hb
  rename_i h101
  have hp := atB_lt h101
  split
  · rename_i h43
    obtain ⟨a1, a2⟩ := takes_fr h ho c hc hth h43 (num_lock' ho (hf.item hth) (Or.inl h43))
    exact h.put c hc _ a1 (fun _ _ => a2)
  split
  · split
    · exact h
    · rename_i h122 hb
      simp only [not_or] at hb
      obtain ⟨b1, b2, b3⟩ := hb
      have e : works S c = (S.cp c).t := by unfold works; rw [if_neg b1]
      refine h.leaves c hc _ ?_ ?_
      · rw [e] at hp ⊢; omega
      · cases e1 : (S.cp c).off
        · rfl
        · simp [e1, b1] at b3
  split
  · exact h
  exact h.lone c hc second hth hp
theorem Inv.comes {its : List It} {n : Nat} {S : Ma} (h : Inv its n S) (c : Nat) (hc : c < n) (i : Nat) : Inv its n (comes its S c i).2 := by
  unfold Mc.comes
  split
  · exact h
  rename_i h1
  simp only [not_or] at h1
  obtain ⟨hl, hh⟩ := h1
  have hl : i < its.length := by omega
  split
  · rename_i hk
    split
    · exact h
    · refine h.setCp c _ (h.t c hc) ⟨fun _ => hl, fun _ => hk, fun _ => by simp, by simp, fun e => by simp at e⟩ (h.off c hc)
  · rename_i hk
    split
    · exact h
    · refine (h.setRd i false).setCp c _ ⟨fun _ => hl, fun _ => by simpa using hk, fun _ => h.pl i hl, by simp, fun e => by simp at e⟩ (h.h c hc) (fun _ => rfl)
theorem Inv.command {its : List It} {n : Nat} {S : Ma} (h : Inv its n S) (ho : ItsOK its) (c : Nat) (hc : c < n) (what : Int) : Inv its n (command its S n c what).2 := by
  unfold Mc.command
  split
  · exact h.step ho c hc _
  split
  · exact h.comes c hc _
  split
  · exact h
  · rename_i hb
    simp only [not_or] at hb
    obtain ⟨b1, b2, b3, b4⟩ := hb
    have ht : (S.cp c).t.there = true := by simpa using b1
    exact h.leaves c hc _ ((h.t c hc).pos ht) (by simpa using b4)
end Mc
end Go.Proofs.Ytecmfdkhcffpmaa
/- Plain: the machine of three processors, of which those from n on are empty, is that of n. -/
namespace Go.Proofs.Ytecmfdkhcffpmaa
open Go.RowKit
set_option linter.unusedSimpArgs false
set_option linter.unusedVariables false
namespace Mc
open Wd

/-- Processors from n on are empty. -/
def Rest (n : Nat) (S : Ma) : Prop := ∀ d, n ≤ d → S.cp d = noCp
theorem cpHolds_no (l : Nat) : cpHolds noCp l = false := by simp [cpHolds, noCp, noFr, holds]
theorem holderFrom_nil {S : Ma} {l : Nat} : ∀ (m k : Nat), (∀ d, k ≤ d → S.cp d = noCp) → holderFrom S l k m = none
  | 0, _, _ => rfl
  | m + 1, k, h => by
    rw [holderFrom, h k (Nat.le_refl _), cpHolds_no]
    simp only [Bool.false_eq_true, if_false]
    exact holderFrom_nil m (k + 1) (fun d hd => h d (by omega))
theorem holderFrom_more {S : Ma} {l : Nat} (j : Nat) : ∀ (m k : Nat), (∀ d, k + m ≤ d → S.cp d = noCp) → holderFrom S l k m = holderFrom S l k (m + j)
  | 0, k, h => (holderFrom_nil (0 + j) k (fun d hd => h d (by omega))).symm
  | m + 1, k, h => by
    rw [show m + 1 + j = (m + j) + 1 by omega, holderFrom, holderFrom, holderFrom_more j m (k + 1) (fun d hd => h d (by omega))]
theorem holder_three {n : Nat} {S : Ma} (hr : Rest n S) (hn : n ≤ 3) (l : Nat) : holder S n l = holder S 3 l := by
  obtain ⟨j, hj⟩ : ∃ j, n + j = 3 := ⟨3 - n, by omega⟩
  unfold holder
  rw [← hj]
  exact holderFrom_more j n 0 (fun d hd => hr d (by omega))
theorem holderFrom_in {S : Ma} {l : Nat} : ∀ (m k d : Nat), holderFrom S l k m = some d → k ≤ d ∧ d < k + m
  | 0, _, _, h => by cases h
  | m + 1, k, d, h => by
    rw [holderFrom] at h
    split at h
    · cases h; omega
    · have := holderFrom_in m (k + 1) d h; omega
theorem holder_in {S : Ma} {n l d : Nat} (h : holder S n l = some d) : d < n := by have := holderFrom_in n 0 d h; omega
theorem clashAt_no {its : List It} {S : Ma} {c : Nat} {x own : Int} {d : Nat} (h : S.cp d = noCp) : clashAt its S c x own d = false := by
  have e : works S d = noFr := by simp [works, h, noCp, noFr]
  simp [clashAt, e, stands, noFr]
theorem clashFrom_nil {its : List It} {S : Ma} {c : Nat} {x own : Int} : ∀ (m k : Nat), (∀ d, k ≤ d → S.cp d = noCp) → clashFrom its S c x own k m = false
  | 0, _, _ => rfl
  | m + 1, k, h => by
    rw [clashFrom, clashAt_no (h k (Nat.le_refl _))]
    simp only [Bool.false_eq_true, if_false]
    exact clashFrom_nil m (k + 1) (fun d hd => h d (by omega))
theorem clashFrom_more {its : List It} {S : Ma} {c : Nat} {x own : Int} (j : Nat) : ∀ (m k : Nat), (∀ d, k + m ≤ d → S.cp d = noCp) → clashFrom its S c x own k m = clashFrom its S c x own k (m + j)
  | 0, k, h => (clashFrom_nil (0 + j) k (fun d hd => h d (by omega))).symm
  | m + 1, k, h => by
    rw [show m + 1 + j = (m + j) + 1 by omega, clashFrom, clashFrom, clashFrom_more j m (k + 1) (fun d hd => h d (by omega))]
theorem clash_three {its : List It} {n : Nat} {S : Ma} (hr : Rest n S) (hn : n ≤ 3) (c : Nat) (f : Fr) : clash its S n c f = clash its S 3 c f := by
  obtain ⟨j, hj⟩ : ∃ j, n + j = 3 := ⟨3 - n, by omega⟩
  unfold clash
  rw [← hj]
  exact clashFrom_more j n 0 (fun d hd => hr d (by omega))
/-- Who holds the lock that is wanted where d works. -/
def nx (its : List It) (S : Ma) (d : Nat) : Option Nat := (wantsF its (works S d)).bind (holder S 3)
/-- Whether those who hold lead to c, so many asked. -/
def leadsTo (its : List It) (S : Ma) (c : Nat) : Nat → Option Nat → Bool
  | 0, _ => false
  | _ + 1, none => false
  | m + 1, some d => if d = c then true else leadsTo its S c m (nx its S d)
theorem ringFrom_to {its : List It} {n : Nat} {S : Ma} (hr : Rest n S) (hn : n ≤ 3) (c : Nat) : ∀ (m k l : Nat), ringFrom its S n c (k + 1) m l = leadsTo its S c m (holder S 3 l)
  | 0, _, _ => by cases h : holder S 3 _ <;> rfl
  | m + 1, k, l => by
    rw [ringFrom, holder_three hr hn]
    cases holder S 3 l with
    | none => rfl
    | some d =>
      simp only [leadsTo]
      by_cases e : d = c
      · simp [e]
      · simp only [e, if_false]
        unfold nx
        cases wantsF its (works S d) with
        | none => cases m <;> rfl
        | some l' => exact ringFrom_to hr hn c m (k + 1) l'
theorem leadsTo_more {its : List It} {S : Ma} {c d0 : Nat} (hc : c < 3) (h0 : d0 < 3) (hne : d0 ≠ c) : leadsTo its S c 3 (nx its S d0) = leadsTo its S c 2 (nx its S d0) := by
  have hlt : ∀ d e, nx its S d = some e → e < 3 := by
    intro d e h
    unfold nx at h
    cases hw : wantsF its (works S d) with
    | none => rw [hw] at h; cases h
    | some l => rw [hw] at h; exact holder_in h
  cases h1 : nx its S d0 with
  | none => rfl
  | some d1 =>
    rw [leadsTo, leadsTo]
    by_cases e1 : d1 = c
    · simp [e1]
    simp only [e1, if_false]
    cases h2 : nx its S d1 with
    | none => rfl
    | some d2 =>
      rw [leadsTo, leadsTo]
      by_cases e2 : d2 = c
      · simp [e2]
      simp only [e2, if_false]
      have l1 := hlt _ _ h1
      have l2 := hlt _ _ h2
      have hh : d2 = d1 ∨ d2 = d0 ∨ d1 = d0 := by omega
      have hx : nx its S d2 ≠ some c := by
        rcases hh with e | e | e
        · rw [e, h2]; simpa using e2
        · rw [e, h1]; simpa using e1
        · rw [e] at h2; rw [h1] at h2; have e3 : d2 = d1 := by cases h2; rfl
          rw [e3, e, h1]; simpa using e1
      cases h3 : nx its S d2 with
      | none => rfl
      | some d3 =>
        rw [h3] at hx
        have e3 : d3 ≠ c := by simpa using hx
        simp [leadsTo, e3]
theorem ring_three {its : List It} {n : Nat} {S : Ma} (hr : Rest n S) (hn : n ≤ 3) (c l d0 : Nat) (hc : c < n) (hl : holder S 3 l = some d0) (hne : d0 ≠ c) : ring its S n c l = leadsTo its S c 3 (some d0) := by
  have h0 : d0 < n := holder_in (n := n) (l := l) (S := S) (by rw [holder_three hr hn]; exact hl)
  have e1 : ring its S n c l = leadsTo its S c n (nx its S d0) := by
    unfold ring
    rw [ringFrom, holder_three hr hn, hl]
    simp only [hne, if_false]
    unfold nx
    cases wantsF its (works S d0) with
    | none => cases n <;> rfl
    | some l' => exact ringFrom_to hr hn c n 0 l'
  rw [e1, leadsTo]
  simp only [hne, if_false]
  have hn2 : n = 2 ∨ n = 3 := by omega
  rcases hn2 with e | e
  · rw [e]
  · rw [e]; exact leadsTo_more (by omega) (by omega) hne
theorem takes_three {its : List It} {n : Nat} {S : Ma} (hr : Rest n S) (hn : n ≤ 3) (c : Nat) (f : Fr) (l : Nat) (hc : c < n) : takes its S n c f l = takes its S 3 c f l := by
  unfold takes
  rw [holder_three hr hn]
  cases hl : holder S 3 l with
  | none => rfl
  | some d =>
    simp only
    by_cases e : d = c
    · simp [e]
    · have hr3 : Rest 3 S := fun d hd => hr d (by omega)
      rw [ring_three hr hn c l d hc hl e, ring_three hr3 (Nat.le_refl _) c l d (by omega) hl e]
theorem step_three {its : List It} {n : Nat} {S : Ma} (hr : Rest n S) (hn : n ≤ 3) (c : Nat) (hc : c < n) (second : Bool) : step its S n c second = step its S 3 c second := by
  unfold Mc.step
  simp only [takes_three hr hn c _ _ hc, clash_three hr hn]
theorem command_three {its : List It} {n : Nat} {S : Ma} (hr : Rest n S) (hn : n ≤ 3) (c : Nat) (hc : c < n) (what : Int) : command its S n c what = command its S 3 c what := by
  unfold command
  rw [step_three hr hn c hc]
theorem Rest.setCp {n : Nat} {S : Ma} (hr : Rest n S) (c : Nat) (hc : c < n) (x : Cp) : Rest n (setCp S c x) := by
  intro d hd
  show (if d = c then x else S.cp d) = noCp
  rw [if_neg (by omega)]
  exact hr d hd
theorem Rest.leaves {n : Nat} {S : Ma} (hr : Rest n S) (c : Nat) (hc : c < n) (p : Nat) : Rest n (leaves S c p) := by
  unfold Mc.leaves
  exact Rest.setCp (S := setPl (setRd S _ true) _ p) hr c hc _
theorem Rest.step {its : List It} {n : Nat} {S : Ma} (hr : Rest n S) (m c : Nat) (hc : c < n) (second : Bool) : Rest n (step its S m c second).2 := by
  unfold Mc.step
  simp only
  split
  · exact hr
  split
  · split
    · exact hr
    · exact hr.setCp c hc _
  split
  · exact hr.setCp c hc _
  split
  · split
    · exact hr
    · exact hr.leaves c hc _
  split
  · exact hr
  · exact (hr.setCp c hc _).setCp c hc _
theorem Rest.command {its : List It} {n : Nat} {S : Ma} (hr : Rest n S) (m c : Nat) (hc : c < n) (what : Int) : Rest n (command its S m c what).2 := by
  unfold Mc.command
  split
  · exact hr.step m c hc _
  split
  · unfold comes
    split
    · exact hr
    split
    · split
      · exact hr
      · exact hr.setCp c hc _
    · split
      · exact hr
      · exact Rest.setCp (S := setRd S _ false) hr c hc _
  split
  · exact hr
  · exact hr.leaves c hc _
/-- Whatever the number of processors, the trace is that of three. -/
theorem trace_three {its : List It} {n : Nat} (hn : n ≤ 3) : ∀ (l : List UInt8) (S : Ma), Rest n S → scriptB n l = true → trace its n S l = trace its 3 S l
  | [], _, _, _ => rfl
  | [_], _, _, _ => rfl
  | a :: o :: r, S, hr, hs => by
    rw [scriptB] at hs
    simp only [Bool.and_eq_true, decide_eq_true_eq] at hs
    obtain ⟨⟨⟨h1, h2⟩, h3⟩, h4⟩ := hs
    have hc : (bt a - 48).toNat < n := by omega
    rw [trace, trace, command_three hr hn _ hc, trace_three hn r _ (hr.command 3 _ hc _) h4]
theorem Rest.begin_ (its : List It) (n : Nat) : Rest n (begin_ its) := fun _ _ => rfl
end Mc
end Go.Proofs.Ytecmfdkhcffpmaa
/- Plain: on the machine all frames stand at places. -/
namespace Go.Proofs.Ytecmfdkhcffpmaa
open Go.RowKit
set_option linter.unusedSimpArgs false
set_option linter.unusedVariables false
namespace Mc
open Wd

/-- A frame stands at a place. -/
def Sits (its : List It) (f : Fr) : Prop := f.there = true → Pl (bodyOf its f.item) f.pos
structure Ats (its : List It) (n : Nat) (S : Ma) : Prop where
  t : ∀ c, c < n → Sits its (S.cp c).t
  h : ∀ c, c < n → Sits its (S.cp c).h
  pl : ∀ i, i < its.length → Pl (bodyOf its i) (S.pl i)
theorem Sits.no (its : List It) : Sits its noFr := fun h => by simp [noFr] at h
theorem Ats.setCp {its : List It} {n : Nat} {S : Ma} (h : Ats its n S) (c : Nat) (x : Cp) (ht : Sits its x.t) (hh : Sits its x.h) : Ats its n (setCp S c x) := by
  refine ⟨fun d hd => ?_, fun d hd => ?_, h.pl⟩ <;> unfold Mc.setCp <;> by_cases e : d = c <;> simp only [e, if_true, if_false]
  · exact ht
  · exact h.t d hd
  · exact hh
  · exact h.h d hd
theorem Ats.setRd {its : List It} {n : Nat} {S : Ma} (h : Ats its n S) (i : Nat) (b : Bool) : Ats its n (setRd S i b) := ⟨h.t, h.h, h.pl⟩
theorem Ats.setPl {its : List It} {n : Nat} {S : Ma} (h : Ats its n S) (i p : Nat) (hp : i < its.length → Pl (bodyOf its i) p) : Ats its n (setPl S i p) := by
  refine ⟨h.t, h.h, fun j hj => ?_⟩
  unfold Mc.setPl
  by_cases e : j = i
  · subst e; simp only [if_true]; exact hp hj
  · simp only [e, if_false]; exact h.pl j hj
theorem Ats.begin_ (its : List It) (n : Nat) : Ats its n (begin_ its) := ⟨fun _ _ => Sits.no its, fun _ _ => Sits.no its, fun _ _ => Pl.zero _⟩
theorem Ats.works {its : List It} {n : Nat} {S : Ma} (h : Ats its n S) (c : Nat) (hc : c < n) : Sits its (works S c) := by
  unfold Mc.works
  split
  · exact h.h c hc
  · exact h.t c hc
theorem Ats.put {its : List It} {n : Nat} {S : Ma} (h : Ats its n S) (c : Nat) (hc : c < n) (f : Fr) (hf : Sits its f) : Ats its n (put S c f) := by
  unfold Mc.put
  refine h.setCp c _ ?_ ?_ <;> unfold putCp <;> split
  · exact h.t c hc
  · exact hf
  · exact hf
  · exact h.h c hc
theorem Ats.leaves {its : List It} {n : Nat} {S : Ma} (h : Ats its n S) (c : Nat) (hc : c < n) (p : Nat) (hp : Pl (bodyOf its (S.cp c).t.item) p) : Ats its n (leaves S c p) := by
  unfold Mc.leaves
  exact ((h.setRd _ _).setPl _ p (fun _ => hp)).setCp c _ (Sits.no its) (h.h c hc)
theorem behind_43 {b : List UInt8} {p : Nat} (second : Bool) (h : atB b p = 43) : behind b p second = p + 2 := by simp [behind, h]
theorem behind_122 {b : List UInt8} {p : Nat} (second : Bool) (h : atB b p = 122) : behind b p second = p + 1 := by simp [behind, h]
theorem takes_sits {its : List It} (hf : Fine its) {n : Nat} {S : Ma} (c : Nat) (f : Fr) (l : Nat) (hfr : f.there = true → f.item < its.length) (hs : Sits its f) (h43 : atB (bodyOf its f.item) f.pos = 43) : Sits its (takes its S n c f l).2 := by
  unfold takes
  split
  · split
    · exact hs
    · split
      · exact hs
      · exact hs
  · intro ht
    have ht : f.there = true := ht
    have := behind_pl (hf.bd _ (hfr ht)) f.pos (hs ht) (atB_lt (by rw [h43]; decide)) false
    rw [behind_43 _ h43] at this
    exact this
theorem alone_sits {its : List It} (hf : Fine its) {f : Fr} {hd off second : Bool} (hfr : f.there = true → f.item < its.length) (hs : Sits its f) (hp : f.pos < (bodyOf its f.item).length) : Sits its (alone (bodyOf its f.item) f hd off second).2.1 := by
  have hb : f.there = true → Pl (bodyOf its f.item) (behind (bodyOf its f.item) f.pos second) := fun ht => behind_pl (hf.bd _ (hfr ht)) f.pos (hs ht) hp second
  unfold alone
  split
  · split
    · exact hb
    · exact hs
  · split
    · split
      · exact hs
      · exact hb
    · exact hb
theorem Ats.step {its : List It} (hf : Fine its) {n : Nat} {S : Ma} (h : Ats its n S) (hi : Inv its n S) (c : Nat) (hc : c < n) (second : Bool) : Ats its n (step its S n c second).2 := by
  have hs := h.works c hc
  have hfr := works_fr hi c hc
  unfold Mc.step
  simp only
  split
  · exact h
  rename_i hth
  have hth : (Mc.works S c).there = true := by simpa using hth
  split
  · split
    · exact h
    · exact h.put c hc _ (Sits.no its)
  rename_i h101
  have hp := atB_lt h101
  split
  · rename_i h43
    exact h.put c hc _ (takes_sits hf c _ _ hfr.item hs h43)
  split
  · rename_i h122
    split
    · exact h
    · rename_i hb
      simp only [not_or] at hb
      have e : Mc.works S c = (S.cp c).t := by unfold Mc.works; rw [if_neg hb.1]
      have := behind_pl (hf.bd _ (hfr.item hth)) _ (hs hth) hp false
      rw [behind_122 _ h122] at this
      rw [e] at this ⊢
      exact h.leaves c hc _ this
  split
  · exact h
  · unfold Mc.lone setOff
    simp only
    have hput := h.put c hc _ (alone_sits hf (hd := (S.cp c).h.there) (off := (S.cp c).off) (second := second) hfr.item hs hp)
    exact hput.setCp c _ (hput.t c hc) (hput.h c hc)
theorem Ats.command {its : List It} (hf : Fine its) {n : Nat} {S : Ma} (h : Ats its n S) (hi : Inv its n S) (c : Nat) (hc : c < n) (what : Int) : Ats its n (command its S n c what).2 := by
  unfold Mc.command
  split
  · exact h.step hf hi c hc _
  split
  · unfold comes
    split
    · exact h
    rename_i h1
    simp only [not_or] at h1
    split
    · split
      · exact h
      · exact h.setCp c _ (h.t c hc) (fun _ => Pl.zero _)
    · split
      · exact h
      · exact (h.setRd _ false).setCp c _ (fun _ => h.pl _ (show (what - 48).toNat < its.length by omega)) (h.h c hc)
  split
  · exact h
  · rename_i hb
    simp only [not_or] at hb
    exact h.leaves c hc _ (h.t c hc (by simpa using hb.1))
end Mc
end Go.Proofs.Ytecmfdkhcffpmaa
