/- KpS. -/
import Derived.Test.YtecmfdkhcffpmabB13
import Derived.Test.YtecmfdkhcffpmabB15
/- Plain: on the machine each frame is at a state of its item by itself; a lock has one holder. -/
namespace Go.Proofs.Ytecmfdkhcffpmab
open Go.RowKit
set_option linter.unusedSimpArgs false
set_option linter.unusedVariables false
open Mc
namespace Mc
open Wd
/-- A frame, if it is there, is at a state of its item. -/
def FS (its : List It) (hd : Bool) (f : Fr) (off : Bool) : Prop := f.there = true → Rch hd (bodyOf its f.item) (f.pos, f.held, off)
theorem FS.no (its : List It) (hd off : Bool) : FS its hd noFr off := fun h => by simp [noFr] at h
structure SI (its : List It) (S : Ma) : Prop where
  t : ∀ c, FS its false (S.cp c).t (S.cp c).off
  h : ∀ c, FS its true (S.cp c).h true
  off : ∀ c, (S.cp c).h.there = true → (S.cp c).off = false
  rd : ∀ i, S.rd i = true → Rch false (bodyOf its i) (S.pl i, 0, false)
  u1 : ∀ c d, (S.cp c).t.there = true → (S.cp d).t.there = true → (S.cp c).t.item = (S.cp d).t.item → c = d
  u2 : ∀ c, (S.cp c).t.there = true → S.rd (S.cp c).t.item = false
  one : ∀ l c d, cpHolds (S.cp c) l = true → cpHolds (S.cp d) l = true → c = d
theorem SI.begin_ (its : List It) : SI its (begin_ its) := by
  refine ⟨fun c => FS.no _ _ _, fun c => FS.no _ _ _, fun c h => rfl, fun i _ => Rch.begin, fun c d h => ?_, fun c h => ?_, fun l c d h => ?_⟩
  · simp [Mc.begin_, noCp, noFr] at h
  · simp [Mc.begin_, noCp, noFr] at h
  · simp [Mc.begin_, noCp, noFr, cpHolds, holds] at h
theorem SI.setCp {its : List It} {S : Ma} (h : SI its S) (c : Nat) (x : Cp) (ht : FS its false x.t x.off) (hh : FS its true x.h true) (ho : x.h.there = true → x.off = false)
    (hu1 : x.t.there = true → ∀ d, d ≠ c → (S.cp d).t.there = true → (S.cp d).t.item ≠ x.t.item) (hu2 : x.t.there = true → S.rd x.t.item = false)
    (hone : ∀ l, cpHolds x l = true → ∀ d, d ≠ c → cpHolds (S.cp d) l = false) : SI its (setCp S c x) := by
  have e1 : (Mc.setCp S c x).cp c = x := by simp [Mc.setCp]
  have e2 : ∀ d, d ≠ c → (Mc.setCp S c x).cp d = S.cp d := fun d hd => by simp [Mc.setCp, hd]
  refine ⟨fun d => ?_, fun d => ?_, fun d => ?_, h.rd, fun a d ha hd he => ?_, fun d hd => ?_, fun l a d ha hd => ?_⟩
  · by_cases e : d = c
    · subst e; rw [e1]; exact ht
    · rw [e2 d e]; exact h.t d
  · by_cases e : d = c
    · subst e; rw [e1]; exact hh
    · rw [e2 d e]; exact h.h d
  · by_cases e : d = c
    · subst e; rw [e1]; exact ho
    · rw [e2 d e]; exact h.off d
  · by_cases ea : a = c
    · subst ea
      by_cases ed : d = a
      · exact ed.symm
      · rw [e1] at ha he; rw [e2 d ed] at hd he
        exact absurd he.symm (hu1 ha d ed hd)
    · by_cases ed : d = c
      · subst ed
        rw [e1] at hd he; rw [e2 a ea] at ha he
        exact absurd he (hu1 hd a ea ha)
      · rw [e2 a ea] at ha he; rw [e2 d ed] at hd he
        exact h.u1 a d ha hd he
  · by_cases e : d = c
    · subst e; rw [e1] at hd ⊢; exact hu2 hd
    · rw [e2 d e] at hd ⊢; exact h.u2 d hd
  · by_cases ea : a = c
    · subst ea
      by_cases ed : d = a
      · exact ed.symm
      · rw [e1] at ha; rw [e2 d ed] at hd
        rw [hone l ha d ed] at hd; cases hd
    · by_cases ed : d = c
      · subst ed
        rw [e1] at hd; rw [e2 a ea] at ha
        rw [hone l hd a ea] at ha; cases ha
      · rw [e2 a ea] at ha; rw [e2 d ed] at hd
        exact h.one l a d ha hd
/-- What a processor holds alone. -/
theorem SI.sub {its : List It} {S : Ma} (h : SI its S) (c : Nat) (x : Cp) (hx : ∀ l, cpHolds x l = true → cpHolds (S.cp c) l = true) : ∀ l, cpHolds x l = true → ∀ d, d ≠ c → cpHolds (S.cp d) l = false := by
  intro l hl d hd
  cases hq : cpHolds (S.cp d) l
  · rfl
  · exact absurd (h.one l d c hq (hx l hl)) hd
theorem SI.keepT {its : List It} {S : Ma} (h : SI its S) (c : Nat) : (S.cp c).t.there = true → ∀ d, d ≠ c → (S.cp d).t.there = true → (S.cp d).t.item ≠ (S.cp c).t.item :=
  fun ht d hd hdt e => hd (h.u1 d c hdt ht e)
theorem SI.ready {its : List It} {S : Ma} (h : SI its S) (i p : Nat) (hr : Rch false (bodyOf its i) (p, 0, false)) (hn : ∀ d, (S.cp d).t.there = true → (S.cp d).t.item ≠ i) : SI its (setPl (setRd S i true) i p) := by
  refine ⟨h.t, h.h, h.off, fun j hj => ?_, h.u1, fun d hd => ?_, h.one⟩
  · by_cases e : j = i
    · subst e; simp only [setPl, setRd, if_true]; exact hr
    · simp only [setPl, setRd, e, if_false] at hj ⊢; exact h.rd j hj
  · have := hn d hd
    simp only [setPl, setRd] at this ⊢
    rw [if_neg this]; exact h.u2 d hd
theorem setPl_setCp (S : Ma) (i p c : Nat) (b : Bool) (x : Cp) : Mc.setCp (setPl (setRd S i b) i p) c x = setPl (setRd (Mc.setCp S c x) i b) i p := rfl
theorem SI.goes {its : List It} {S : Ma} (h : SI its S) (c p : Nat) (hth : (S.cp c).t.there = true) (hh : (S.cp c).h.there = false) (hr : Rch false (bodyOf its (S.cp c).t.item) (p, 0, false)) :
    SI its (Mc.setCp (setPl (setRd S (S.cp c).t.item true) (S.cp c).t.item p) c { (S.cp c) with t := noFr, off := false }) := by
  rw [setPl_setCp]
  have hs : SI its (Mc.setCp S c { (S.cp c) with t := noFr, off := false }) :=
    h.setCp c _ (FS.no _ _ _) (h.h c) (fun _ => rfl) (fun e => by simp [noFr] at e) (fun e => by simp [noFr] at e)
      (h.sub c _ fun l hl => by
        simp only [cpHolds, noFr, holds, Nat.zero_testBit, Bool.false_or] at hl
        simp only [cpHolds, holds, hl, Bool.or_true])
  refine hs.ready _ _ hr (fun d hd => ?_)
  by_cases e : d = c
  · subst e; simp [Mc.setCp, noFr] at hd
  · simp only [Mc.setCp, e, if_false] at hd ⊢
    exact h.keepT c hth d e hd
theorem leaves_eq (S : Ma) (c p : Nat) (ho : (S.cp c).off = false) : leaves S c p = Mc.setCp (setPl (setRd S (S.cp c).t.item true) (S.cp c).t.item p) c { (S.cp c) with t := noFr, off := false } := by
  unfold leaves
  rw [← ho]
theorem bit_add' : ∀ h, h < 64 → ∀ k, k < 6 → ∀ l, l < 6 → (Nat.testBit h k || !Nat.testBit (h + 2 ^ k) l || Nat.testBit h l || l == k) = true := by decide
theorem bit_add (h : Nat) (hh : h < 64) (k : Nat) (hk : k < 6) (h1 : Nat.testBit h k = false) (l : Nat) (hl : l < 6) (h2 : Nat.testBit (h + 2 ^ k) l = true) : Nat.testBit h l = true ∨ l = k := by
  have := bit_add' h hh k hk l hl
  rw [h1, h2] at this
  simpa using this
theorem bit_sub' : ∀ h, h < 64 → ∀ k, k < 6 → ∀ l, l < 6 → (!Nat.testBit h k || !Nat.testBit (h - 2 ^ k) l || Nat.testBit h l) = true := by decide
theorem bit_sub (h : Nat) (hh : h < 64) (k : Nat) (hk : k < 6) (h1 : Nat.testBit h k = true) (l : Nat) (hl : l < 6) (h2 : Nat.testBit (h - 2 ^ k) l = true) : Nat.testBit h l = true := by
  have := bit_sub' h hh k hk l hl
  rw [h1, h2] at this
  simpa using this
theorem bit_six {h l : Nat} (hh : h < 64) (hl : Nat.testBit h l = true) : l < 6 := by
  by_cases e : l < 6
  · exact e
  · rw [Nat.testBit_lt_two_pow (show h < 2 ^ l from Nat.lt_of_lt_of_le hh (by rw [show (64 : Nat) = 2 ^ 6 from rfl]; exact Nat.pow_le_pow_right (by decide) (by omega)))] at hl
    cases hl
/-- A step takes at most the lock that stands there. -/
theorem stp_held {b : List UInt8} (hg : GB b) {hd : Bool} {s : St3} (hs : s.2.1 < 64) (comma : Bool) (l : Nat) (h : (stp hd b s comma).2.1.testBit l = true) : s.2.1.testBit l = true ∨ (atB b s.1 = 43 ∧ l = (num b s.1).toNat) := by
  unfold stp stepS at h
  split at h
  · rename_i hf
    have h64 := nextP_held (comma := comma) hg.pair hs hf
    have hl := bit_six h64 h
    unfold nextP at h
    by_cases e43 : atB b s.1 = 43
    · rw [if_pos e43] at h
      have hn := num_lockB hg.pair (Or.inl e43)
      unfold faultP at hf
      rw [if_pos e43, hasB_num hg.pair (Or.inl e43)] at hf
      have hq : holds s.2.1 (num b s.1).toNat = false := by
        cases hq : holds s.2.1 (num b s.1).toNat
        · rfl
        · rw [hq] at hf; simp at hf
      rcases bit_add _ hs _ (by omega) hq l hl h with h | h
      · exact Or.inl h
      · exact Or.inr ⟨e43, h⟩
    rw [if_neg e43] at h
    by_cases e45 : atB b s.1 = 45
    · rw [if_pos e45] at h
      have hn := num_lockB hg.pair (Or.inr e45)
      unfold faultP at hf
      rw [if_neg e43, if_pos e45, hasB_num hg.pair (Or.inr e45)] at hf
      have hq : holds s.2.1 (num b s.1).toNat = true := by
        cases hq : holds s.2.1 (num b s.1).toNat
        · rw [hq] at hf; simp at hf
        · rfl
      exact Or.inl (bit_sub _ hs _ (by omega) hq l hl h)
    rw [if_neg e45] at h
    left
    revert h
    repeat' split
    all_goals exact fun h => h
  · exact Or.inl h
/-- A handler's interrupts stay off. -/
theorem stp_off {b : List UInt8} {s : St3} (hs : s.2.2 = true) (comma : Bool) : (stp true b s comma).2.2 = true := by
  unfold stp stepS
  split
  · rename_i hf
    unfold nextP
    by_cases e62 : atB b s.1 = 62
    · unfold faultP at hf
      simp [e62] at hf
    repeat' split
    all_goals first | exact hs | rfl | (exfalso; omega)
  · exact hs
/-- It sleeps, or ends, if nothing is wrong: the letter tells. -/
theorem stepS_122 {hd : Bool} {b : List UInt8} {p h : Nat} {off comma : Bool} (e : (stepS hd b p h off comma).2 = 122) : hd = false ∧ off = false ∧ h = 0 ∧ (stepS hd b p h off comma).1 = (p + 1, 0, false) := by
  have hv := faultP_vals hd b p h off
  unfold stepS at e ⊢
  by_cases hf : faultP hd b p h off = 0
  · rw [if_pos hf] at e ⊢
    have e : atB b p = 122 := e
    have hn : nextP b p h off comma = (p + 1, h, off) := by simp [nextP, e]
    unfold faultP at hf
    rw [if_neg (by omega), if_neg (by omega), if_pos e] at hf
    have : ¬ (hd = true ∨ off = true ∨ (h == 0) = false) := by intro hh; rw [if_pos hh] at hf; cases hf
    simp only [not_or] at this
    have h1 : hd = false := by simpa using this.1
    have h2 : off = false := by simpa using this.2.1
    have h3 : h = 0 := by simpa using this.2.2
    refine ⟨h1, h2, h3, ?_⟩
    rw [hn, h2, h3]
  · rw [if_neg hf] at e
    simp only at e
    omega
theorem SI.works {its : List It} {S : Ma} (h : SI its S) (hi : Inv its 3 S) (c : Nat) (hc : c < 3) (hth : (works S c).there = true) : Rch (isH its (works S c).item) (bodyOf its (works S c).item) ((works S c).pos, (works S c).held, frOff S c) := by
  have hk := (works_fr hi c hc).kind hth
  rw [hk]
  unfold Mc.works frOff at *
  cases e : (S.cp c).h.there
  · rw [e] at hth
    simp only [Bool.false_eq_true, if_false] at hth ⊢
    exact h.t c hth
  · simp only [if_true]
    exact h.h c e
theorem hind_free {its : List It} {S : Ma} {c : Nat} {f : Fr} (hr : Rest 3 S) (h : hindP its S c f = 0) (e : atB (bodyOf its f.item) f.pos = 43) : ∀ d, cpHolds (S.cp d) (num (bodyOf its f.item) f.pos).toNat = false := by
  unfold hindP waitP at h
  rw [if_pos e] at h
  cases hl : holder S 3 (num (bodyOf its f.item) f.pos).toNat with
  | none =>
    intro d
    by_cases hd : d < 3
    · exact holder_none hl d hd
    · rw [hr d (by omega)]; exact cpHolds_no _
  | some d =>
    rw [hl] at h
    simp only at h
    split at h
    · cases h
    · split at h <;> cases h
theorem works_h {S : Ma} {c : Nat} (e : (S.cp c).h.there = true) : works S c = (S.cp c).h := by unfold works; rw [if_pos e]
theorem works_t {S : Ma} {c : Nat} (e : (S.cp c).h.there = false) : works S c = (S.cp c).t := by unfold works; rw [if_neg (by rw [e]; decide)]
theorem SI.step {its : List It} (hf : Fine its) {S : Ma} (h : SI its S) (hi : Inv its 3 S) (hs : Ats its 3 S) (hr : Rest 3 S) (c : Nat) (hc : c < 3) (comma : Bool) : SI its (step its S 3 c comma).2 := by
  rw [← stepM_eq hf hi hs hr c hc comma]
  unfold stepM
  simp only
  by_cases hth0 : (Mc.works S c).there = false
  · rw [if_pos hth0]; exact h
  have hth : (Mc.works S c).there = true := by simpa using hth0
  rw [if_neg hth0]
  by_cases hh : hindP its S c (Mc.works S c) ≠ 0
  · rw [if_pos hh]; exact h
  rw [if_neg hh]
  have hh : hindP its S c (Mc.works S c) = 0 := by simpa using hh
  have hR := h.works hi c hc hth
  have hfr := works_fr hi c hc
  have hk := hfr.kind hth
  have hg := hf.gb (hfr.item hth)
  by_cases e122 : (stepS (isH its (Mc.works S c).item) (bodyOf its (Mc.works S c).item) (Mc.works S c).pos (Mc.works S c).held (frOff S c) comma).2 = 122
  · rw [if_pos e122]
    obtain ⟨k1, k2, k3, k4⟩ := stepS_122 e122
    have hht : (S.cp c).h.there = false := by rw [← hk]; exact k1
    have ew := works_t hht
    have hq := hR.step comma
    unfold stp at hq
    simp only at hq
    rw [k4, k1, ew] at hq
    rw [k4]
    unfold layP
    rw [if_neg (show ¬ ((setPl (setRd S (Mc.works S c).item true) (Mc.works S c).item (((Mc.works S c).pos + 1, 0, false) : St3).1).cp c).h.there = true from by show ¬ (S.cp c).h.there = true; rw [hht]; decide)]
    rw [ew] at hth ⊢
    exact h.goes c _ hth hht hq
  rw [if_neg e122]
  by_cases e101 : (stepS (isH its (Mc.works S c).item) (bodyOf its (Mc.works S c).item) (Mc.works S c).pos (Mc.works S c).held (frOff S c) comma).2 = 101
  · rw [if_pos e101]
    unfold layP
    cases hht : (S.cp c).h.there
    · simp only [Bool.false_eq_true, if_false]
      refine h.setCp c _ (FS.no _ _ _) (h.h c) (fun _ => rfl) (fun e => by simp [noFr] at e) (fun e => by simp [noFr] at e) (h.sub c _ fun l hl => ?_)
      simp only [cpHolds, noFr, holds, Nat.zero_testBit, Bool.false_or] at hl
      simp only [cpHolds, holds, hl, Bool.or_true]
    · simp only [if_true]
      refine h.setCp c _ (h.t c) (FS.no _ _ _) (fun e => by simp [noFr] at e) (h.keepT c) (h.u2 c) (h.sub c _ fun l hl => ?_)
      simp only [cpHolds, noFr, holds, Nat.zero_testBit, Bool.or_false] at hl
      simp only [cpHolds, holds, hl, Bool.true_or]
  rw [if_neg e101]
  simp only
  have hq := hR.step comma
  have hheld := fun l => stp_held (hd := isH its (Mc.works S c).item) hg (s := ((Mc.works S c).pos, (Mc.works S c).held, frOff S c)) hfr.held comma l
  have hoff := fun (e : isH its (Mc.works S c).item = true) => stp_off (b := bodyOf its (Mc.works S c).item) (s := ((Mc.works S c).pos, (Mc.works S c).held, true)) rfl comma
  have hfree := hind_free (c := c) hr hh
  have hst : (stepS (isH its (Mc.works S c).item) (bodyOf its (Mc.works S c).item) (Mc.works S c).pos (Mc.works S c).held (frOff S c) comma).1 = stp (isH its (Mc.works S c).item) (bodyOf its (Mc.works S c).item) ((Mc.works S c).pos, (Mc.works S c).held, frOff S c) comma := rfl
  rw [hst]
  unfold layP
  cases hht : (S.cp c).h.there
  · have ew := works_t hht
    have hfo : frOff S c = (S.cp c).off := by unfold frOff; rw [if_neg (by rw [hht]; decide)]
    rw [hht] at hk
    rw [hk] at hq hheld ⊢
    rw [ew, hfo] at hq hheld ⊢
    rw [ew] at hfree hth
    generalize stp false (bodyOf its (S.cp c).t.item) ((S.cp c).t.pos, (S.cp c).t.held, (S.cp c).off) comma = z at *
    simp only [Bool.false_eq_true, if_false]
    refine h.setCp c _ (fun _ => hq) (h.h c) (fun e => by rw [hht] at e; cases e) (fun _ => h.keepT c hth) (fun _ => h.u2 c hth) ?_
    intro l hl d hd
    simp only [cpHolds, Bool.or_eq_true] at hl
    have hcp : cpHolds (S.cp c) l = true → cpHolds (S.cp d) l = false := fun e => by
      cases hq : cpHolds (S.cp d) l
      · rfl
      · exact absurd (h.one l d c hq e) hd
    rcases hl with hl | hl
    · rcases hheld l hl with h1 | ⟨h1, h2⟩
      · exact hcp (by simp only [cpHolds, Bool.or_eq_true]; exact Or.inl h1)
      · rw [h2]; exact hfree h1 d
    · exact hcp (by simp only [cpHolds, Bool.or_eq_true]; exact Or.inr hl)
  · have ew := works_h hht
    have hfo : frOff S c = true := by unfold frOff; rw [if_pos hht]
    rw [hht] at hk
    have hoff := hoff hk
    rw [hk] at hq hheld ⊢
    rw [ew, hfo] at hq hheld ⊢
    rw [ew] at hfree hth hoff
    generalize stp true (bodyOf its (S.cp c).h.item) ((S.cp c).h.pos, (S.cp c).h.held, true) comma = z at *
    simp only [if_true]
    have hz : (z.1, z.2.1, true) = z := by rw [← hoff]
    refine h.setCp c _ (h.t c) (fun _ => ?_) (fun _ => h.off c hht) (h.keepT c) (h.u2 c) ?_
    · show Rch true _ (z.1, z.2.1, true)
      rw [hz]; exact hq
    intro l hl d hd
    simp only [cpHolds, Bool.or_eq_true] at hl
    have hcp : cpHolds (S.cp c) l = true → cpHolds (S.cp d) l = false := fun e => by
      cases hq : cpHolds (S.cp d) l
      · rfl
      · exact absurd (h.one l d c hq e) hd
    rcases hl with hl | hl
    · exact hcp (by simp only [cpHolds, Bool.or_eq_true]; exact Or.inl hl)
    · rcases hheld l hl with h1 | ⟨h1, h2⟩
      · exact hcp (by simp only [cpHolds, Bool.or_eq_true]; exact Or.inr h1)
      · rw [h2]; exact hfree h1 d
theorem SI.comes {its : List It} {S : Ma} (h : SI its S) (hi : Inv its 3 S) (c : Nat) (hc : c < 3) (i : Nat) : SI its (comes its S c i).2 := by
  unfold Mc.comes
  split
  · exact h
  rename_i h1
  simp only [not_or] at h1
  have hht : (S.cp c).h.there = false := by simpa using h1.2
  have hnoh : (S.cp c).h = noFr := (hi.h c hc).none hht
  split
  · rename_i h2
    split
    · exact h
    · rename_i h3
      have h3 : (S.cp c).off = false := by simpa using h3
      refine h.setCp c _ (h.t c) (fun _ => Rch.begin) (fun _ => h3) (h.keepT c) (h.u2 c) (h.sub c _ fun l hl => ?_)
      simp only [cpHolds, holds, Nat.zero_testBit, Bool.or_false] at hl
      simp only [cpHolds, holds, hl, Bool.true_or]
  · split
    · exact h
    · rename_i h3
      simp only [not_or] at h3
      have ht : (S.cp c).t.there = false := by simpa using h3.1
      have hrd : S.rd i = true := by simpa using h3.2
      have ho : (S.cp c).off = false := by
        cases e : (S.cp c).off
        · rfl
        · have := hi.off c hc e; rw [ht] at this; cases this
      have hno : (S.cp c).t = noFr := (hi.t c hc).none ht
      have hS : SI its (setRd S i false) := by
        refine ⟨h.t, h.h, h.off, fun j hj => ?_, h.u1, fun d hd => ?_, h.one⟩
        · by_cases e : j = i
          · subst e; simp [setRd] at hj
          · simp only [setRd, e, if_false] at hj ⊢; exact h.rd j hj
        · have := h.u2 d hd
          simp only [setRd]
          split
          · rfl
          · exact this
      refine hS.setCp c _ (fun _ => ?_) (h.h c) (fun e => by rw [show ({ (S.cp c) with t := (⟨true, i, S.pl i, 0⟩ : Fr) } : Cp).h.there = (S.cp c).h.there from rfl, hht] at e; cases e) (fun _ d hd hdt e => ?_) (fun _ => by simp [setRd]) (hS.sub c _ fun l hl => ?_)
      · show Rch false _ (S.pl i, 0, (S.cp c).off)
        rw [ho]; exact h.rd i hrd
      · have e2 := h.u2 d hdt
        have e : (S.cp d).t.item = i := e
        rw [e, hrd] at e2; cases e2
      · simp only [cpHolds, holds, Nat.zero_testBit, Bool.false_or, hnoh] at hl
        simp [noFr] at hl
theorem SI.command {its : List It} (hf : Fine its) {S : Ma} (h : SI its S) (hi : Inv its 3 S) (hs : Ats its 3 S) (hr : Rest 3 S) (c : Nat) (hc : c < 3) (what : Int) : SI its (command its S 3 c what).2 := by
  unfold Mc.command
  split
  · exact h.step hf hi hs hr c hc _
  split
  · exact h.comes hi c hc _
  split
  · exact h
  · rename_i h1
    simp only [not_or] at h1
    obtain ⟨h1, h2, h3, h4⟩ := h1
    have a1 : (S.cp c).t.there = true := by simpa using h1
    have a2 : (S.cp c).h.there = false := by simpa using h2
    have a3 : (S.cp c).t.held = 0 := by omega
    have a4 : (S.cp c).off = false := by simpa using h4
    have := h.t c a1
    rw [a3, a4] at this
    rw [leaves_eq S c _ a4]
    exact h.goes c _ a1 a2 this
/-- All that holds of the machine. -/
structure All3 (its : List It) (S : Ma) : Prop where
  inv : Inv its 3 S
  ats : Ats its 3 S
  rest : Rest 3 S
  si : SI its S
theorem All3.begin_ (its : List It) : All3 its (begin_ its) := ⟨Inv.begin_ its 3, Ats.begin_ its 3, Rest.begin_ its 3, SI.begin_ its⟩
theorem All3.command {its : List It} (hf : Fine its) {S : Ma} (h : All3 its S) (c : Nat) (hc : c < 3) (what : Int) : All3 its (command its S 3 c what).2 :=
  ⟨h.inv.command hf.ok c hc what, h.ats.command hf h.inv c hc what, h.rest.command 3 c hc what, h.si.command hf h.inv h.ats h.rest c hc what⟩
end Mc
end Go.Proofs.Ytecmfdkhcffpmab
