/- PureP3. -/
import Derived.Test.YtecmfdkhcffpmabB10
import Derived.Test.YtecmfdkhcffpmabB03
import Derived.Test.YtecmfdkhcffpmabB11
/- Plain: the program's machine, and that it is the document's. -/
namespace Go.Proofs.Ytecmfdkhcffpmab
open Go.RowKit
set_option linter.unusedSimpArgs false
set_option linter.unusedVariables false
namespace Mc
open Wd

/-- The state behind a step that goes well. -/
def nextP (b : List UInt8) (p h : Nat) (off comma : Bool) : Nat × Nat × Bool :=
  if atB b p = 43 then (p + 2, h + 2 ^ (num b p).toNat, off)
  else if atB b p = 45 then (p + 2, h - 2 ^ (num b p).toNat, off)
  else if atB b p = 114 ∨ atB b p = 119 then (p + 2, h, off)
  else if atB b p = 60 then (p + 1, h, true)
  else if atB b p = 62 then (p + 1, h, false)
  else if atB b p = 40 ∨ atB b p = 91 then (if comma = true then leads b p else p + 1, h, off)
  else if atB b p = 124 ∨ atB b p = 93 then (leads b p, h, off)
  else if atB b p = 122 ∨ atB b p = 41 then (p + 1, h, off)
  else (p, h, off)
/-- A step of an item by itself: the state behind it, the byte. -/
def stepS (hd : Bool) (b : List UInt8) (p h : Nat) (off comma : Bool) : (Nat × Nat × Bool) × Int :=
  if faultP hd b p h off = 0 then (nextP b p h off comma, atB b p) else ((p, h, off), faultP hd b p h off)
def waitP (its : List It) (S : Ma) (c l : Nat) : Int :=
  match holder S 3 l with
  | none => 0
  | some d => if d = c then 68 else if leadsTo its S c 3 (some d) = true then 87 else 58
def hindP (its : List It) (S : Ma) (c : Nat) (f : Fr) : Int :=
  if atB (bodyOf its f.item) f.pos = 43 then waitP its S c (num (bodyOf its f.item) f.pos).toNat
  else if atB (bodyOf its f.item) f.pos = 114 ∨ atB (bodyOf its f.item) f.pos = 119 then (if clash its S 3 c f = true then 82 else 0)
  else 0
def frOff (S : Ma) (c : Nat) : Bool := if (S.cp c).h.there = true then true else (S.cp c).off
/-- The frame that works is laid anew, with its own bit. -/
def layP (S : Ma) (c : Nat) (f : Fr) (o : Bool) : Ma := setCp S c (if (S.cp c).h.there = true then { (S.cp c) with h := f } else { (S.cp c) with t := f, off := o })
def stepM (its : List It) (S : Ma) (c : Nat) (comma : Bool) : Int × Ma :=
  let f := works S c
  if f.there = false then (95, S)
  else if hindP its S c f ≠ 0 then (hindP its S c f, S)
  else
    let r := stepS (isH its f.item) (bodyOf its f.item) f.pos f.held (frOff S c) comma
    if r.2 = 122 then (122, layP (setPl (setRd S f.item true) f.item r.1.1) c noFr false)
    else if r.2 = 101 then (101, layP S c noFr false)
    else (r.2, layP S c { f with pos := r.1.1, held := r.1.2.1 } r.1.2.2)
theorem setCp_self (S : Ma) (c : Nat) : setCp S c (S.cp c) = S := by
  unfold setCp
  have : (fun d => if d = c then S.cp c else S.cp d) = S.cp := by
    funext d
    by_cases e : d = c
    · simp [e]
    · simp [e]
  rw [this]
theorem setCp_setCp (S : Ma) (c : Nat) (x y : Cp) : setCp (setCp S c x) c y = setCp S c y := by
  unfold setCp
  congr 1
  funext d
  by_cases e : d = c
  · simp [e]
  · simp [e]
theorem layP_put (S : Ma) (c : Nat) (g : Fr) : layP S c g (frOff S c) = put S c g := by
  unfold layP put putCp frOff
  cases e : (S.cp c).h.there
  · simp only [Bool.false_eq_true, if_false]
  · simp only [if_true]
theorem put_works (S : Ma) (c : Nat) : put S c (works S c) = S := by
  unfold put putCp works
  cases e : (S.cp c).h.there
  · simp only [Bool.false_eq_true, if_false]; exact setCp_self S c
  · simp only [if_true]; exact setCp_self S c
theorem layP_same (S : Ma) (c : Nat) : layP S c (works S c) (frOff S c) = S := by rw [layP_put, put_works]
theorem setOff_put (S : Ma) (c : Nat) (g : Fr) : setOff (put S c g) c (S.cp c).off = put S c g := by
  unfold setOff
  rw [put_cp]
  have e : ({ putCp (S.cp c) g with off := (S.cp c).off } : Cp) = putCp (S.cp c) g := by
    unfold putCp
    split
    · rfl
    · rfl
  rw [e]
  unfold put
  rw [setCp_setCp]
theorem layP_off {S : Ma} {c : Nat} (h : (S.cp c).h.there = false) (g : Fr) (o : Bool) : layP S c g o = setOff (put S c g) c o := by
  unfold setOff
  rw [put_cp]
  unfold layP put putCp
  simp only [h, Bool.false_eq_true, if_false]
  rw [setCp_setCp]
theorem nextP_plain {b : List UInt8} (h : Bd b) {p : Nat} (hp : p < b.length) (hd : Nat) (off comma : Bool) (hv : atB b p = 114 ∨ atB b p = 119 ∨ atB b p = 40 ∨ atB b p = 91 ∨ atB b p = 124 ∨ atB b p = 93 ∨ atB b p = 41 ∨ atB b p = 122) : nextP b p hd off comma = (behind b p comma, hd, off) := by
  have ha : atB b p = at_ b p := by simp [atB, hp]
  rcases hv with e | e | e | e | e | e | e | e
  · simp [nextP, behind, e]
  · simp [nextP, behind, e]
  · have := leads_40 h p hp (by rw [← ha]; exact e)
    cases comma <;> simp [nextP, behind, e, this]
  · have := leads_91 h p hp (by rw [← ha]; exact e)
    cases comma <;> simp [nextP, behind, e, this]
  · have := leads_124 h p hp (by rw [← ha]; exact e)
    simp [nextP, behind, e, this]
  · have := leads_93 h p hp (by rw [← ha]; exact e)
    simp [nextP, behind, e, this]
  · simp [nextP, behind, e]
  · simp [nextP, behind, e]
theorem hasB_num {b : List UInt8} (h : PairOK b) {p : Nat} (hv : atB b p = 43 ∨ atB b p = 45) (x : Nat) : hasB x (numP b p) = holds x (num b p).toNat := by
  have hp : p < b.length := atB_lt (by rcases hv with e | e <;> rw [e] <;> decide)
  have e : numP b p = num b p := by unfold numP; rw [if_pos (by omega)]
  have ha : atB b p = at_ b p := by simp [atB, hp]
  rw [ha] at hv
  obtain ⟨h1, h2, h3⟩ := (h p hp).1 hv
  have hn : num b p = at_ b (p + 1) - 97 := by rw [num, if_pos h1, if_pos h2]
  rw [e]
  unfold hasB
  rw [show decide (0 ≤ num b p) = true by simp; omega, show decide (num b p < 6) = true by simp; omega]
  rfl
theorem stepM_eq {its : List It} (hf : Fine its) {S : Ma} (hi : Inv its 3 S) (hs : Ats its 3 S) (hr : Rest 3 S) (c : Nat) (hc : c < 3) (comma : Bool) : stepM its S c comma = step its S 3 c comma := by
  have hfr := works_fr hi c hc
  have hw := hs.works c hc
  have l1 := layP_same S c
  have l2 := fun g => layP_put S c g
  unfold stepM Mc.step
  simp only
  by_cases hth0 : (works S c).there = false
  · rw [if_pos hth0, if_pos hth0]
  have hth : (works S c).there = true := by simpa using hth0
  rw [if_neg hth0, if_neg hth0]
  have hit := hfr.item hth
  have hk := hfr.kind hth
  have hpl := hw hth
  have hbd := hf.bd _ hit
  have hno := hf.noUp _ hit
  have hpo := pairOK_bd hbd
  generalize hB : bodyOf its (works S c).item = b at *
  by_cases hge : b.length ≤ (works S c).pos
  · have hlt : ¬ (works S c).pos < b.length := by omega
    have hv : atB b (works S c).pos = 101 := by simp [atB, hlt]
    have hh : hindP its S c (works S c) = 0 := by simp [hindP, hB, hv]
    rw [hh, if_neg (by decide), if_pos hv]
    have hfa : (faultP (isH its (works S c).item) b (works S c).pos (works S c).held (frOff S c) = 0) ↔ ¬ (0 < (works S c).held ∨ ((S.cp c).off && !(S.cp c).h.there) = true) := by
      rw [hk]
      unfold faultP frOff
      rw [hv]
      cases (S.cp c).h.there <;> cases (S.cp c).off <;> by_cases e0 : (works S c).held = 0 <;> simp [e0] <;> omega
    by_cases hq : (0 < (works S c).held ∨ ((S.cp c).off && !(S.cp c).h.there) = true)
    · rw [if_pos hq]
      have h0 : ¬ faultP (isH its (works S c).item) b (works S c).pos (works S c).held (frOff S c) = 0 := fun e => hfa.1 e hq
      have h69 : faultP (isH its (works S c).item) b (works S c).pos (works S c).held (frOff S c) = 69 := by
        revert h0
        unfold faultP
        rw [hv]
        simp only [reduceCtorEq, if_false, if_true, Int.reduceEq, or_self]
        split
        · intro _; rfl
        · intro h; exact absurd rfl h
      unfold stepS
      rw [if_neg h0, h69]
      simp only [Int.reduceEq, if_false]
      exact congrArg _ l1
    · rw [if_neg hq]
      have h0 := hfa.2 hq
      unfold stepS
      rw [if_pos h0, hv]
      simp only [Int.reduceEq, if_false, if_true]
      refine congrArg _ ?_
      unfold layP put putCp
      cases e : (S.cp c).h.there
      · have e2 : (S.cp c).off = false := by
          cases e3 : (S.cp c).off
          · rfl
          · exfalso; apply hq; right; simp [e, e3]
        simp only [Bool.false_eq_true, if_false]
        rw [e2]
      · simp only [if_true]
  have hlt : (works S c).pos < b.length := by omega
  have hkd := hpl.kind hbd hno hlt
  have ha : atB b (works S c).pos = at_ b (works S c).pos := by simp [atB, hlt]
  rw [← ha] at hkd
  by_cases hv : (atB b (works S c).pos = 40 ∨ atB b (works S c).pos = 91 ∨ atB b (works S c).pos = 124 ∨ atB b (works S c).pos = 93 ∨ atB b (works S c).pos = 41 ∨ ((atB b (works S c).pos = 114 ∨ atB b (works S c).pos = 119) ∧ clash its S 3 c (works S c) = false))
  · have hn := nextP_plain hbd hlt (works S c).held (frOff S c) comma (by omega)
    have hfa : faultP (isH its (works S c).item) b (works S c).pos (works S c).held (frOff S c) = 0 := by
      unfold faultP
      rw [if_neg (by omega), if_neg (by omega), if_neg (by omega), if_neg (by omega), if_neg (by omega)]
    have hh : hindP its S c (works S c) = 0 := by
      unfold hindP
      rw [hB]
      rw [if_neg (by omega)]
      rcases hv with h | h | h | h | h | ⟨h, h2⟩
      · rw [if_neg (by omega)]
      · rw [if_neg (by omega)]
      · rw [if_neg (by omega)]
      · rw [if_neg (by omega)]
      · rw [if_neg (by omega)]
      · rw [if_pos h, h2]; rfl
    have hal : alone b (works S c) (S.cp c).h.there (S.cp c).off comma = (atB b (works S c).pos, { works S c with pos := behind b (works S c).pos comma }, (S.cp c).off) := by
      unfold alone
      rw [if_neg (by omega), if_neg (by omega)]
    rw [hh, if_neg (by decide)]
    unfold stepS
    rw [if_pos hfa, hn]
    simp only
    rw [if_neg (show ¬ atB b (works S c).pos = 122 by omega), if_neg (show ¬ atB b (works S c).pos = 101 by omega), if_neg (show ¬ atB b (works S c).pos = 101 by omega), if_neg (show ¬ atB b (works S c).pos = 43 by omega), if_neg (show ¬ atB b (works S c).pos = 122 by omega)]
    rw [if_neg (by rintro ⟨h1, h2⟩; rcases hv with h | h | h | h | h | ⟨h, h3⟩ <;> first | omega | (rw [h3] at h2; cases h2))]
    unfold Mc.lone
    simp only [hB, hal]
    rw [setOff_put, l2]
  have hcs : atB b (works S c).pos = 43 ∨ atB b (works S c).pos = 45 ∨ atB b (works S c).pos = 122 ∨ (atB b (works S c).pos = 60 ∨ atB b (works S c).pos = 62) ∨ ((atB b (works S c).pos = 114 ∨ atB b (works S c).pos = 119) ∧ clash its S 3 c (works S c) = true) := by
    cases hcl : clash its S 3 c (works S c)
    · simp only [hcl, and_true] at hv
      rcases hkd with h | h
      · unfold head4 at h; omega
      · unfold sole at h; omega
    · simp only [hcl, and_true]
      rcases hkd with h | h
      · unfold head4 at h; omega
      · unfold sole at h; omega
  clear hv hkd
  rcases hcs with e | e | e | e | ⟨e, hcl⟩
  · -- a lock is taken
    rw [if_neg (show ¬ atB b (works S c).pos = 101 by omega), if_pos e]
    have hh : hindP its S c (works S c) = waitP its S c (num b (works S c).pos).toNat := by unfold hindP; rw [hB, if_pos e]
    rw [hh]
    unfold waitP takes
    cases hl : holder S 3 (num b (works S c).pos).toNat with
    | none =>
      simp only
      rw [if_neg (by decide)]
      have hno := works_nohold hl hc
      have hfa : faultP (isH its (works S c).item) b (works S c).pos (works S c).held (frOff S c) = 0 := by
        unfold faultP
        rw [if_pos e, hasB_num hpo (Or.inl e), hno]; rfl
      unfold stepS
      rw [if_pos hfa]
      have hn : nextP b (works S c).pos (works S c).held (frOff S c) comma = ((works S c).pos + 2, (works S c).held + 2 ^ (num b (works S c).pos).toNat, frOff S c) := by unfold nextP; rw [if_pos e]
      rw [hn, e]
      simp only [Int.reduceEq, if_false]
      rw [l2]
    | some d =>
      simp only
      by_cases e1 : d = c
      · simp only [e1, if_true]
        rw [if_pos (by decide), put_works]
      · simp only [e1, if_false]
        rw [ring_three hr (Nat.le_refl _) c _ d hc hl e1]
        split
        · rw [if_pos (by decide), put_works]
        · rw [if_pos (by decide), put_works]
  · -- a lock is given back
    have hh : hindP its S c (works S c) = 0 := by unfold hindP; rw [hB, if_neg (by omega), if_neg (by omega)]
    have hne : ¬ ((atB b (works S c).pos = 114 ∨ atB b (works S c).pos = 119) ∧ clash its S 3 c (works S c) = true) := by rintro ⟨h, _⟩; omega
    have hfa : faultP (isH its (works S c).item) b (works S c).pos (works S c).held (frOff S c) = if holds (works S c).held (num b (works S c).pos).toNat = true then 0 else 85 := by
      unfold faultP
      rw [if_neg (by omega), if_pos e, hasB_num hpo (Or.inr e)]
    have hn : nextP b (works S c).pos (works S c).held (frOff S c) comma = ((works S c).pos + 2, (works S c).held - 2 ^ (num b (works S c).pos).toNat, frOff S c) := by unfold nextP; rw [if_neg (by omega), if_pos e]
    have hbe : behind b (works S c).pos comma = (works S c).pos + 2 := by unfold behind; rw [if_pos (by omega)]
    have hal : alone b (works S c) (S.cp c).h.there (S.cp c).off comma = if holds (works S c).held (num b (works S c).pos).toNat = true then (45, { works S c with held := (works S c).held - 2 ^ (num b (works S c).pos).toNat, pos := (works S c).pos + 2 }, (S.cp c).off) else (85, works S c, (S.cp c).off) := by
      unfold alone
      rw [if_pos e, hbe]
    rw [hh, if_neg (show ¬ ((0 : Int) ≠ 0) by decide), if_neg (show ¬ atB b (works S c).pos = 101 by omega), if_neg (show ¬ atB b (works S c).pos = 43 by omega), if_neg (show ¬ atB b (works S c).pos = 122 by omega), if_neg hne]
    unfold Mc.lone
    simp only [hB, hal]
    cases hq : holds (works S c).held (num b (works S c).pos).toNat
    · have hst : stepS (isH its (works S c).item) b (works S c).pos (works S c).held (frOff S c) comma = (((works S c).pos, (works S c).held, frOff S c), 85) := by
        unfold stepS; rw [hfa, hq]; rfl
      rw [hst]
      simp only [Int.reduceEq, if_false, Bool.false_eq_true]
      rw [setOff_put, put_works]
      exact congrArg _ l1
    · have hst : stepS (isH its (works S c).item) b (works S c).pos (works S c).held (frOff S c) comma = (((works S c).pos + 2, (works S c).held - 2 ^ (num b (works S c).pos).toNat, frOff S c), 45) := by
        unfold stepS; rw [hfa, hq, hn, e]; rfl
      rw [hst]
      simp only [Int.reduceEq, if_false, if_true]
      rw [setOff_put, l2]
  · -- it sleeps
    have hh : hindP its S c (works S c) = 0 := by unfold hindP; rw [hB, if_neg (by omega), if_neg (by omega)]
    have hfa : faultP (isH its (works S c).item) b (works S c).pos (works S c).held (frOff S c) = if ((S.cp c).h.there = true ∨ 0 < (works S c).held ∨ ((S.cp c).off && !(S.cp c).h.there) = true) then 83 else 0 := by
      rw [hk]
      unfold faultP frOff
      rw [if_neg (by omega), if_neg (by omega), if_pos e]
      cases (S.cp c).h.there <;> cases (S.cp c).off <;> by_cases e0 : (works S c).held = 0 <;> simp [e0] <;> omega
    have hn := nextP_plain hbd hlt (works S c).held (frOff S c) comma (by omega)
    rw [behind_122 _ e] at hn
    rw [hh, if_neg (show ¬ ((0 : Int) ≠ 0) by decide), if_neg (show ¬ atB b (works S c).pos = 101 by omega), if_neg (show ¬ atB b (works S c).pos = 43 by omega), if_pos (show atB b (works S c).pos = 122 from e)]
    by_cases hq : ((S.cp c).h.there = true ∨ 0 < (works S c).held ∨ ((S.cp c).off && !(S.cp c).h.there) = true)
    · have hst : stepS (isH its (works S c).item) b (works S c).pos (works S c).held (frOff S c) comma = (((works S c).pos, (works S c).held, frOff S c), 83) := by
        unfold stepS; rw [hfa, if_pos hq]; rfl
      rw [hst, if_pos hq]
      simp only [Int.reduceEq, if_false]
      exact congrArg _ l1
    · have hst : stepS (isH its (works S c).item) b (works S c).pos (works S c).held (frOff S c) comma = (((works S c).pos + 1, (works S c).held, frOff S c), 122) := by
        unfold stepS; rw [hfa, if_neg hq, hn, e]; rfl
      rw [hst, if_neg hq]
      simp only [if_true]
      refine congrArg _ ?_
      simp only [not_or] at hq
      obtain ⟨q1, q2, q3⟩ := hq
      have e1 : (S.cp c).h.there = false := by simpa using q1
      have e2 : (S.cp c).off = false := by
        cases e3 : (S.cp c).off
        · rfl
        · exfalso; apply q3; simp [e1, e3]
      have ew : works S c = (S.cp c).t := by unfold works; rw [if_neg q1]
      rw [ew]
      unfold layP leaves
      have e3 : ((setPl (setRd S (S.cp c).t.item true) (S.cp c).t.item ((S.cp c).t.pos + 1)).cp c).h.there = false := e1
      rw [if_neg (by rw [e3]; decide)]
      have e4 : ({ (setPl (setRd S (S.cp c).t.item true) (S.cp c).t.item ((S.cp c).t.pos + 1)).cp c with t := noFr, off := false } : Cp) = { S.cp c with t := noFr } := by
        show ({ S.cp c with t := noFr, off := false } : Cp) = _
        rw [← e2]
      rw [e4]
  · -- interrupts off, on
    have hh : hindP its S c (works S c) = 0 := by unfold hindP; rw [hB, if_neg (by omega), if_neg (by omega)]
    have hne : ¬ ((atB b (works S c).pos = 114 ∨ atB b (works S c).pos = 119) ∧ clash its S 3 c (works S c) = true) := by rintro ⟨h, _⟩; omega
    have hfa : faultP (isH its (works S c).item) b (works S c).pos (works S c).held (frOff S c) = if (S.cp c).h.there = true then 73 else 0 := by
      rw [hk]
      unfold faultP
      rw [if_neg (by omega), if_neg (by omega), if_neg (by omega), if_pos e]
    have hn : nextP b (works S c).pos (works S c).held (frOff S c) comma = ((works S c).pos + 1, (works S c).held, decide (atB b (works S c).pos = 60)) := by
      unfold nextP
      rcases e with e | e <;> simp [e]
    have hbe : behind b (works S c).pos comma = (works S c).pos + 1 := by
      unfold behind
      rw [if_neg (by omega), if_neg (by omega), if_neg (by omega), if_neg (by omega), if_neg (by omega)]
    have hal : alone b (works S c) (S.cp c).h.there (S.cp c).off comma = if (S.cp c).h.there = true then (73, works S c, (S.cp c).off) else (atB b (works S c).pos, { works S c with pos := (works S c).pos + 1 }, decide (atB b (works S c).pos = 60)) := by
      unfold alone
      rw [if_neg (by omega), if_pos e, hbe]
    rw [hh, if_neg (show ¬ ((0 : Int) ≠ 0) by decide), if_neg (show ¬ atB b (works S c).pos = 101 by omega), if_neg (show ¬ atB b (works S c).pos = 43 by omega), if_neg (show ¬ atB b (works S c).pos = 122 by omega), if_neg hne]
    unfold Mc.lone
    simp only [hB, hal]
    cases hH : (S.cp c).h.there
    · have hst : stepS (isH its (works S c).item) b (works S c).pos (works S c).held (frOff S c) comma = (((works S c).pos + 1, (works S c).held, decide (atB b (works S c).pos = 60)), atB b (works S c).pos) := by
        unfold stepS; rw [hfa, hH, hn]; rfl
      rw [hst]
      simp only [Bool.false_eq_true, if_false]
      rw [if_neg (show ¬ atB b (works S c).pos = 122 by omega), if_neg (show ¬ atB b (works S c).pos = 101 by omega), layP_off hH]
    · have hst : stepS (isH its (works S c).item) b (works S c).pos (works S c).held (frOff S c) comma = (((works S c).pos, (works S c).held, frOff S c), 73) := by
        unfold stepS; rw [hfa, hH]; rfl
      rw [hst]
      simp only [Int.reduceEq, if_false, if_true]
      rw [setOff_put, put_works]
      exact congrArg _ l1
  · -- a clash
    have hh : hindP its S c (works S c) = 82 := by unfold hindP; rw [hB, if_neg (by omega), if_pos e, if_pos hcl]
    rw [hh, if_pos (by decide), if_neg (show ¬ atB b (works S c).pos = 101 by omega), if_neg (show ¬ atB b (works S c).pos = 43 by omega), if_neg (show ¬ atB b (works S c).pos = 122 by omega), if_pos ⟨e, hcl⟩]
end Mc
end Go.Proofs.Ytecmfdkhcffpmab
