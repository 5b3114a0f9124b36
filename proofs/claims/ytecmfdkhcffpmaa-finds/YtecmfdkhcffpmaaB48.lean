/- PureD2, DocI. -/
import Derived.Test.YtecmfdkhcffpmaaB40
import Derived.Test.YtecmfdkhcffpmaaB42
import Derived.Test.YtecmfdkhcffpmaaB43
/- Plain: the document's edges, gathered in order. -/
namespace Go.Proofs.Ytecmfdkhcffpmaa
open Go.RowKit
set_option linter.unusedSimpArgs false
set_option linter.unusedVariables false
open Mc
/-- Any of those before (i, p, s). -/
def upTo3 (N : Nat → Nat) (f : Nat → Nat → Nat → Bool) (i p s : Nat) : Bool := (List.range i).any (fun i' => (List.range (N i')).any (fun p' => (List.range 128).any (fun s' => f i' p' s'))) || (List.range p).any (fun p' => (List.range 128).any (fun s' => f i p' s')) || (List.range s).any (fun s' => f i p s')
theorem upTo3_zero (N : Nat → Nat) (f : Nat → Nat → Nat → Bool) : upTo3 N f 0 0 0 = false := by simp [upTo3]
theorem upTo3_s (N : Nat → Nat) (f : Nat → Nat → Nat → Bool) (i p s : Nat) : upTo3 N f i p (s + 1) = (upTo3 N f i p s || f i p s) := by
  unfold upTo3
  rw [List.range_succ (n := s), List.any_append]
  simp [Bool.or_assoc]
theorem upTo3_p (N : Nat → Nat) (f : Nat → Nat → Nat → Bool) (i p : Nat) : upTo3 N f i (p + 1) 0 = upTo3 N f i p 128 := by
  unfold upTo3
  rw [List.range_succ (n := p), List.any_append]
  simp [Bool.or_assoc]
theorem upTo3_i (N : Nat → Nat) (f : Nat → Nat → Nat → Bool) (i : Nat) : upTo3 N f (i + 1) 0 0 = upTo3 N f i (N i) 0 := by
  unfold upTo3
  rw [List.range_succ (n := i), List.any_append]
  simp [Bool.or_assoc]
theorem upTo3_iff (N : Nat → Nat) (f : Nat → Nat → Nat → Bool) (n : Nat) : upTo3 N f n 0 0 = true ↔ ∃ i, i < n ∧ ∃ p, p < N i ∧ ∃ s, s < 128 ∧ f i p s = true := by
  unfold upTo3
  simp [List.any_eq_true]
noncomputable def eA (its : List Wd.It) (l m i p s : Nat) : Bool := inDb (isH its i) (bodyOf its i) p s && (s / 2).testBit l && (tkP (bodyOf its i) p (s / 2)).testBit m
noncomputable def oA (its : List Wd.It) (l i p s : Nat) : Bool := inDb (isH its i) (bodyOf its i) p s && !isH its i && decide (s % 2 = 0) && (s / 2).testBit l
noncomputable def tA (its : List Wd.It) (m i p s : Nat) : Bool := inDb (isH its i) (bodyOf its i) p s && isH its i && (tkP (bodyOf its i) p (s / 2)).testBit m
def lenE (its : List Wd.It) (i : Nat) : Nat := (bodyOf its i).length + 1
noncomputable def eT (its : List Wd.It) (i p s L : Nat) : Tb := fun l m => upTo3 (lenE its) (eA its l m) i p s || (decide (l < L) && eA its l m i p s)
noncomputable def oT (its : List Wd.It) (i p s L : Nat) : Nat → Bool := fun l => upTo3 (lenE its) (oA its l) i p s || (decide (l < L) && oA its l i p s)
noncomputable def tT (its : List Wd.It) (i p s : Nat) : Nat → Bool := fun m => upTo3 (lenE its) (tA its m) i p s
theorem eT_zero (its : List Wd.It) : eT its 0 0 0 0 = fun _ _ => false := by funext l m; simp [eT, upTo3_zero]
theorem oT_zero (its : List Wd.It) : oT its 0 0 0 0 = fun _ => false := by funext l; simp [oT, upTo3_zero]
theorem tT_zero (its : List Wd.It) : tT its 0 0 0 = fun _ => false := by funext l; simp [tT, upTo3_zero]
theorem eT_p (its : List Wd.It) (i p : Nat) : eT its i (p + 1) 0 0 = eT its i p 128 0 := by funext l m; simp [eT, upTo3_p]
theorem oT_p (its : List Wd.It) (i p : Nat) : oT its i (p + 1) 0 0 = oT its i p 128 0 := by funext l; simp [oT, upTo3_p]
theorem tT_p (its : List Wd.It) (i p : Nat) : tT its i (p + 1) 0 = tT its i p 128 := by funext l; simp [tT, upTo3_p]
theorem eT_i (its : List Wd.It) (i : Nat) : eT its (i + 1) 0 0 0 = eT its i (lenE its i) 0 0 := by funext l m; simp [eT, upTo3_i]
theorem oT_i (its : List Wd.It) (i : Nat) : oT its (i + 1) 0 0 0 = oT its i (lenE its i) 0 0 := by funext l; simp [oT, upTo3_i]
theorem tT_i (its : List Wd.It) (i : Nat) : tT its (i + 1) 0 0 = tT its i (lenE its i) 0 := by funext l; simp [tT, upTo3_i]
/-- A cell that is not in the table adds nothing. -/
theorem eT_not (its : List Wd.It) (i p s : Nat) (h : inDb (isH its i) (bodyOf its i) p s = false) : eT its i p (s + 1) 0 = eT its i p s 0 := by funext l m; simp [eT, upTo3_s, eA, h]
theorem oT_not (its : List Wd.It) (i p s : Nat) (h : inDb (isH its i) (bodyOf its i) p s = false) : oT its i p (s + 1) 0 = oT its i p s 0 := by funext l; simp [oT, upTo3_s, oA, h]
theorem tT_not (its : List Wd.It) (i p s : Nat) (h : inDb (isH its i) (bodyOf its i) p s = false) : tT its i p (s + 1) = tT its i p s := by funext l; simp [tT, upTo3_s, tA, h]
theorem eT_six (its : List Wd.It) (i p s : Nat) : ∀ l, l < 6 → ∀ m, m < 6 → eT its i p s 6 l m = eT its i p (s + 1) 0 l m := by intro l hl m hm; simp [eT, upTo3_s, hl]
theorem oT_six (its : List Wd.It) (i p s : Nat) : ∀ l, l < 6 → oT its i p s 6 l = oT its i p (s + 1) 0 l := by intro l hl; simp [oT, upTo3_s, hl]
/-- The lock that is taken, as the document sees it. -/
def plD (b : List UInt8) (p : Nat) : Bool := decide (atB b p = 43)
def mD (b : List UInt8) (p : Nat) : Nat := if atB b p = 43 then (num b p).toNat else 0
theorem tkP_bit {b : List UInt8} (hok : PairOK b) (p h y : Nat) (hy : y < 6) : (tkP b p h).testBit y = (plD b p && !h.testBit (mD b p) && decide (y = mD b p)) := by
  unfold tkP plD mD
  by_cases h43 : atB b p = 43
  · have hn := num_lockB hok (Or.inl h43)
    have hnp : numP b p = num b p := by unfold numP; rw [if_pos (Or.inl h43)]
    rw [hasB_num hok (Or.inl h43), hnp]
    simp only [h43, true_and, decide_true, Bool.true_and, if_true]
    have hh : holds h (num b p).toNat = h.testBit (num b p).toNat := rfl
    rw [hh]
    generalize (num b p).toNat = l at *
    cases hq : h.testBit l
    · simp only [if_true, Bool.not_false, Bool.true_and]
      rw [Nat.testBit_two_pow]
      by_cases e : l = y
      · simp [e]
      · simp [e]; omega
    · simp
  · simp [h43]
theorem eT_no (its : List Wd.It) (i p s L : Nat) (hok : PairOK (bodyOf its i)) (h : ((s / 2).testBit L && plD (bodyOf its i) p && !(s / 2).testBit (mD (bodyOf its i) p)) = false) : ∀ l, l < 6 → ∀ m, m < 6 → eT its i p s (L + 1) l m = eT its i p s L l m := by
  intro l hl m hm
  unfold eT eA
  rw [tkP_bit hok p (s / 2) m hm]
  by_cases e : l = L
  · subst e
    have h2 : ((s / 2).testBit l && (plD (bodyOf its i) p && !(s / 2).testBit (mD (bodyOf its i) p) && decide (m = mD (bodyOf its i) p))) = false := by
      cases h3 : (s / 2).testBit l
      · simp
      · rw [h3, Bool.true_and] at h
        rw [h]; simp
    simp only [Bool.and_assoc] at h2 ⊢
    rw [h2]; simp
  · have : decide (l < L + 1) = decide (l < L) := by simp; omega
    rw [this]
theorem eT_yes (its : List Wd.It) (i p s L : Nat) (hok : PairOK (bodyOf its i)) (hin : inDb (isH its i) (bodyOf its i) p s = true) (h1 : (s / 2).testBit L = true) (h2 : plD (bodyOf its i) p = true) (h3 : (s / 2).testBit (mD (bodyOf its i) p) = false) : ∀ l, l < 6 → ∀ m, m < 6 → eT its i p s (L + 1) l m = upT (eT its i p s L) L (mD (bodyOf its i) p) true l m := by
  intro l hl m hm
  unfold upT eT eA
  rw [tkP_bit hok p (s / 2) m hm]
  by_cases e : l = L ∧ m = mD (bodyOf its i) p
  · rw [if_pos e, e.1, e.2]; simp [hin, h1, h2, h3]
  · rw [if_neg e]
    by_cases e1 : l = L
    · subst e1
      have : m ≠ mD (bodyOf its i) p := fun e2 => e ⟨rfl, e2⟩
      simp [this]
    · have : decide (l < L + 1) = decide (l < L) := by simp; omega
      rw [this]
theorem oT_step (its : List Wd.It) (i p s L : Nat) (hin : inDb (isH its i) (bodyOf its i) p s = true) : ∀ l, l < 6 → oT its i p s (L + 1) l = if l = L then (oT its i p s L L || ((s / 2).testBit L && !isH its i && decide (s % 2 = 0))) else oT its i p s L l := by
  intro l hl
  unfold oT oA
  by_cases e : l = L
  · subst e
    rw [if_pos rfl, hin]
    simp
    cases (s / 2).testBit l <;> cases isH its i <;> simp
  · rw [if_neg e]
    have : decide (l < L + 1) = decide (l < L) := by simp; omega
    rw [this]
theorem tT_step (its : List Wd.It) (i p s : Nat) (hok : PairOK (bodyOf its i)) (hin : inDb (isH its i) (bodyOf its i) p s = true) : ∀ m, m < 6 → tT its i p (s + 1) m = (tT its i p s m || (plD (bodyOf its i) p && !(s / 2).testBit (mD (bodyOf its i) p) && isH its i && decide (m = mD (bodyOf its i) p))) := by
  intro m hm
  unfold tT
  rw [upTo3_s]
  unfold tA
  rw [tkP_bit hok p (s / 2) m hm, hin]
  cases isH its i <;> cases plD (bodyOf its i) p <;> cases (s / 2).testBit (mD (bodyOf its i) p) <;> simp
theorem dEdge_iff (its : List Wd.It) (hf : Fine its) (l m : Nat) : (eT its its.length 0 0 0 l m || (oT its its.length 0 0 0 l && tT its its.length 0 0 m)) = true ↔ Eg its l m := by
  unfold eT oT tT
  simp only [Nat.not_lt_zero, decide_false, Bool.false_and, Bool.or_false, Bool.or_eq_true, Bool.and_eq_true, upTo3_iff]
  have key : ∀ (i p s : Nat), i < its.length → Rch (isH its i) (bodyOf its i) (stOf p s) → s < 128 → p < lenE its i := fun i p s hi hr hs => by
    have h1 : p ≤ (bodyOf its i).length := (hr.ok (hf.gb hi)).2.le
    unfold lenE; omega
  refine or_congr ⟨?_, ?_⟩ (and_congr ⟨?_, ?_⟩ ⟨?_, ?_⟩)
  · rintro ⟨i, hi, p, hp, s, hs, e⟩
    unfold eA at e
    rw [Bool.and_eq_true, Bool.and_eq_true, inDb_iff] at e
    exact ⟨i, hi, stOf p s, e.1.1.2, e.1.2, e.2⟩
  · rintro ⟨i, hi, s, hr, e1, e2⟩
    have hok := hr.ok (hf.gb hi)
    have hd := dn_lt s.2.2 hok.1
    have hst : stOf s.1 (dn s.2.1 s.2.2) = s := stOf_dn _ _ _
    refine ⟨i, hi, s.1, key i s.1 (dn s.2.1 s.2.2) hi (by rw [hst]; exact hr) hd, dn s.2.1 s.2.2, hd, ?_⟩
    unfold eA
    rw [Bool.and_eq_true, Bool.and_eq_true, inDb_iff, dn_h]
    exact ⟨⟨⟨hd, by rw [hst]; exact hr⟩, e1⟩, e2⟩
  · rintro ⟨i, hi, p, hp, s, hs, e⟩
    unfold oA at e
    simp only [Bool.and_eq_true, inDb_iff, Bool.not_eq_true', decide_eq_true_eq] at e
    refine ⟨i, hi, e.1.1.2, stOf p s, e.1.1.1.2, ?_, e.2⟩
    show decide (s % 2 = 1) = false
    simp; omega
  · rintro ⟨i, hi, hh, s, hr, e1, e2⟩
    have hok := hr.ok (hf.gb hi)
    have hd := dn_lt s.2.2 hok.1
    have hst : stOf s.1 (dn s.2.1 s.2.2) = s := stOf_dn _ _ _
    refine ⟨i, hi, s.1, key i s.1 (dn s.2.1 s.2.2) hi (by rw [hst]; exact hr) hd, dn s.2.1 s.2.2, hd, ?_⟩
    unfold oA
    simp only [Bool.and_eq_true, inDb_iff, Bool.not_eq_true', decide_eq_true_eq, dn_h]
    refine ⟨⟨⟨⟨hd, by rw [hst]; exact hr⟩, hh⟩, ?_⟩, e2⟩
    rw [e1]; simp [dn]
  · rintro ⟨i, hi, p, hp, s, hs, e⟩
    unfold tA at e
    simp only [Bool.and_eq_true, inDb_iff] at e
    exact ⟨i, hi, e.1.2, stOf p s, e.1.1.2, e.2⟩
  · rintro ⟨i, hi, hh, s, hr, e2⟩
    have hok := hr.ok (hf.gb hi)
    have hd := dn_lt s.2.2 hok.1
    have hst : stOf s.1 (dn s.2.1 s.2.2) = s := stOf_dn _ _ _
    refine ⟨i, hi, s.1, key i s.1 (dn s.2.1 s.2.2) hi (by rw [hst]; exact hr) hd, dn s.2.1 s.2.2, hd, ?_⟩
    unfold tA
    simp only [Bool.and_eq_true, inDb_iff, dn_h]
    exact ⟨⟨⟨hd, by rw [hst]; exact hr⟩, hh⟩, e2⟩
end Go.Proofs.Ytecmfdkhcffpmaa
/- Contracts of the document's reports: sets that lie apart; ways to a cell. -/
namespace Go.Proofs.Ytecmfdkhcffpmaa
open Go.RowKit
set_option linter.unusedSimpArgs false
set_option linter.unusedVariables false
set_option maxHeartbeats 8000000
open Mc

/-- Have two sets no lock in common, so far? -/
def freeTo (i j : Nat) (n : Nat) : Bool := (List.range n).all (fun l => !(i.testBit l && j.testBit l))
theorem freeTo_succ (i j n : Nat) : freeTo i j (n + 1) = (freeTo i j n && !(i.testBit n && j.testBit n)) := by simp [freeTo, List.range_succ]
theorem freeTo_six (i j : Nat) (hi : i < 64) (hj : j < 64) : freeTo i j 6 = decide (i &&& j = 0) := by
  rw [Bool.eq_iff_iff, decide_eq_true_eq]
  unfold freeTo
  rw [List.all_eq_true]
  constructor
  · intro h
    apply Nat.eq_of_testBit_eq
    intro l
    rw [Nat.testBit_and, Nat.zero_testBit]
    by_cases hl : l < 6
    · have := h l (List.mem_range.2 hl)
      cases h1 : i.testBit l <;> cases h2 : j.testBit l <;> simp_all
    · have h64 : 64 ≤ 2 ^ l := Nat.pow_le_pow_right (n := 2) (i := 6) (by omega) (by omega)
      rw [Nat.testBit_lt_two_pow (show i < 2 ^ l by omega)]
      rfl
  · intro h l hl
    have h2 : (i &&& j).testBit l = false := by rw [h, Nat.zero_testBit]
    rw [Nat.testBit_and] at h2
    rw [h2]; rfl
def apRow (fa fb : Nat → Bool) (i n : Nat) : Bool := (List.range n).any (fun j => fa i && fb j && decide (i &&& j = 0))
def apTo (fa fb : Nat → Bool) (n : Nat) : Bool := (List.range n).any (fun i => apRow fa fb i 64)
theorem apRow_succ (fa fb : Nat → Bool) (i n : Nat) : apRow fa fb i (n + 1) = (apRow fa fb i n || (fa i && fb n && decide (i &&& n = 0))) := by simp [apRow, List.range_succ]
theorem apTo_succ (fa fb : Nat → Bool) (n : Nat) : apTo fa fb (n + 1) = (apTo fa fb n || apRow fa fb n 64) := by simp [apTo, List.range_succ]
theorem apTo_of {fa fb : Nat → Bool} {i j n : Nat} (hi : i < n) (hj : j < 64) (h : (fa i && fb j && decide (i &&& j = 0)) = true) : apTo fa fb n = true := by
  unfold apTo apRow
  rw [List.any_eq_true]
  exact ⟨i, List.mem_range.2 hi, by rw [List.any_eq_true]; exact ⟨j, List.mem_range.2 hj, h⟩⟩
set_option maxRecDepth 100000 in
theorem apart_any (w : World) (ga gb : Nat) (fa fb : Nat → Bool) (ha : Blk w ga 64 (fun h => .bool (fa h))) (hb : Blk w gb 64 (fun h => .bool (fb h))) :
    Calls Try.prog 97 #[.slice (some ⟨ga, 0, none⟩) 64 64, .slice (some ⟨gb, 0, none⟩) 64 64] w fun e w' => e = .returned (.bool (apTo fa fb 64)) ∧ w' = w := by
  have HA := hide ha
  have HB := hide hb
  clear ha hb
  have AHO := hide (fun h l W (hh : h < 64) (hl : l < 6) => holds_any h l W (by omega) (by omega))
  go_enter Try.func97, Try.ntmps97
  go_wp2
  go_loop [5] (fun c => ∃ i : Nat, i ≤ 64 ∧ c = .int .i64 i ∧ apTo fa fb i = false) (fun c => 64 - (intOf c).toNat)
  case atStart => exact ⟨0, by omega, rfl, rfl⟩
  case round =>
    obtain ⟨i, hi, rfl, h1⟩ := hrel
    have H1 := hide h1
    clear h1
    by_cases hit : i < 64
    · have hi0 : (0 : Int) ≤ (i : Int) := by omega
      go_wp2
      go_loop [6] (fun c => ∃ j : Nat, j ≤ 64 ∧ c = .int .i64 j ∧ apRow fa fb i j = false) (fun c => 64 - (intOf c).toNat)
      case atStart => exact ⟨0, by omega, rfl, rfl⟩
      case round =>
        obtain ⟨j, hj, rfl, h2⟩ := hrel
        have H2 := hide h2
        clear h2
        by_cases hjt : j < 64
        · have hj0 : (0 : Int) ≤ (j : Int) := by omega
          have c1 : w.cell? ⟨ga, i, none⟩ = some (.bool (fa i)) := HA.out.cell i hit
          have c2 : w.cell? ⟨gb, j, none⟩ = some (.bool (fb j)) := HB.out.cell j hjt
          have hs := hide (apRow_succ fa fb i j)
          have hyes := hide (fun h => apTo_of (fa := fa) (fb := fb) (n := 64) hit hjt h)
          generalize fa i = o1 at *
          generalize fb j = o2 at *
          cases o1
          · go_wp2
            go_round
            case measure => simp [intOf]; omega
            case rel => exact ⟨j + 1, by omega, by go_num, by rw [hs.out, H2.out]; rfl⟩
          cases o2
          · go_wp2
            go_round
            case measure => simp [intOf]; omega
            case rel => exact ⟨j + 1, by omega, by go_num, by rw [hs.out, H2.out]; rfl⟩
          · go_wp2
            go_loop [7, 8] (fun a c => ∃ l : Nat, l ≤ 6 ∧ c = .int .i64 l ∧ a = .bool (freeTo i j l)) (fun _ c => 6 - (intOf c).toNat)
            case atStart => exact ⟨0, by omega, rfl, rfl⟩
            case round =>
              obtain ⟨l, hl, rfl, rfl⟩ := hrel
              by_cases hlt : l < 6
              · have hfs := hide (freeTo_succ i j l)
                obtain ⟨x, hx⟩ : ∃ x, i.testBit l = x := ⟨_, rfl⟩
                obtain ⟨y, hy⟩ : ∃ y, j.testBit l = y := ⟨_, rfl⟩
                have AX : Hid (∀ W, Calls Try.prog 95 #[.int .i64 (i : Int), .int .i64 (l : Int)] W fun e w' => e = .returned (.bool x) ∧ w' = W) := hide (fun W => by rw [← hx]; exact AHO.out i l W hit hlt)
                have AY : Hid (∀ W, Calls Try.prog 95 #[.int .i64 (j : Int), .int .i64 (l : Int)] W fun e w' => e = .returned (.bool y) ∧ w' = W) := hide (fun W => by rw [← hy]; exact AHO.out j l W hjt hlt)
                rw [hx, hy] at hfs
                clear hx hy
                generalize freeTo i j l = f at *
                have hl0 : (0 : Int) ≤ (l : Int) := by omega
                cases f <;> cases x <;> cases y <;> (
                  go_wp2_with (first | (go_at_call 95; have hx1 := hx0; refine (AY.out _).mono ?_; rintro e w' ⟨rfl, hww⟩; obtain rfl := hww.symm; clear hww) | (go_at_call 95; refine (AX.out _).mono ?_; rintro e w' ⟨rfl, hww⟩; obtain rfl := hww.symm; clear hww; have hx0 : Hid True := hide trivial))
                  go_round
                  case measure => simp [intOf]; omega
                  case rel => exact ⟨l + 1, by omega, by go_num, by rw [hfs.out]; rfl⟩)
              · have e : l = 6 := by omega
                subst e
                have hfx := freeTo_six i j hit hjt
                by_cases hz : i &&& j = 0
                · have HZ := hide hz
                  have hf6 : freeTo i j 6 = true := by rw [hfx]; simp [hz]
                  clear hfx hz
                  generalize freeTo i j 6 = f at *
                  subst hf6
                  go_wp2
                  go_ret
                  exact ⟨ret_bool (by rw [hyes.out (by simp [HZ.out])]), rfl⟩
                · have HZ := hide hz
                  have hf6 : freeTo i j 6 = false := by rw [hfx]; simp [hz]
                  clear hfx hz
                  generalize freeTo i j 6 = f at *
                  subst hf6
                  go_wp2
                  go_round
                  case measure => simp [intOf]; omega
                  case rel => exact ⟨j + 1, by omega, by go_num, by rw [hs.out, H2.out]; simp [HZ.out]⟩
        · have e : j = 64 := by omega
          subst e
          go_wp2
          go_round
          case measure => simp [intOf]; omega
          case rel => exact ⟨i + 1, by omega, by go_num, by rw [apTo_succ, H1.out, H2.out]; rfl⟩
    · have e : i = 64 := by omega
      subst e
      go_wp2
      go_ret
      exact ⟨ret_bool H1.out.symm, rfl⟩
end Go.Proofs.Ytecmfdkhcffpmaa
