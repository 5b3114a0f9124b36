/- DocJ, DocK. -/
import Derived.Test.YtecmfdkhcffpmaaB48
import Derived.Deep.RegionHeld3
/- Contracts of the document's reports: ways to a cell. -/
namespace Go.Proofs.Ytecmfdkhcffpmaa
open Go.RowKit
set_option linter.unusedSimpArgs false
set_option linter.unusedVariables false
set_option maxHeartbeats 8000000
open Mc

/-- Does the item go to the cell at a place, so? -/
def mtD (b : List UInt8) (c : Nat) (wr : Bool) (p : Nat) : Bool := (decide (atB b p = 119) || (decide (atB b p = 114) && !wr)) && decide (num b p = (c : Int))
noncomputable def wA (hd : Bool) (b : List UInt8) (c : Nat) (wr : Bool) (h : Nat) (i p s : Nat) : Bool := mtD b c wr p && decide (s / 2 = h) && inDb hd b p s
noncomputable def wT (hd : Bool) (b : List UInt8) (c : Nat) (wr : Bool) (p s : Nat) : Nat → Bool := fun h => upTo3 (fun _ => 0) (wA hd b c wr h) 0 p s
theorem wT_zero (hd : Bool) (b : List UInt8) (c : Nat) (wr : Bool) : wT hd b c wr 0 0 = fun _ => false := by funext h; simp [wT, upTo3_zero]
theorem wT_p (hd : Bool) (b : List UInt8) (c : Nat) (wr : Bool) (p : Nat) : wT hd b c wr (p + 1) 0 = wT hd b c wr p 128 := by funext h; simp [wT, upTo3_p]
theorem wT_skip (hd : Bool) (b : List UInt8) (c : Nat) (wr : Bool) (p : Nat) (h : mtD b c wr p = false) : wT hd b c wr (p + 1) 0 = wT hd b c wr p 0 := by
  funext x
  simp [wT, upTo3, List.range_succ, wA, h]
theorem wT_s (hd : Bool) (b : List UInt8) (c : Nat) (wr : Bool) (p s : Nat) (hm : mtD b c wr p = true) : ∀ h, wT hd b c wr p (s + 1) h = if h = s / 2 then (wT hd b c wr p s (s / 2) || inDb hd b p s) else wT hd b c wr p s h := by
  intro h
  unfold wT
  rw [upTo3_s]
  by_cases e : h = s / 2
  · subst e; simp [wA, hm]
  · have : ¬ (s / 2 = h) := fun e' => e e'.symm
    simp [wA, this, e]
/-- With which locks held the item goes to the cell. -/
noncomputable def wayF (hd : Bool) (b : List UInt8) (c : Nat) (wr : Bool) : Nat → Bool := wT hd b c wr b.length 0
structure WyI (w W : World) (hd : Bool) (b : List UInt8) (g : Nat) (f : Nat → Bool) : Prop where
  it : Row W w.heap.size #[.bool hd, .string (Wd.mkS b)] 31
  bl : Blk W g 64 (fun h => .bool (f h))
  ge : w.heap.size < g
  b : Below w.heap.size w W
theorem WyI.below {w W W' : World} {hd : Bool} {b : List UInt8} {g : Nat} {f : Nat → Bool} (h : WyI w W hd b g f) (hb : Below W.heap.size W W') : WyI w W' hd b g f := ⟨h.it.below hb, h.bl.below hb, h.ge, below_go h.b hb⟩
theorem WyI.set {w W : World} {hd : Bool} {b : List UInt8} {g : Nat} {f f' : Nat → Bool} (h : WyI w W hd b g f) (x : Nat) (v : Bool) (hf : ∀ y, f' y = if y = x then v else f y) : WyI w (W.setCell ⟨g, x, none⟩ (.bool v)) hd b g f' := by
  have hg := h.ge
  refine ⟨h.it.setO (by omega) _ _, (h.bl.set x _).congr (fun i hi => ?_), h.ge, h.b.setCell (show w.heap.size ≤ g by omega) _⟩
  rw [hf i]
  by_cases e : i = x <;> simp [e]
/-- What 'ways' leaves. -/
def WyPost (w : World) (hd : Bool) (b : List UInt8) (c : Nat) (wr : Bool) (e : Ending) (w' : World) : Prop := ∃ g, e = .returned (.slice (some ⟨g, 0, none⟩) 64 64) ∧ w.heap.size ≤ g ∧ Blk w' g 64 (fun h => .bool (wayF hd b c wr h)) ∧ Below w.heap.size w w'
set_option maxRecDepth 100000 in
theorem ways_any (w : World) (hd : Bool) (b : List UInt8) (go n1 cap : Nat) (gs : Nat → Nat) (c : Nat) (wt : Bool) (hc : c < 4) (hg : GB b) (hn1 : n1 = b.length + 1) (hdt : DT w go gs b.length (inDb hd b)) :
    Calls Try.prog 96 #[.agg #[.bool hd, .string (Wd.mkS b)], .slice (some ⟨go, 0, none⟩) n1 cap, .int .i64 c, .bool wt] w (WyPost w hd b c wt) := by
  have HDT := hide hdt
  have HN1 := hide hn1
  have hlen : b.length ≤ 300 := hg.short
  have hbs : (Wd.mkS b).size = b.length := Wd.mkS_size b
  have hok := hide hg.pair
  have hmk : ∀ W : World, (Instr.makeSlice 125 (.int .i64 64) (.int .i64 64)).run Try.prog W = .ok (.slice (some ⟨W.heap.size, 0, none⟩) 64 64) (W.alloc (.cells (madeCells #[.bool false] 64) 4)) := fun W => mk_bools W 64 (by omega)
  clear hg hdt hn1
  have HW0 : Hid (WyI w ((w.alloc (.cells #[.bool hd, .string (Wd.mkS b)] 31)).alloc (.cells (madeCells #[.bool false] 64) 4)) hd b (w.heap.size + 1) (wT hd b c wt 0 0)) := by
    rw [wT_zero]
    have h := seen_new (w.alloc (.cells #[.bool hd, .string (Wd.mkS b)] 31)) 64
    have e : (w.alloc (.cells #[.bool hd, .string (Wd.mkS b)] 31)).heap.size = w.heap.size + 1 := by simp
    rw [e] at h
    exact hide ⟨(Row.new _ _ _).alloc _, h, by omega, below_new (below_one _ _) _⟩
  go_enter Try.func96, Try.ntmps96
  go_wp2
  generalize (w.alloc (.cells #[.bool hd, .string (Wd.mkS b)] 31)).alloc (.cells (madeCells #[.bool false] 64) 4) = W at *
  go_loopw [10] (fun a wr => ∃ p : Nat, p ≤ b.length ∧ a = .int .i64 p ∧ WyI w wr hd b (w.heap.size + 1) (wT hd b c wt p 0)) (fun a _ => b.length - (intOf a).toNat)
  case atStart => exact ⟨0, by omega, rfl, HW0.out⟩
  case round =>
    clear HW0
    obtain ⟨p, hp, rfl, hw⟩ := hrel
    have HW := hide hw
    clear hw
    have y1 : wr.cell? ⟨w.heap.size, 1, none⟩ = some (.string (Wd.mkS b)) := HW.out.it.cell 1 rfl
    have hp0 : (0 : Int) ≤ (p : Int) := by omega
    have hpI : (p : Int) ≤ 300 := by omega
    by_cases hpt : p < b.length
    · have AA := hide (fun W => atD b hlen p (by omega) W)
      have AN := hide (fun hc W => numberD b hok.out hlen p (by omega) hc W)
      have hbd := atB_bd b p
      have hmt : Hid (mtD b c wt p = ((decide (atB b p = 119) || (decide (atB b p = 114) && !wt)) && decide (num b p = (c : Int)))) := hide rfl
      have hpn : (p : Int) < (n1 : Int) := by have := HN1.out; omega
      have HSK := hide (wT_skip hd b c wt p)
      by_cases ht : (atB b p = 119 ∨ (atB b p = 114 ∧ wt = false))
      · have hcc : atB b p = 119 ∨ atB b p = 114 := by omega
        have AN' := hide (AN.out (by omega))
        obtain ⟨n, hn⟩ : ∃ n, num b p = n := ⟨_, rfl⟩
        rw [hn] at AN' hmt
        have HT := hide ht
        clear AN hn
        by_cases hnc : n = (c : Int)
        · have hm1 : mtD b c wt p = true := by rw [hmt.out, hnc]; rcases ht with e | ⟨e, e2⟩ <;> simp [e]; exact e2
          have HM1 := hide hm1
          subst hnc
          clear hmt hm1
          rcases ht with e | ⟨e, e2⟩
          · rw [e] at AA
            clear hbd hcc e
            go_wp2_with (first | (go_at_call 93; refine (AA.out _).mono ?_; rintro e w' ⟨rfl, hww⟩; obtain rfl := hww.symm; clear hww) | (go_at_call 94; refine (AN'.out _).mono ?_; rintro e w' ⟨rfl, hww⟩; obtain rfl := hww.symm; clear hww))
            go_loopw [12] (fun a wr => ∃ s : Nat, s ≤ 128 ∧ a = .int .i64 s ∧ WyI w wr hd b (w.heap.size + 1) (wT hd b c wt p s)) (fun a _ => 128 - (intOf a).toNat)
            case atStart => exact ⟨0, by omega, rfl, HW.out⟩
            case round =>
              clear HW y1
              obtain ⟨s, hs, rfl, hw⟩ := hrel
              have HW := hide hw
              clear hw
              by_cases hst : s < 128
              · have HDTr := HDT.out.below HW.out.b
                have z0 : wr.cell? ⟨go, p, none⟩ = some (.slice (some ⟨gs p, 0, none⟩) 128 128) := HDTr.out.cell p (by omega)
                have z1 : wr.cell? ⟨gs p, s, none⟩ = some (.bool (inDb hd b p s)) := (HDTr.inn p (by omega)).cell s hst
                have hs0 : (0 : Int) ≤ (s : Int) := by omega
                obtain ⟨h, hh⟩ : ∃ h, s / 2 = h := ⟨_, rfl⟩
                have hq : (s : Int) / 2 = (h : Int) := by omega
                have hh64 : (h : Int) < 64 := by omega
                have hh0 : (0 : Int) ≤ (h : Int) := by omega
                have z2 : wr.cell? ⟨w.heap.size + 1, h, none⟩ = some (.bool (wT hd b c wt p s h)) := HW.out.bl.cell h (by omega)
                have f2 := HW.out.bl.frozen h
                have HST := hide (wT_s hd b c wt p s HM1.out)
                rw [hh] at HST
                clear hh HDTr
                generalize inDb hd b p s = o at *
                obtain ⟨q, hq2⟩ : ∃ q, wT hd b c wt p s h = q := ⟨_, rfl⟩
                rw [hq2] at z2 HST
                clear hq2
                cases q <;> cases o <;> (
                  go_wp2
                  skip
                  go_round
                  case measure => simp [intOf]; omega
                  case rel => exact ⟨s + 1, by omega, by go_num, HW.out.set h _ (fun y => by rw [HST.out y]; rfl)⟩)
              · have e : s = 128 := by omega
                subst e
                rw [← wT_p] at HW
                go_wp2
                go_round
                case measure => simp [intOf]; omega
                case rel => exact ⟨p + 1, by omega, by go_num, HW.out⟩
          · rw [e] at AA
            clear hbd hcc e
            subst e2
            go_wp2_with (first | (go_at_call 93; refine (AA.out _).mono ?_; rintro e w' ⟨rfl, hww⟩; obtain rfl := hww.symm; clear hww) | (go_at_call 94; refine (AN'.out _).mono ?_; rintro e w' ⟨rfl, hww⟩; obtain rfl := hww.symm; clear hww))
            go_loopw [12] (fun a wr => ∃ s : Nat, s ≤ 128 ∧ a = .int .i64 s ∧ WyI w wr hd b (w.heap.size + 1) (wT hd b c false p s)) (fun a _ => 128 - (intOf a).toNat)
            case atStart => exact ⟨0, by omega, rfl, HW.out⟩
            case round =>
              clear HW y1
              obtain ⟨s, hs, rfl, hw⟩ := hrel
              have HW := hide hw
              clear hw
              by_cases hst : s < 128
              · have HDTr := HDT.out.below HW.out.b
                have z0 : wr.cell? ⟨go, p, none⟩ = some (.slice (some ⟨gs p, 0, none⟩) 128 128) := HDTr.out.cell p (by omega)
                have z1 : wr.cell? ⟨gs p, s, none⟩ = some (.bool (inDb hd b p s)) := (HDTr.inn p (by omega)).cell s hst
                have hs0 : (0 : Int) ≤ (s : Int) := by omega
                obtain ⟨h, hh⟩ : ∃ h, s / 2 = h := ⟨_, rfl⟩
                have hq : (s : Int) / 2 = (h : Int) := by omega
                have hh64 : (h : Int) < 64 := by omega
                have hh0 : (0 : Int) ≤ (h : Int) := by omega
                have z2 : wr.cell? ⟨w.heap.size + 1, h, none⟩ = some (.bool (wT hd b c false p s h)) := HW.out.bl.cell h (by omega)
                have f2 := HW.out.bl.frozen h
                have HST := hide (wT_s hd b c false p s HM1.out)
                rw [hh] at HST
                clear hh HDTr
                generalize inDb hd b p s = o at *
                obtain ⟨q, hq2⟩ : ∃ q, wT hd b c false p s h = q := ⟨_, rfl⟩
                rw [hq2] at z2 HST
                clear hq2
                cases q <;> cases o <;> (
                  go_wp2
                  skip
                  go_round
                  case measure => simp [intOf]; omega
                  case rel => exact ⟨s + 1, by omega, by go_num, HW.out.set h _ (fun y => by rw [HST.out y]; rfl)⟩)
              · have e : s = 128 := by omega
                subst e
                rw [← wT_p] at HW
                go_wp2
                go_round
                case measure => simp [intOf]; omega
                case rel => exact ⟨p + 1, by omega, by go_num, HW.out⟩
        · have hm1 : mtD b c wt p = false := by rw [hmt.out]; simp [hnc]
          have HM1 := hide hm1
          have hnc' : (n == (c : Int)) = false := by simpa using hnc
          clear hmt hm1 hnc
          rcases ht with e | ⟨e, e2⟩
          · rw [e] at AA
            clear hbd hcc e
            go_wp2_with (first | (go_at_call 93; refine (AA.out _).mono ?_; rintro e w' ⟨rfl, hww⟩; obtain rfl := hww.symm; clear hww) | (go_at_call 94; refine (AN'.out _).mono ?_; rintro e w' ⟨rfl, hww⟩; obtain rfl := hww.symm; clear hww))
            go_round
            case measure => simp [intOf]; omega
            case rel => exact ⟨p + 1, by omega, by go_num, by rw [HSK.out HM1.out]; exact HW.out⟩
          · rw [e] at AA
            clear hbd hcc e
            subst e2
            go_wp2_with (first | (go_at_call 93; refine (AA.out _).mono ?_; rintro e w' ⟨rfl, hww⟩; obtain rfl := hww.symm; clear hww) | (go_at_call 94; refine (AN'.out _).mono ?_; rintro e w' ⟨rfl, hww⟩; obtain rfl := hww.symm; clear hww))
            go_round
            case measure => simp [intOf]; omega
            case rel => exact ⟨p + 1, by omega, by go_num, by rw [HSK.out HM1.out]; exact HW.out⟩
      · have hm1 : mtD b c wt p = false := by
          rw [hmt.out]
          have e1 : ¬ atB b p = 119 := fun e => ht (Or.inl e)
          by_cases e2 : atB b p = 114
          · have e3 : wt = true := by cases wt; exact absurd (Or.inr ⟨e2, rfl⟩) ht; rfl
            simp [e1, e3]
          · simp [e1, e2]
        have HM1 := hide hm1
        have e1 : ¬ atB b p = 119 := fun e => ht (Or.inl e)
        by_cases e2 : atB b p = 114
        · have e3 : wt = true := by cases wt; exact absurd (Or.inr ⟨e2, rfl⟩) ht; rfl
          subst e3
          rw [e2] at AA
          clear hmt hm1 ht AN hbd e1 e2
          go_wp2_with (first | (go_at_call 93; refine (AA.out _).mono ?_; rintro e w' ⟨rfl, hww⟩; obtain rfl := hww.symm; clear hww) | (go_at_call 94; refine (AN'.out _).mono ?_; rintro e w' ⟨rfl, hww⟩; obtain rfl := hww.symm; clear hww))
          go_round
          case measure => simp [intOf]; omega
          case rel => exact ⟨p + 1, by omega, by go_num, by rw [HSK.out HM1.out]; exact HW.out⟩
        · clear hmt hm1 ht AN
          generalize atB b p = a at *
          go_wp2_with (first | (go_at_call 93; refine (AA.out _).mono ?_; rintro e w' ⟨rfl, hww⟩; obtain rfl := hww.symm; clear hww) | (go_at_call 94; refine (AN'.out _).mono ?_; rintro e w' ⟨rfl, hww⟩; obtain rfl := hww.symm; clear hww))
          go_round
          case measure => simp [intOf]; omega
          case rel => exact ⟨p + 1, by omega, by go_num, by rw [HSK.out HM1.out]; exact HW.out⟩
    · have e : p = b.length := by omega
      subst e
      go_wp2
      go_ret
      exact ⟨w.heap.size + 1, rfl, by omega, HW.out.bl, HW.out.b⟩
end Go.Proofs.Ytecmfdkhcffpmaa
/- Contracts of the document's reports: races. -/
namespace Go.Proofs.Ytecmfdkhcffpmaa
open Go.RowKit
set_option linter.unusedSimpArgs false
set_option linter.unusedVariables false
set_option maxHeartbeats 8000000
open Mc

/-- Do two items meet at a cell, as the document asks? -/
noncomputable def prD (its : List Wd.It) (c i j : Nat) : Bool := (!decide (i = j) || isH its i) && apTo (wayF (isH its i) (bodyOf its i) c true) (wayF (isH its j) (bodyOf its j) c false) 64
noncomputable def rcRow (its : List Wd.It) (c i n : Nat) : Bool := (List.range n).any (fun j => prD its c i j)
noncomputable def rcTo (its : List Wd.It) (c n : Nat) : Bool := (List.range n).any (fun i => rcRow its c i its.length)
theorem rcRow_succ (its : List Wd.It) (c i n : Nat) : rcRow its c i (n + 1) = (rcRow its c i n || prD its c i n) := by simp [rcRow, List.range_succ]
theorem rcTo_succ (its : List Wd.It) (c n : Nat) : rcTo its c (n + 1) = (rcTo its c n || rcRow its c n its.length) := by simp [rcTo, List.range_succ]
theorem wayF_iff (hd : Bool) (b : List UInt8) (c : Nat) (wt : Bool) (h : Nat) : wayF hd b c wt h = true ↔ ∃ p, p < b.length ∧ mtD b c wt p = true ∧ ∃ s, s < 128 ∧ s / 2 = h ∧ InD hd b p s := by
  unfold wayF wT upTo3 wA
  simp only [List.range_zero, List.any_nil, Bool.false_or, Bool.or_false, List.any_eq_true, List.mem_range, Bool.and_eq_true, decide_eq_true_eq, inDb_iff]
  constructor
  · rintro ⟨p, hp, s, hs, ⟨h1, h2⟩, h3⟩; exact ⟨p, hp, h1, s, hs, h2, h3⟩
  · rintro ⟨p, hp, h1, s, hs, h2, h3⟩; exact ⟨p, hp, s, hs, ⟨h1, h2⟩, h3⟩
theorem mtD_iff (b : List UInt8) (c : Nat) (wt : Bool) (p : Nat) : mtD b c wt p = true ↔ AtC b c p ∧ (wt = true → atB b p = 119) := by
  unfold mtD AtC
  have hnp : (atB b p = 114 ∨ atB b p = 119) → numP b p = num b p := fun h => by unfold numP; rw [if_pos (by omega)]
  simp only [Bool.and_eq_true, Bool.or_eq_true, decide_eq_true_eq, Bool.not_eq_true']
  constructor
  · rintro ⟨h1, h2⟩
    have hc : atB b p = 114 ∨ atB b p = 119 := by rcases h1 with h | ⟨h, _⟩ <;> omega
    refine ⟨⟨hc, by rw [hnp hc]; exact h2⟩, fun hw => ?_⟩
    rcases h1 with h | ⟨_, h⟩
    · exact h
    · rw [hw] at h; cases h
  · rintro ⟨⟨hc, hn⟩, hw⟩
    rw [hnp hc] at hn
    refine ⟨?_, hn⟩
    cases wt
    · rcases hc with h | h
      · exact Or.inr ⟨h, rfl⟩
      · exact Or.inl h
    · exact Or.inl (hw rfl)
theorem apTo_iff (fa fb : Nat → Bool) : apTo fa fb 64 = true ↔ ∃ x, x < 64 ∧ ∃ y, y < 64 ∧ fa x = true ∧ fb y = true ∧ x &&& y = 0 := by
  unfold apTo apRow
  simp only [List.any_eq_true, List.mem_range, Bool.and_eq_true, decide_eq_true_eq, and_assoc]
theorem prD_iff (its : List Wd.It) (hf : Fine its) (c i j : Nat) (hi : i < its.length) (hj : j < its.length) : prD its c i j = true ↔ (i = j → isH its i = true) ∧ Meet (isH its i) (bodyOf its i) (isH its j) (bodyOf its j) c := by
  unfold prD
  rw [Bool.and_eq_true, apTo_iff]
  have hin : ∀ (k : Nat) (s : St3), k < its.length → Rch (isH its k) (bodyOf its k) s → ∀ wt, AtC (bodyOf its k) c s.1 → (wt = true → atB (bodyOf its k) s.1 = 119) → wayF (isH its k) (bodyOf its k) c wt s.2.1 = true ∧ s.2.1 < 64 := by
    intro k s hk hr wt hat hw
    have hok := hr.ok (hf.gb hk)
    refine ⟨?_, hok.1⟩
    rw [wayF_iff]
    have hlt : s.1 < (bodyOf its k).length := atB_lt (by rcases hat.1 with e | e <;> rw [e] <;> decide)
    refine ⟨s.1, hlt, (mtD_iff _ _ _ _).2 ⟨hat, hw⟩, dn s.2.1 s.2.2, dn_lt _ hok.1, dn_h _ _, dn_lt _ hok.1, ?_⟩
    have e : stOf s.1 (dn s.2.1 s.2.2) = s := stOf_dn _ _ _
    rw [e]; exact hr
  refine and_congr ?_ ⟨?_, ?_⟩
  · simp only [Bool.or_eq_true, Bool.not_eq_true', decide_eq_false_iff_not]
    constructor
    · rintro (h | h) e
      · exact absurd e h
      · exact h
    · intro h
      by_cases e : i = j
      · exact Or.inr (h e)
      · exact Or.inl e
  · rintro ⟨x, hx, y, hy, h1, h2, h3⟩
    rw [wayF_iff] at h1 h2
    obtain ⟨p, hp, m1, s, hs, e1, r1⟩ := h1
    obtain ⟨q, hq, m2, t, ht, e2, r2⟩ := h2
    rw [mtD_iff] at m1 m2
    refine ⟨stOf p s, stOf q t, r1.2, r2.2, ⟨m1.1, m1.2 rfl⟩, m2.1, ?_⟩
    show s / 2 &&& t / 2 = 0
    rw [e1, e2]; exact h3
  · rintro ⟨s, t, hs, ht, h1, h2, h3⟩
    obtain ⟨a1, a2⟩ := hin i s hi hs true h1.1 (fun _ => h1.2)
    obtain ⟨b1, b2⟩ := hin j t hj ht false h2 (fun h => by cases h)
    exact ⟨s.2.1, a2, t.2.1, b2, a1, b1, h3⟩
theorem rcTo_iff (its : List Wd.It) (hf : Fine its) (c : Nat) : rcTo its c its.length = true ↔ Race its c := by
  unfold rcTo rcRow Race
  simp only [List.any_eq_true, List.mem_range]
  constructor
  · rintro ⟨i, hi, j, hj, h⟩
    obtain ⟨h1, h2⟩ := (prD_iff its hf c i j hi hj).1 h
    exact ⟨i, j, hi, hj, h1, h2⟩
  · rintro ⟨i, j, hi, hj, h1, h2⟩
    exact ⟨i, hi, j, hj, (prD_iff its hf c i j hi hj).2 ⟨h1, h2⟩⟩
theorem raceL_doc (its : List Wd.It) (hf : Fine its) : raceL (fun c => rcTo its c its.length) 4 = raceS its := by
  refine raceL_congr _ _ _ (fun c hc => ?_)
  exact (open Classical in bool_iff (rcTo_iff its hf c))
theorem DkAll.cellsW {w : World} {its : List Wd.It} {iv dv : Value} {D : List Dk} (h : DkAll w its iv dv D) {i : Nat} (hi : i < its.length) : ∃ (gi ci gd cd : Nat) (d : Dk), iv = .slice (some ⟨gi, 0, none⟩) its.length ci ∧ dv = .slice (some ⟨gd, 0, none⟩) its.length cd ∧ ∀ W, Below w.heap.size w W → W.cell? ⟨gi, i * 2, none⟩ = some (.bool (isH its i)) ∧ W.cell? ⟨gi, i * 2 + 1, none⟩ = some (.string (Wd.mkS (bodyOf its i))) ∧ W.cell? ⟨gd, i, none⟩ = some (.slice (some ⟨d.go, 0, none⟩) d.n1 d.cap) ∧ ∀ c, c < 4 → ∀ wt, Calls Try.prog 96 #[.agg #[.bool (isH its i), .string (Wd.mkS (bodyOf its i))], .slice (some ⟨d.go, 0, none⟩) d.n1 d.cap, .int .i64 (c : Nat), .bool wt] W (WyPost W (isH its i) (bodyOf its i) c wt) := by
  have hiD : i < D.length := by rw [h.len]; exact hi
  obtain ⟨gi, ci, hv1, hg1, c0, c1⟩ := items_cells h.items hi
  obtain ⟨gd, cd, hv2, _, hg2, _, _, hr2⟩ := own_el dkV_len h.own (List.getElem?_eq_getElem hiD)
  have hdk := h.each i _ (List.getElem?_eq_getElem hiD)
  have x2 : w.cell? ⟨gd, i, none⟩ = some (.slice (some ⟨D[i].go, 0, none⟩) D[i].n1 D[i].cap) := by have := hr2 0 _ rfl; simpa using this
  rw [h.len] at hv2
  refine ⟨gi, ci, gd, cd, D[i], hv1, hv2, fun W hb => ⟨?_, ?_, ?_, fun c hc wt => ?_⟩⟩
  · rw [hb.cell (by exact hg1)]; exact c0
  · rw [hb.cell (by exact hg1)]; exact c1
  · rw [hb.cell (by exact hg2)]; exact x2
  · exact ways_any W _ _ _ _ _ D[i].gs c wt hc (h.fine.gb hi) hdk.n1 (hdk.dt.below hb)
set_option maxRecDepth 100000 in
theorem draces_any (w : World) (its : List Wd.It) (ia da : Option Addr) (ic dc : Nat) (D : List Dk) (hD : DkAll w its (.slice ia its.length ic) (.slice da its.length dc) D) :
    Calls Try.prog 63 #[.slice ia its.length ic, .slice da its.length dc] w fun e w' => ∃ ao cc, e = .returned (.slice ao (raceS its).length cc) ∧ RepI w w' (.slice ao (raceS its).length cc) (raceS its) := by
  have HD := hide hD
  have HF := hide hD.fine
  have hl8 := hD.fine.len
  have HRL := hide (raceL_doc its hD.fine)
  clear hD
  have HR0 := hide (RepI.nil w)
  obtain ⟨i0, hj0, hz0, hz1, hz2⟩ := info_parts Try.infoRep
  go_enter Try.func63, Try.ntmps63
  go_wp2
  go_loopw [5, 6] (fun a x wr => ∃ c : Nat, c ≤ 4 ∧ x = .int .i64 c ∧ RepI w wr a (raceL (fun c => rcTo its c its.length) c)) (fun _ x _ => 4 - (intOf x).toNat)
  case atStart => exact ⟨0, by omega, rfl, HR0.out⟩
  case round =>
    clear HR0
    obtain ⟨c, hc, rfl, hr⟩ := hrel
    have HR := hide hr
    clear hr
    obtain ⟨ao, cc, hv⟩ := own_v HR.out.own
    subst hv
    have hlen := raceL_len (fun c => rcTo its c its.length) c
    by_cases hct : c < 4
    · have hc0 : (0 : Int) ≤ (c : Int) := by omega
      have hcI : (c : Int) < 4 := by omega
      have hyes := hide (raceL_yes (fun c => rcTo its c its.length) c)
      have hno := hide (raceL_no (fun c => rcTo its c its.length) c)
      generalize raceL (fun c => rcTo its c its.length) c = X at *
      have HBX := hide HR.out.b
      go_wp2
      generalize hw0 : wr = w0 at *
      clear hw0
      go_loopw [7, 8] (fun a x wr => ∃ i : Nat, i ≤ its.length ∧ x = .int .i64 i ∧ a = .bool (rcTo its c i) ∧ Below w0.heap.size w0 wr) (fun _ x _ => its.length - (intOf x).toNat)
      case atStart => exact ⟨0, by omega, rfl, rfl, Below.refl _ _⟩
      case round =>
        obtain ⟨i, hi, rfl, rfl, hb0⟩ := hrel
        have HB := hide hb0
        clear hb0
        have HBW := hide (below_go HBX.out HB.out)
        by_cases hit : i < its.length
        · obtain ⟨gi, ci, gd, cd, d, hv1, hv2, hcel⟩ := HD.out.cellsW hit
          cases hv1
          cases hv2
          have HC := hide hcel
          have hi0 : (0 : Int) ≤ (i : Int) := by omega
          obtain ⟨x0, x1, x2, x3⟩ := HC.out _ HBW.out
          clear x3 hcel
          have AW1 := hide (fun W hb => (HC.out W hb).2.2.2 c hct true)
          have AP := hide (fun W ga gb fa fb ha hb => apart_any W ga gb fa fb ha hb)
          go_wp2
          go_region_held3 (fun W' => W'.cell? ⟨gi, i * 2, none⟩ = some (.bool (isH its i)) ∧ W'.cell? ⟨gi, i * 2 + 1, none⟩ = some (.string (Wd.mkS (bodyOf its i))) ∧ W'.cell? ⟨gd, i, none⟩ = some (.slice (some ⟨d.go, 0, none⟩) d.n1 d.cap)) (go_keep) (first | (go_at_call 96; refine (AW1.out _ (by first | exact HBW.out | exact HBW.out.drew | exact HBW.out.drew.drew)).mono ?_; rintro e w2 ⟨ga, rfl, hga, hba, hb2⟩; have HBA := hide hba; have HB2 := hide (show Below w0.heap.size w0 w2 from below_go HB.out.drew hb2); have HBW2 := hide (show Below w.heap.size w w2 from below_go HBW.out.drew hb2); obtain ⟨x0', x1', x2', _⟩ := HC.out _ HBW2.out; clear hba hb2))
          clear x0 x1 x2 x0' x1' x2'
          go_wp2
          obtain ⟨f0, hf0⟩ : ∃ f0, rcTo its c i = f0 := ⟨_, rfl⟩
          have HF0 := hide hf0
          rw [hf0]
          clear hf0
          go_loopw [7, 10] (fun a x wr => ∃ j : Nat, j ≤ its.length ∧ x = .int .i64 j ∧ a = .bool (f0 || rcRow its c i j) ∧ Below w2.heap.size w2 wr) (fun _ x _ => its.length - (intOf x).toNat)
          case atStart => exact ⟨0, by omega, rfl, by simp [rcRow], Below.refl _ _⟩
          case round =>
            obtain ⟨j, hj, rfl, rfl, hbj⟩ := hrel
            have HBI := hide hbj
            clear hbj
            have HBJ := hide (below_go HBW2.out HBI.out)
            have HAJ := hide (HBA.out.below HBI.out)
            by_cases hjt : j < its.length
            · obtain ⟨gi', ci', gd', cd', d', hv1, hv2, hcel⟩ := HD.out.cellsW hjt
              cases hv1
              cases hv2
              have HC' := hide hcel
              clear hcel
              obtain ⟨y0, y1, y2, y3⟩ := HC'.out _ HBJ.out
              have x0 := (HC.out _ HBJ.out).1
              clear y3
              have AW2 := hide (fun W hb => (HC'.out W hb).2.2.2 c hct false)
              have hjI : (0 : Int) ≤ (j : Int) := by omega
              have hrs := hide (rcRow_succ its c i j)
              have hpr : Hid (prD its c i j = ((!decide (i = j) || isH its i) && apTo (wayF (isH its i) (bodyOf its i) c true) (wayF (isH its j) (bodyOf its j) c false) 64)) := hide rfl
              rw [hpr.out] at hrs
              generalize rcRow its c i j = f1 at *
              obtain ⟨rr, hrr⟩ : ∃ rr, apTo (wayF (isH its i) (bodyOf its i) c true) (wayF (isH its j) (bodyOf its j) c false) 64 = rr := ⟨_, rfl⟩
              have AP2 := hide (fun W gb ha hb => AP.out W ga gb (wayF (isH its i) (bodyOf its i) c true) (wayF (isH its j) (bodyOf its j) c false) ha hb)
              rw [hrr] at AP2 hrs
              clear hrr hpr
              obtain ⟨hd, hhd⟩ : ∃ hd, isH its i = hd := ⟨_, rfl⟩
              have HHD := hide hhd
              by_cases hij : i = j
              · subst hij
                rw [hhd] at x0 hrs
                clear hhd
                cases hd
                · clear y0 y1 y2
                  go_wp2
                  go_round
                  case measure => simp [intOf]; omega
                  case rel => exact ⟨i + 1, by omega, by go_num, by rw [hrs.out]; simp, HBI.out⟩
                · have hne : (i == i) = true := by simp
                  clear x0
                  have x0 : wr.cell? ⟨gi, i * 2, none⟩ = some (.bool true) := by rw [← HHD.out]; exact (HC.out _ HBJ.out).1
                  clear y0
                  rw [HHD.out] at HC' AW2 AP2 HAJ
                  have y0 := x0
                  go_wp2
                  go_region_held3 (fun W' => W'.cell? ⟨gi, i * 2, none⟩ = some (.bool true) ∧ W'.cell? ⟨gi, i * 2 + 1, none⟩ = some (.string (Wd.mkS (bodyOf its i))) ∧ W'.cell? ⟨gd, i, none⟩ = some (.slice (some ⟨d'.go, 0, none⟩) d'.n1 d'.cap)) (go_keep) (first | (go_at_call 96; refine (AW2.out _ (by first | exact HBJ.out | exact HBJ.out.drew | exact HBJ.out.drew.drew)).mono ?_; rintro e w4 ⟨gb, rfl, hgb, hbb, hb4⟩; have HBB := hide hbb; have HB4 := hide (show Below w2.heap.size w2 w4 from below_go HBI.out.drew hb4); have HA4 := hide (HAJ.out.below (below_go (Below.refl _ _).drew hb4)); obtain ⟨y0', y1', y2', _⟩ := HC'.out _ (below_go HBW2.out HB4.out); clear hbb hb4))
                  cases f0 <;> cases f1 <;> cases rr <;> (
                    go_wp2_with (go_at_call 97; refine (AP2.out _ _ HA4.out HBB.out).mono ?_; rintro e w' ⟨rfl, hww⟩; obtain rfl := hww.symm; clear hww)
                    go_round
                    case measure => simp [intOf]; omega
                    case rel => exact ⟨i + 1, by omega, by go_num, by rw [hrs.out]; simp, HB4.out⟩)
              · have hij' : ((i : Int) == (j : Int)) = false := by simp; omega
                have HIJ := hide hij
                clear hij hhd HHD
                go_wp2
                go_region_held3 (fun W' => W'.cell? ⟨gi, j * 2, none⟩ = some (.bool (isH its j)) ∧ W'.cell? ⟨gi, j * 2 + 1, none⟩ = some (.string (Wd.mkS (bodyOf its j))) ∧ W'.cell? ⟨gd, j, none⟩ = some (.slice (some ⟨d'.go, 0, none⟩) d'.n1 d'.cap)) (go_keep) (first | (go_at_call 96; refine (AW2.out _ (by first | exact HBJ.out | exact HBJ.out.drew | exact HBJ.out.drew.drew)).mono ?_; rintro e w4 ⟨gb, rfl, hgb, hbb, hb4⟩; have HBB := hide hbb; have HB4 := hide (show Below w2.heap.size w2 w4 from below_go HBI.out.drew hb4); have HA4 := hide (HAJ.out.below (below_go (Below.refl _ _).drew hb4)); obtain ⟨y0', y1', y2', _⟩ := HC'.out _ (below_go HBW2.out HB4.out); clear hbb hb4))
                cases f0 <;> cases f1 <;> cases rr <;> (
                  go_wp2_with (go_at_call 97; refine (AP2.out _ _ HA4.out HBB.out).mono ?_; rintro e w' ⟨rfl, hww⟩; obtain rfl := hww.symm; clear hww)
                  go_round
                  case measure => simp [intOf]; omega
                  case rel => exact ⟨j + 1, by omega, by go_num, by rw [hrs.out]; simp [HIJ.out], HB4.out⟩)
            · have e : j = its.length := by omega
              subst e
              go_wp2
              go_round
              case measure => simp [intOf]; omega
              case rel => exact ⟨i + 1, by omega, by go_num, by rw [rcTo_succ, HF0.out], below_go HB2.out (HBI.out.mono (Nat.le_refl _))⟩
        · have e : i = its.length := by omega
          subst e
          have HR2 := hide (HR.out.below HB.out)
          have hsz2 := HB.out.size
          have hsz3 := HR.out.b.size
          obtain ⟨f, hf⟩ : ∃ f, rcTo its c its.length = f := ⟨_, rfl⟩
          rw [hf] at hyes hno
          rw [hf]
          clear hf
          cases f
          · go_wp2
            go_round
            case measure => simp [intOf]; omega
            case rel => exact ⟨c + 1, by omega, by go_num, by rw [hno.out (by first | rfl | trivial)]; exact HR2.out⟩
          · go_wp2_with (first | (at_builtin; refine wpList_push (f := rpV) rpV_len rfl _ _ 35 rfl (w.heap.size) 41 i0 _ 24 Try.underlying35 hj0 hz0 hz1 hz2 rfl (by decide) _ X (7, -1, ((c : Nat) : Int)) rfl ⟨_, 0, none⟩ rfl ?_ ?_ ?_ ?_ ?_ ?_ ?_; (exact HR2.out.own.alloc _); (exact newsL _ _ _); (intro x hx; simp [rpV] at hx; rcases hx with rfl | rfl | rfl <;> rfl); (unfold maxLen; omega); (omega); (exact (by simp; omega)); intro ao' cc' w3 hown' hbel' hsame' hat'; have HOw3 := hide hown'; have HBLw3 := hide hbel'; clear hown' hbel' hsame' hat'))
            go_round
            case measure => simp [intOf]; omega
            case rel => exact ⟨c + 1, by omega, by go_num, by rw [hyes.out (by first | rfl | trivial)]; exact HR2.out.push HOw3.out HBLw3.out⟩
    · have e : c = 4 := by omega
      subst e
      rw [HRL.out] at HR
      go_wp2
      go_ret
      exact ⟨ao, cc, by rw [← HRL.out]; rfl, HR.out⟩
end Go.Proofs.Ytecmfdkhcffpmaa
