/- ProgI. -/
import Derived.Test.YtecmfdkhcffpmabB26
/- The program's machine in memory. -/
namespace Go.Proofs.Ytecmfdkhcffpmab
open Go.RowKit
set_option linter.unusedSimpArgs false
set_option linter.unusedVariables false
set_option maxHeartbeats 800000
open Mc

def fpC (its : List Wd.It) (lg : Nat → Nat) (f : Fr) (o : Bool) (j : Nat) : Value := ((fpV its lg f o)[j]?).getD undef
def pcF (its : List Wd.It) (lg : Nat → Nat) (S : Ma) (c j : Nat) : Value := if j < 13 then fpC its lg (S.cp c).t (S.cp c).off j else fpC its lg (S.cp c).h (S.cp c).h.there (j - 13)
def pmF (ai : Option Addr) (ci : Nat) (its : List Wd.It) (lg : Nat → Nat) (S : Ma) (i : Nat) : Value := if i = 0 then .slice ai its.length ci else pcF its lg S ((i - 1) / 26) ((i - 1) % 26)
theorem pmF_at (ai : Option Addr) (ci : Nat) (its : List Wd.It) (lg : Nat → Nat) (S : Ma) (c j : Nat) (hj : j < 26) : pmF ai ci its lg S (1 + c * 26 + j) = pcF its lg S c j := by
  unfold pmF
  rw [if_neg (by omega), show (1 + c * 26 + j - 1) / 26 = c by omega, show (1 + c * 26 + j - 1) % 26 = j by omega]
def piF (its : List Wd.It) (lg : Nat → Nat) (S : Ma) (i : Nat) : Value :=
  if i % 6 = 0 then .bool (isH its (i / 6))
  else if i % 6 = 1 then .bool (isH its (i / 6))
  else if i % 6 = 2 then .string (Wd.mkS (bodyOf its (i / 6)))
  else if i % 6 = 3 then .slice (some ⟨lg (i / 6), 0, none⟩) (bodyOf its (i / 6)).length (bodyOf its (i / 6)).length
  else if i % 6 = 4 then .bool (S.rd (i / 6))
  else .int .i64 (S.pl (i / 6) : Int)
def ldF (its : List Wd.It) (k : Nat) : Nat → Value := fun i => .int .i64 ((leads (bodyOf its k) i : Nat) : Int)
/-- The program's machine: its block b, the items' slice, where the leads lie. -/
structure PM (w : World) (b : Nat) (ai : Option Addr) (ci : Nat) (lg : Nat → Nat) (its : List Wd.It) (S : Ma) : Prop where
  root : Blk w b 79 (pmF ai ci its lg S)
  items : 0 < its.length → ∃ g, ai = some ⟨g, 0, none⟩ ∧ Blk w g (its.length * 6) (piF its lg S) ∧ g ≠ b
  leads : ∀ i, i < its.length → Blk w (lg i) (bodyOf its i).length (ldF its i) ∧ lg i ≠ b ∧ ai ≠ some ⟨lg i, 0, none⟩
  caps : its.length ≤ ci ∧ ci ≤ maxLen ∧ its.length ≤ 8
  ab : ai ≠ some ⟨b, 0, none⟩
/-- All stands but for the machine's own two blocks. -/
structure KP (b : Nat) (ai : Option Addr) (w w' : World) : Prop where
  below : Below 0 w w'
  same : ∀ k, k < w.heap.size → k ≠ b → ai ≠ some ⟨k, 0, none⟩ → w'.heap[k]? = w.heap[k]?
theorem KP.of {b : Nat} {ai : Option Addr} {w w' : World} (h : Below w.heap.size w w') : KP b ai w w' := ⟨h.mono (Nat.zero_le _), fun k hk _ _ => h.block k hk⟩
theorem KP.refl (b : Nat) (ai : Option Addr) (w : World) : KP b ai w w := KP.of (Below.refl _ _)
theorem KP.trans {b : Nat} {ai : Option Addr} {x y z : World} (h1 : KP b ai x y) (h2 : KP b ai y z) : KP b ai x z :=
  ⟨h1.below.trans h2.below, fun k hk e1 e2 => (h2.same k (Nat.lt_of_lt_of_le hk h1.below.size) e1 e2).trans (h1.same k hk e1 e2)⟩
theorem KP.drew {b : Nat} {ai : Option Addr} {x w : World} (h : KP b ai x w) : KP b ai x w.drew := h.trans (KP.of ((Below.refl _ _).drew))
theorem KP.alloc {b : Nat} {ai : Option Addr} {x w : World} (h : KP b ai x w) (o : Obj) : KP b ai x (w.alloc o) := h.trans (KP.of (below_one _ o))
theorem KP.set {b : Nat} {ai : Option Addr} {x w : World} (h : KP b ai x w) (o : Nat) (v : Value) : KP b ai x (w.setCell ⟨b, o, none⟩ v) :=
  h.trans ⟨(Below.refl _ _).setCell (p := ⟨b, o, none⟩) (Nat.zero_le _) v, fun k hk e1 e2 => heap_setCell_other w ⟨b, o, none⟩ k v e1⟩
theorem KP.sets {b : Nat} {ai : Option Addr} {x w : World} (h : KP b ai x w) (o : Nat) (vs : List Value) : KP b ai x (w.setCells b o vs) :=
  h.trans ⟨Below.setCells b (Nat.zero_le _) vs o w (Below.refl _ _), fun k hk e1 e2 => heap_setCells_other b vs o w k e1⟩
theorem KP.seti {b g : Nat} {ai : Option Addr} {x w : World} (h : KP b ai x w) (hg : ai = some ⟨g, 0, none⟩) (o : Nat) (v : Value) : KP b ai x (w.setCell ⟨g, o, none⟩ v) :=
  h.trans ⟨(Below.refl _ _).setCell (p := ⟨g, o, none⟩) (Nat.zero_le _) v, fun k hk e1 e2 => heap_setCell_other w ⟨g, o, none⟩ k v (by intro e; have e' : k = g := e; subst e'; exact e2 hg)⟩
theorem PM.below {w w' : World} {b : Nat} {ai : Option Addr} {ci : Nat} {lg : Nat → Nat} {its : List Wd.It} {S : Ma} (h : PM w b ai ci lg its S) (hb : Below w.heap.size w w') : PM w' b ai ci lg its S :=
  ⟨h.root.below hb, fun hl => (h.items hl).imp fun g hg => ⟨hg.1, hg.2.1.below hb, hg.2.2⟩, fun i hi => ⟨(h.leads i hi).1.below hb, (h.leads i hi).2⟩, h.caps, h.ab⟩
theorem PM.alloc {w : World} {b : Nat} {ai : Option Addr} {ci : Nat} {lg : Nat → Nat} {its : List Wd.It} {S : Ma} (h : PM w b ai ci lg its S) (o : Obj) : PM (w.alloc o) b ai ci lg its S := h.below (below_one _ o)
theorem PM.upd {w w' : World} {b : Nat} {ai : Option Addr} {ci : Nat} {lg : Nat → Nat} {its : List Wd.It} {S S' : Ma} (h : PM w b ai ci lg its S) (hk : KP b ai w w') (hr : Blk w' b 79 (pmF ai ci its lg S')) (hi : ∀ g, 0 < its.length → ai = some ⟨g, 0, none⟩ → Blk w' g (its.length * 6) (piF its lg S')) : PM w' b ai ci lg its S' :=
  ⟨hr, fun hl => (h.items hl).imp fun g hg => ⟨hg.1, hi g hl hg.1, hg.2.2⟩, fun i hl => ⟨(h.leads i hl).1.same (hk.same _ (h.leads i hl).1.lt (h.leads i hl).2.1 (h.leads i hl).2.2), (h.leads i hl).2⟩, h.caps, h.ab⟩
theorem PM.cpAt {w : World} {b : Nat} {ai : Option Addr} {ci : Nat} {lg : Nat → Nat} {its : List Wd.It} {S : Ma} (h : PM w b ai ci lg its S) (c j : Nat) (hc : c < 3) (hj : j < 26) : w.cell? ⟨b, 1 + c * 26 + j, none⟩ = some (pcF its lg S c j) := by
  rw [h.root.cell (1 + c * 26 + j) (by omega), pmF_at _ _ _ _ _ _ _ hj]
theorem PM.slot {w : World} {b : Nat} {ai : Option Addr} {ci : Nat} {lg : Nat → Nat} {its : List Wd.It} {S : Ma} (h : PM w b ai ci lg its S) : w.cell? ⟨b, 0, none⟩ = some (.slice ai its.length ci) := h.root.cell 0 (by omega)
theorem PM.item {w : World} {b : Nat} {ai : Option Addr} {ci : Nat} {lg : Nat → Nat} {its : List Wd.It} {S : Ma} (h : PM w b ai ci lg its S) {i : Nat} (hi : i < its.length) : ∃ g, ai = some ⟨g, 0, none⟩ ∧ Blk w g (its.length * 6) (piF its lg S) ∧ g ≠ b := h.items (by omega)
theorem piF_at (its : List Wd.It) (lg : Nat → Nat) (S : Ma) (i : Nat) : piF its lg S (i * 6) = .bool (isH its i) ∧ piF its lg S (i * 6 + 1) = .bool (isH its i) ∧ piF its lg S (i * 6 + 2) = .string (Wd.mkS (bodyOf its i)) ∧ piF its lg S (i * 6 + 3) = .slice (some ⟨lg i, 0, none⟩) (bodyOf its i).length (bodyOf its i).length ∧ piF its lg S (i * 6 + 4) = .bool (S.rd i) ∧ piF its lg S (i * 6 + 5) = .int .i64 (S.pl i : Int) := by
  unfold piF
  refine ⟨?_, ?_, ?_, ?_, ?_, ?_⟩
  · rw [if_pos (by omega), show i * 6 / 6 = i by omega]
  · rw [if_neg (by omega), if_pos (by omega), show (i * 6 + 1) / 6 = i by omega]
  · rw [if_neg (by omega), if_neg (by omega), if_pos (by omega), show (i * 6 + 2) / 6 = i by omega]
  · rw [if_neg (by omega), if_neg (by omega), if_neg (by omega), if_pos (by omega), show (i * 6 + 3) / 6 = i by omega]
  · rw [if_neg (by omega), if_neg (by omega), if_neg (by omega), if_neg (by omega), if_pos (by omega), show (i * 6 + 4) / 6 = i by omega]
  · rw [if_neg (by omega), if_neg (by omega), if_neg (by omega), if_neg (by omega), if_neg (by omega), show (i * 6 + 5) / 6 = i by omega]
theorem Blk.setO {w : World} {g k n : Nat} {f : Nat → Value} (h : Blk w k n f) (hne : k ≠ g) (i : Nat) (v : Value) : Blk (w.setCell ⟨g, i, none⟩ v) k n f := h.same (heap_setCell_other _ _ _ _ hne)
theorem Blk.setsO {w : World} {g k n : Nat} {f : Nat → Value} (h : Blk w k n f) (hne : k ≠ g) (o : Nat) (vs : List Value) : Blk (w.setCells g o vs) k n f := h.same (heap_setCells_other g vs o w k hne)
/-- Of an item's cells one is written: whether it is ready. -/
theorem PM.setRd {w : World} {b g : Nat} {ai : Option Addr} {ci : Nat} {lg : Nat → Nat} {its : List Wd.It} {S : Ma} (h : PM w b ai ci lg its S) (hg : ai = some ⟨g, 0, none⟩) (i : Nat) (v : Bool) : PM (w.setCell ⟨g, i * 6 + 4, none⟩ (.bool v)) b ai ci lg its (setRd S i v) := by
  have hgb : g ≠ b := fun e => h.ab (by rw [hg, e])
  refine h.upd ((KP.refl b ai w).seti hg _ _) ?_ ?_
  · exact (h.root.setO (Ne.symm hgb) _ _)
  · intro g' hl hg'
    obtain ⟨g2, e1, e2, e3⟩ := h.items hl
    rw [hg] at hg' e1; cases hg'; cases e1
    refine (e2.set _ _).congr fun j hj => ?_
    by_cases e : j = i * 6 + 4
    · subst e; rw [if_pos rfl, (piF_at its lg _ i).2.2.2.2.1]; simp [Mc.setRd]
    · rw [if_neg e]
      unfold piF
      by_cases e4 : j % 6 = 4
      · have : j / 6 ≠ i := by omega
        simp [e4, Mc.setRd, this]
      · simp only [e4, if_false]; rfl
theorem PM.setPl {w : World} {b g : Nat} {ai : Option Addr} {ci : Nat} {lg : Nat → Nat} {its : List Wd.It} {S : Ma} (h : PM w b ai ci lg its S) (hg : ai = some ⟨g, 0, none⟩) (i p : Nat) : PM (w.setCell ⟨g, i * 6 + 5, none⟩ (.int .i64 (p : Int))) b ai ci lg its (setPl S i p) := by
  have hgb : g ≠ b := fun e => h.ab (by rw [hg, e])
  refine h.upd ((KP.refl b ai w).seti hg _ _) ?_ ?_
  · exact (h.root.setO (Ne.symm hgb) _ _)
  · intro g' hl hg'
    obtain ⟨g2, e1, e2, e3⟩ := h.items hl
    rw [hg] at hg' e1; cases hg'; cases e1
    refine (e2.set _ _).congr fun j hj => ?_
    by_cases e : j = i * 6 + 5
    · subst e; rw [if_pos rfl, (piF_at its lg _ i).2.2.2.2.2]; simp [Mc.setPl]
    · rw [if_neg e]
      unfold piF
      by_cases e4 : j % 6 = 5
      · have : j / 6 ≠ i := by omega
        simp [e4, Mc.setPl, this]
      · have h6 : j % 6 < 6 := Nat.mod_lt _ (by omega)
        by_cases c0 : j % 6 = 0
        · simp only [c0, if_true]
        by_cases c1 : j % 6 = 1
        · simp only [c1, if_true, if_false]
        by_cases c2 : j % 6 = 2
        · simp only [c2, if_true, if_false]
        by_cases c3 : j % 6 = 3
        · simp only [c3, if_true, if_false]
        have c5 : j % 6 = 4 := by omega
        simp only [c5, if_true, if_false]; rfl
set_option maxHeartbeats 8000000
set_option maxRecDepth 100000 in
theorem makeReady_any (w : World) (b : Nat) (ai : Option Addr) (ci : Nat) (lg : Nat → Nat) (its : List Wd.It) (S : Ma) (n p : Nat) (h : PM w b ai ci lg its S) (hn : n < its.length) (hp : p ≤ 20000) :
    Calls Try.prog 99 #[.pointer (some ⟨b, 0, none⟩), .int .i64 n, .int .i64 p] w fun e w' => e = .returned (.tuple #[]) ∧ PM w' b ai ci lg its (setPl (setRd S n true) n p) ∧ KP b ai w w' := by
  have CA := h.caps
  unfold maxLen at CA
  obtain ⟨g, hg, hbk, hgb⟩ := h.item hn
  have r0 := h.slot
  have q4 : w.cell? ⟨g, n * 6 + 4, none⟩ = some (.bool (S.rd n)) := by rw [hbk.cell _ (by omega), (piF_at its lg S n).2.2.2.2.1]
  have f4 : w.frozen? ⟨g, n * 6 + 4, none⟩ = false := hbk.frozen _
  have q5 : w.cell? ⟨g, n * 6 + 5, none⟩ = some (.int .i64 (S.pl n : Int)) := by rw [hbk.cell _ (by omega), (piF_at its lg S n).2.2.2.2.2]
  have f5 : w.frozen? ⟨g, n * 6 + 5, none⟩ = false := hbk.frozen _
  have HP1 := hide (h.setRd hg n true)
  have HK1 := hide ((KP.refl b ai w).seti hg (n * 6 + 4) (.bool true))
  rw [hg] at r0
  have HG := hide hg
  clear hg h hbk
  go_enter Try.func99, Try.ntmps99
  go_wp2
  go_end0
  exact ⟨rfl, HP1.out.setPl HG.out n p, HK1.out.seti HG.out _ _⟩

/-- Who holds the lock l, if it is one. -/
def hold3 (S : Ma) (l : Int) : Option Nat := if 0 ≤ l then holder S 3 l.toNat else none
def holdF (S : Ma) (l : Int) (k : Nat) : Option Nat := if 0 ≤ l then holderFrom S l.toNat k (3 - k) else none
theorem holdF_end (S : Ma) (l : Int) (k : Nat) (h : ¬ k < 3) : holdF S l k = none := by
  unfold holdF
  rw [show 3 - k = 0 by omega]
  split <;> rfl
theorem hasB_holds (x : Nat) (l : Int) (hx : x < 64) (h0 : 0 ≤ l) : hasB x l = holds x l.toNat := by
  unfold hasB
  by_cases h6 : l < 6
  · simp [h0, h6]
  · have : x.testBit l.toNat = false := Nat.testBit_lt_two_pow (Nat.lt_of_lt_of_le hx (Nat.pow_le_pow_right (n := 2) (i := 6) (by omega) (by omega)))
    simp [h0, h6, holds, this]
theorem hasB_neg (x : Nat) (l : Int) (h : ¬ 0 ≤ l) : hasB x l = false := by simp [hasB, h]
theorem holdF_yes {S : Ma} {l : Int} {k : Nat} (hk : k < 3) (ht : (S.cp k).t.held < 64) (hh : (S.cp k).h.held < 64) (h : hasB (S.cp k).t.held l = true ∨ hasB (S.cp k).h.held l = true) : holdF S l k = some k := by
  have h0 : 0 ≤ l := by
    by_cases e : 0 ≤ l
    · exact e
    · rw [hasB_neg _ _ e, hasB_neg _ _ e] at h; simp at h
  rw [hasB_holds _ _ ht h0, hasB_holds _ _ hh h0] at h
  unfold holdF
  rw [if_pos h0, show 3 - k = (2 - k) + 1 by omega, holderFrom, if_pos (by unfold cpHolds; simpa using h)]
theorem holdF_no {S : Ma} {l : Int} {k : Nat} (hk : k < 3) (ht : (S.cp k).t.held < 64) (hh : (S.cp k).h.held < 64) (h1 : hasB (S.cp k).t.held l = false) (h2 : hasB (S.cp k).h.held l = false) : holdF S l k = holdF S l (k + 1) := by
  unfold holdF
  by_cases h0 : 0 ≤ l
  · rw [hasB_holds _ _ ht h0] at h1
    rw [hasB_holds _ _ hh h0] at h2
    rw [if_pos h0, if_pos h0, show 3 - k = (2 - k) + 1 by omega, holderFrom, if_neg (by unfold cpHolds; simp [h1, h2]), show 2 - k = 3 - (k + 1) by omega]
  · rw [if_neg h0, if_neg h0]
theorem heldRange {w : World} {b : Nat} {ai : Option Addr} {ci : Nat} {lg : Nat → Nat} {its : List Wd.It} {S : Ma} (h : PM w b ai ci lg its S) (c : Nat) (hc : c < 3) : w.rangeAt b (1 + c * 26 + 5 + 1) [.bool ((S.cp c).t.held.testBit 0), .bool ((S.cp c).t.held.testBit 1), .bool ((S.cp c).t.held.testBit 2), .bool ((S.cp c).t.held.testBit 3), .bool ((S.cp c).t.held.testBit 4), .bool ((S.cp c).t.held.testBit 5)] ∧ w.rangeAt b (1 + c * 26 + 13 + 5 + 1) [.bool ((S.cp c).h.held.testBit 0), .bool ((S.cp c).h.held.testBit 1), .bool ((S.cp c).h.held.testBit 2), .bool ((S.cp c).h.held.testBit 3), .bool ((S.cp c).h.held.testBit 4), .bool ((S.cp c).h.held.testBit 5)] := by
  constructor
  · intro j v hj
    have hl : j < 6 := (List.getElem?_eq_some_iff.1 hj).1
    have := h.cpAt c (6 + j) hc (by omega)
    rw [show 1 + c * 26 + 5 + 1 + j = 1 + c * 26 + (6 + j) by omega, this, ← hj]
    rcases j with _ | _ | _ | _ | _ | _ | j <;> first | rfl | omega
  · intro j v hj
    have hl : j < 6 := (List.getElem?_eq_some_iff.1 hj).1
    have := h.cpAt c (19 + j) hc (by omega)
    rw [show 1 + c * 26 + 13 + 5 + 1 + j = 1 + c * 26 + (19 + j) by omega, this, ← hj]
    rcases j with _ | _ | _ | _ | _ | _ | j <;> first | rfl | omega
set_option maxRecDepth 100000 in
theorem pholder_any (w : World) (b : Nat) (ai : Option Addr) (ci : Nat) (lg : Nat → Nat) (its : List Wd.It) (S : Ma) (l : Int) (h : PM w b ai ci lg its S) (hi : Inv its 3 S) (h0 : -1 ≤ l) (h1 : l ≤ 100) :
    Calls Try.prog 108 #[.pointer (some ⟨b, 0, none⟩), .int .i64 l] w fun e w' => e = .returned (.int .i64 (toI (hold3 S l))) ∧ Below w.heap.size w w' := by
  have HM := hide h
  have HI := hide hi
  clear h hi
  obtain ⟨ud, hu, hdd⟩ := Try.uHeldR
  have HU := hide hu
  have HD := hide hdd
  clear hu hdd
  go_enter Try.func108, Try.ntmps108
  go_wp2
  go_loopw [5] (fun a wr => ∃ k : Nat, k ≤ 3 ∧ a = .int .i64 k ∧ hold3 S l = holdF S l k ∧ Below w.heap.size w wr) (fun a _ => 3 - (intOf a).toNat)
  case atStart => exact ⟨0, by omega, rfl, rfl, Below.refl _ _⟩
  case round =>
    obtain ⟨k, hk, rfl, hp, hbe⟩ := hrel
    have HP := hide hp
    have HB0 := hide hbe
    have HM0 := hide (HM.out.below hbe)
    clear hp hbe
    by_cases hlt : k < 3
    · have ht := (HI.out.t k hlt).held
      have hh := (HI.out.h k hlt).held
      have A1 := hide (fun W => has_any (S.cp k).t.held l W (by omega) (by omega))
      have A2 := hide (fun W => has_any (S.cp k).h.held l W (by omega) (by omega))
      have Y := hide (fun h => holdF_yes (l := l) hlt ht hh h)
      have N := hide (fun h1 h2 => holdF_no (l := l) hlt ht hh h1 h2)
      have R := hide (fun W (hW : PM W b ai ci lg its S) => heldRange hW k hlt)
      clear ht hh
      generalize hasB (S.cp k).t.held l = x1 at *
      generalize hasB (S.cp k).h.held l = x2 at *
      generalize (S.cp k).t.held.testBit 0 = t0 at *
      generalize (S.cp k).t.held.testBit 1 = t1 at *
      generalize (S.cp k).t.held.testBit 2 = t2 at *
      generalize (S.cp k).t.held.testBit 3 = t3 at *
      generalize (S.cp k).t.held.testBit 4 = t4 at *
      generalize (S.cp k).t.held.testBit 5 = t5 at *
      generalize (S.cp k).h.held.testBit 0 = u0 at *
      generalize (S.cp k).h.held.testBit 1 = u1 at *
      generalize (S.cp k).h.held.testBit 2 = u2 at *
      generalize (S.cp k).h.held.testBit 3 = u3 at *
      generalize (S.cp k).h.held.testBit 4 = u4 at *
      generalize (S.cp k).h.held.testBit 5 = u5 at *
      cases x1 <;> cases x2
      all_goals (
        go_wp2_with (first | (refine wpList_load_mid rfl 98 _ rfl _ _ rfl [.bool u0, .bool u1, .bool u2, .bool u3, .bool u4, .bool u5] ud ?_ HU.out HD.out Try.iHeld ?_; (exact (R.out _ HM1.out).2)) | (have := HM1.out; go_at_call 76; refine (A2.out _).mono ?_; rintro e w2 ⟨rfl, hb2⟩; have HM2 := hide (HM1.out.below hb2); have HB2 := hide (below_go HB1.out hb2); clear hb2) | (refine wpList_load_mid rfl 98 _ rfl _ _ rfl [.bool t0, .bool t1, .bool t2, .bool t3, .bool t4, .bool t5] ud ?_ HU.out HD.out Try.iHeld ?_; (exact (R.out _ HM0.out).1)) | (go_at_call 76; refine (A1.out _).mono ?_; rintro e w1 ⟨rfl, hb1⟩; have HM1 := hide (HM0.out.below hb1); have HB1 := hide (below_go HB0.out hb1); clear hb1))
        )
      · go_round
        case rel => exact ⟨k + 1, by omega, by go_num, HP.out.trans (N.out (by first | rfl | trivial) (by first | rfl | trivial)), HB2.out⟩
        case measure => simp [intOf]; omega
      all_goals (
        go_ret
        exact ⟨ret_int (by rw [HP.out, Y.out (by simp)]; rfl), HB2.out⟩)
    · go_wp2
      go_ret
      exact ⟨ret_int (by rw [HP.out, holdF_end S l k hlt]; rfl), HB0.out⟩
end Go.Proofs.Ytecmfdkhcffpmab
