/- ProgN. -/
import Derived.Test.YtecmfdkhcffpmabB26
import Derived.Test.YtecmfdkhcffpmabB30
/- Contracts of the program's machine: a handler comes. -/
namespace Go.Proofs.Ytecmfdkhcffpmab
open Go.RowKit
set_option linter.unusedSimpArgs false
set_option linter.unusedVariables false
set_option maxHeartbeats 8000000
open Mc

theorem Try.iProc : (Try.prog.info? 104).map (·.size) = some 26 := by kernel_rfl
theorem Try.uProcR : ∃ d, Try.prog.underlying 104 = some d ∧ d.isRow = true := ⟨_, Try.underlying104, rfl⟩
/-- A processor, as it lies in memory. -/
def pcV (its : List Wd.It) (lg : Nat → Nat) (x : Cp) : List Value := fpV its lg x.t x.off ++ fpV its lg x.h x.h.there
theorem pcV_one (its : List Wd.It) (lg : Nat → Nat) (x : Cp) : (pcV its lg x).toArray.all (·.oneCell') = true := by simp [pcV, fpV, Value.oneCell']
theorem Try.iProcV (its : List Wd.It) (lg : Nat → Nat) (x : Cp) : (Try.prog.info? 104).map (·.size) = some (pcV its lg x).length := Try.iProc
theorem Try.iProcA (its : List Wd.It) (lg : Nat → Nat) (x : Cp) : (Try.prog.info? 104).map (·.size) = some (pcV its lg x).toArray.size := Try.iProc
theorem rangeC {w : World} {b : Nat} {ai : Option Addr} {ci : Nat} {lg : Nat → Nat} {its : List Wd.It} {S : Ma} (h : PM w b ai ci lg its S) (c : Nat) (hc : c < 3) : w.rangeAt b (1 + c * 26) (pcV its lg (S.cp c)) := by
  intro j v hj
  by_cases hl : j < 13
  · rw [pcV, List.getElem?_append_left (by simpa [fpV] using hl)] at hj
    exact rangeT h c hc j v hj
  · rw [pcV, List.getElem?_append_right (by simp [fpV]; omega)] at hj
    have := rangeH h c hc (j - 13) v hj
    rwa [show 1 + c * 26 + 13 + (j - 13) = 1 + c * 26 + j by omega] at this
theorem pcV_cells {w : World} {g : Nat} {t : TypeId} {its : List Wd.It} {lg : Nat → Nat} {x : Cp} (h : Row w g (pcV its lg x).toArray t) : w.cell? ⟨g, 0, none⟩ = some (.bool x.t.there) ∧ w.cell? ⟨g, 1, none⟩ = some (.int .i64 (x.t.item : Int)) ∧ w.cell? ⟨g, 5, none⟩ = some (.int .i64 (x.t.pos : Int)) ∧ w.cell? ⟨g, 12, none⟩ = some (.bool x.off) ∧ w.cell? ⟨g, 13, none⟩ = some (.bool x.h.there) := ⟨h.cell 0 rfl, h.cell 1 rfl, h.cell 5 rfl, h.cell 12 rfl, h.cell 13 rfl⟩
theorem itemCode {w : World} {b : Nat} {ai : Option Addr} {ci : Nat} {lg : Nat → Nat} {its : List Wd.It} {S : Ma} (h : PM w b ai ci lg its S) {n : Nat} (hn : n < its.length) : ∃ g, ai = some ⟨g, 0, none⟩ ∧ g ≠ b ∧ w.cell? ⟨g, n * 6, none⟩ = some (.bool (isH its n)) ∧ w.rangeAt g (n * 6 + 1) [.bool (isH its n), .string (Wd.mkS (bodyOf its n)), .slice (some ⟨lg n, 0, none⟩) (bodyOf its n).length (bodyOf its n).length] := by
  obtain ⟨g, e1, e2, e3⟩ := h.item hn
  have hp := piF_at its lg S n
  refine ⟨g, e1, e3, by rw [e2.cell _ (by omega), hp.1], fun j v hj => ?_⟩
  have hl : j < 3 := (List.getElem?_eq_some_iff.1 hj).1
  rw [e2.cell _ (by omega), ← hj]
  rcases j with _ | _ | _ | j
  · rw [Nat.add_zero, hp.2.1]; rfl
  · rw [Nat.add_assoc, hp.2.2.1]; rfl
  · rw [Nat.add_assoc, hp.2.2.2.1]; rfl
  · omega
/-- A frame of a handler is laid. -/
theorem PM.setH {w : World} {b : Nat} {ai : Option Addr} {ci : Nat} {lg : Nat → Nat} {its : List Wd.It} {S : Ma} (h : PM w b ai ci lg its S) (c : Nat) (hc : c < 3) (f : Fr) : PM (w.setCells b (1 + c * 26 + 13) (fpV its lg f f.there)) b ai ci lg its (setCp S c { (S.cp c) with h := f }) := by
  refine h.upd ((KP.refl b ai w).sets _ _) ?_ ?_
  · refine (Blk.sets _ _ _ _ h.root).congr fun i hi => ?_
    unfold pmF
    by_cases i0 : i = 0
    · subst i0
      rw [if_neg (by omega)]; simp
    · rw [if_neg i0, if_neg i0]
      obtain ⟨m, hm⟩ : ∃ m, (i - 1) % 26 = m := ⟨_, rfl⟩
      have hm26 : m < 26 := by rw [← hm]; exact Nat.mod_lt _ (by omega)
      rw [hm]
      unfold pcF setCp
      by_cases e : (i - 1) / 26 = c
      · have hi : i = 1 + c * 26 + m := by omega
        simp only [e, if_true]
        by_cases hm13 : m < 13
        · rw [if_pos hm13, if_neg (by omega), if_pos hm13]
        · rw [if_neg hm13, if_pos (by omega), if_neg hm13, hi, show 1 + c * 26 + m - (1 + c * 26 + 13) = m - 13 by omega, fpV_get _ _ _ _ _ (by omega)]; rfl
      · simp only [if_neg e]
        by_cases hle : 1 + c * 26 + 13 ≤ i
        · rw [if_pos hle, List.getElem?_eq_none (by simp [fpV]; omega)]; rfl
        · rw [if_neg hle]
  · intro g hl hg
    obtain ⟨g', e1, e2, e3⟩ := h.items hl
    rw [hg] at e1; cases e1
    exact (e2.setsO e3 _ _).congr fun i hi => rfl
/-- A frame of a thread is laid. -/
theorem PM.setT {w : World} {b : Nat} {ai : Option Addr} {ci : Nat} {lg : Nat → Nat} {its : List Wd.It} {S : Ma} (h : PM w b ai ci lg its S) (c : Nat) (hc : c < 3) (f : Fr) (o : Bool) : PM (w.setCells b (1 + c * 26) (fpV its lg f o)) b ai ci lg its (setCp S c { (S.cp c) with t := f, off := o }) := by
  refine h.upd ((KP.refl b ai w).sets _ _) ?_ ?_
  · refine (Blk.sets _ _ _ _ h.root).congr fun i hi => ?_
    unfold pmF
    by_cases i0 : i = 0
    · subst i0
      rw [if_neg (by omega)]; simp
    · rw [if_neg i0, if_neg i0]
      obtain ⟨m, hm⟩ : ∃ m, (i - 1) % 26 = m := ⟨_, rfl⟩
      have hm26 : m < 26 := by rw [← hm]; exact Nat.mod_lt _ (by omega)
      rw [hm]
      unfold pcF setCp
      by_cases e : (i - 1) / 26 = c
      · have hi : i = 1 + c * 26 + m := by omega
        simp only [e, if_true]
        by_cases hm13 : m < 13
        · rw [if_pos hm13, if_pos (by omega), if_pos hm13, hi, Nat.add_sub_cancel_left, fpV_get _ _ _ _ _ hm13]; rfl
        · rw [if_neg hm13, if_pos (by omega), if_neg hm13, hi, List.getElem?_eq_none (by simp [fpV]; omega)]; rfl
      · simp only [if_neg e]
        by_cases hle : 1 + c * 26 ≤ i
        · rw [if_pos hle, List.getElem?_eq_none (by simp [fpV]; omega)]; rfl
        · rw [if_neg hle]
  · intro g hl hg
    obtain ⟨g', e1, e2, e3⟩ := h.items hl
    rw [hg] at e1; cases e1
    exact (e2.setsO e3 _ _).congr fun i hi => rfl
set_option maxRecDepth 100000 in
theorem interrupt_no (w : World) (b : Nat) (ai : Option Addr) (ci : Nat) (lg : Nat → Nat) (its : List Wd.It) (S : Ma) (c n : Nat) (h : PM w b ai ci lg its S) (hc : c < 3) (hn : n < its.length) (hh : (S.cp c).h.there = true ∨ (S.cp c).off = true) :
    Calls Try.prog 102 #[.pointer (some ⟨b, 0, none⟩), .int .i64 c, .int .i64 n] w fun e w' => e = .returned (.int .u8 95) ∧ PM w' b ai ci lg its S ∧ KP b ai w w' := by
  have HM := hide h
  have HRC := hide (rangeC h c hc)
  obtain ⟨up, hup, hdp⟩ := Try.uProcR
  have HUP := hide hup
  have HDP := hide hdp
  clear hup hdp
  clear h
  cases h1 : (S.cp c).h.there <;> cases h2 : (S.cp c).off
  · simp [h1, h2] at hh
  all_goals (
    have HH := hide (And.intro h1 h2)
    clear h1 h2 hh
    go_enter Try.func102, Try.ntmps102
    go_wp2_with (first | (refine wpList_store_row rfl 104 _ _ rfl w.heap.size (pcV its lg (S.cp c)).toArray rfl rfl 104 #[.bool false, .int .i64 0, .bool false, .string ⟨#[]⟩, .slice none 0 0, .int .i64 0, .bool false, .bool false, .bool false, .bool false, .bool false, .bool false, .bool false, .bool false, .int .i64 0, .bool false, .string ⟨#[]⟩, .slice none 0 0, .int .i64 0, .bool false, .bool false, .bool false, .bool false, .bool false, .bool false, .bool false] ?_ (Try.iProcA _ _ _) rfl (pcV_one _ _ _) ?_; (exact (Row.new w #[.bool false, .int .i64 0, .bool false, .string ⟨#[]⟩, .slice none 0 0, .int .i64 0, .bool false, .bool false, .bool false, .bool false, .bool false, .bool false, .bool false, .bool false, .int .i64 0, .bool false, .string ⟨#[]⟩, .slice none 0 0, .int .i64 0, .bool false, .bool false, .bool false, .bool false, .bool false, .bool false, .bool false] 104).raw); rw [World.setRow_alloc_new]; have HR1 := hide (Row.new w (pcV its lg (S.cp c)).toArray 104); have HB1 := hide (below_one w (.cells (pcV its lg (S.cp c)).toArray 104)); generalize w.alloc (.cells (pcV its lg (S.cp c)).toArray 104) = w1 at *; have q1 := pcV_cells HR1.out; rw [HH.out.1, HH.out.2] at q1; have q10 := q1.1; have q11 := q1.2.1; have q15 := q1.2.2.1; have q112 := q1.2.2.2.1; have q113 := q1.2.2.2.2; clear q1) | (refine wpList_load_mid rfl 104 _ rfl _ _ rfl (pcV its lg (S.cp c)) up ?_ HUP.out HDP.out (Try.iProcV _ _ _) ?_; (exact HRC.out)))
    go_ret
    exact ⟨rfl, HM.out.below HB1.out, KP.of HB1.out⟩)
set_option maxRecDepth 100000 in
theorem interrupt_yes (w : World) (b : Nat) (ai : Option Addr) (ci : Nat) (lg : Nat → Nat) (its : List Wd.It) (S : Ma) (c n : Nat) (h : PM w b ai ci lg its S) (hc : c < 3) (hn : n < its.length) (hk : isH its n = true) (h1 : (S.cp c).h.there = false) (h2 : (S.cp c).off = false) :
    Calls Try.prog 102 #[.pointer (some ⟨b, 0, none⟩), .int .i64 c, .int .i64 n] w fun e w' => e = .returned (.int .u8 104) ∧ PM w' b ai ci lg its (setCp S c { (S.cp c) with h := ⟨true, n, 0, 0⟩ }) ∧ KP b ai w w' := by
  have CA := h.caps
  unfold maxLen at CA
  have HM := hide h
  have HRC := hide (rangeC h c hc)
  obtain ⟨g, hg, hgb, _, hic⟩ := itemCode h hn
  rw [hk] at hic
  have hgl : g < w.heap.size := h.pb.ai (by omega) g hg
  have hbl : b < w.heap.size := h.pb.b
  have r0 : w.cell? ⟨b, 0, none⟩ = some (.slice (some ⟨g, 0, none⟩) its.length ci) := by rw [← hg]; exact h.slot
  have HIC : Hid (∀ W, Below w.heap.size w W → W.rangeAt g (n * 6 + 1) [.bool true, .string (Wd.mkS (bodyOf its n)), .slice (some ⟨lg n, 0, none⟩) (bodyOf its n).length (bodyOf its n).length]) := hide fun W hW j v hj => (hW.cell (p := ⟨g, n * 6 + 1 + j, none⟩) hgl).trans (hic j v hj)
  have ABE := hide (fun W => codeBeginX true (Wd.mkS (bodyOf its n)) (some ⟨lg n, 0, none⟩) (bodyOf its n).length (bodyOf its n).length W)
  have HH := hide (And.intro h1 h2)
  have hci0 : (0 : Int) ≤ (c : Int) := by omega
  have hci3 : (c : Int) < 3 := by omega
  have hm : n < its.length := hn
  obtain ⟨ud, hu, hdd⟩ := Try.uCodeR
  have HU := hide hu
  have HD := hide hdd
  clear hu hdd
  obtain ⟨up, hup, hdp⟩ := Try.uProcR
  have HUP := hide hup
  have HDP := hide hdp
  clear hup hdp
  have HVAL : Hid (fpV its lg ⟨true, n, 0, 0⟩ true = [.bool true, .int .i64 n, .bool true, .string (Wd.mkS (bodyOf its n)), .slice (some ⟨lg n, 0, none⟩) (bodyOf its n).length (bodyOf its n).length, .int .i64 0, .bool false, .bool false, .bool false, .bool false, .bool false, .bool false, .bool true]) := by apply hide; simp [fpV, fb, fl, hk]
  clear h h1 h2 hic hg hk
  go_enter Try.func102, Try.ntmps102
  go_wp2_with (first | (refine wpList_store_row rfl 97 _ _ rfl w1.heap.size #[.bool true, .string (Wd.mkS (bodyOf its n)), .slice (some ⟨lg n, 0, none⟩) (bodyOf its n).length (bodyOf its n).length] rfl rfl 97 #[.bool false, .string ⟨#[]⟩, .slice none 0 0] ?_ Try.iCode rfl (by simp [Value.oneCell']) ?_; (exact (Row.new w1 #[.bool false, .string ⟨#[]⟩, .slice none 0 0] 97).raw); rw [World.setRow_alloc_new]; have HR2 := hide (Row.new w1 #[.bool true, .string (Wd.mkS (bodyOf its n)), .slice (some ⟨lg n, 0, none⟩) (bodyOf its n).length (bodyOf its n).length] 97); have HB2 := hide (below_new HB1.out (.cells #[.bool true, .string (Wd.mkS (bodyOf its n)), .slice (some ⟨lg n, 0, none⟩) (bodyOf its n).length (bodyOf its n).length] 97)); have hg1 : w.heap.size ≤ w1.heap.size := HB1.out.size; generalize w1.alloc (.cells #[.bool true, .string (Wd.mkS (bodyOf its n)), .slice (some ⟨lg n, 0, none⟩) (bodyOf its n).length (bodyOf its n).length] 97) = w2 at *; skip) | (refine wpList_load_mid rfl 97 _ rfl _ _ rfl [.bool true, .string (Wd.mkS (bodyOf its n)), .slice (some ⟨lg n, 0, none⟩) (bodyOf its n).length (bodyOf its n).length] ud ?_ HU.out HD.out Try.iCode ?_; (exact HIC.out _ HB1.out)) | (refine wpList_store_row rfl 104 _ _ rfl w.heap.size (pcV its lg (S.cp c)).toArray rfl rfl 104 #[.bool false, .int .i64 0, .bool false, .string ⟨#[]⟩, .slice none 0 0, .int .i64 0, .bool false, .bool false, .bool false, .bool false, .bool false, .bool false, .bool false, .bool false, .int .i64 0, .bool false, .string ⟨#[]⟩, .slice none 0 0, .int .i64 0, .bool false, .bool false, .bool false, .bool false, .bool false, .bool false, .bool false] ?_ (Try.iProcA _ _ _) rfl (pcV_one _ _ _) ?_; (exact (Row.new w #[.bool false, .int .i64 0, .bool false, .string ⟨#[]⟩, .slice none 0 0, .int .i64 0, .bool false, .bool false, .bool false, .bool false, .bool false, .bool false, .bool false, .bool false, .int .i64 0, .bool false, .string ⟨#[]⟩, .slice none 0 0, .int .i64 0, .bool false, .bool false, .bool false, .bool false, .bool false, .bool false, .bool false] 104).raw); rw [World.setRow_alloc_new]; have HR1 := hide (Row.new w (pcV its lg (S.cp c)).toArray 104); have HB1 := hide (below_one w (.cells (pcV its lg (S.cp c)).toArray 104)); generalize w.alloc (.cells (pcV its lg (S.cp c)).toArray 104) = w1 at *; have q1 := pcV_cells HR1.out; rw [HH.out.1, HH.out.2] at q1; have q10 := q1.1; have q11 := q1.2.1; have q15 := q1.2.2.1; have q112 := q1.2.2.2.1; have q113 := q1.2.2.2.2; clear q1; have r1 : w1.cell? ⟨b, 0, none⟩ = some (.slice (some ⟨g, 0, none⟩) its.length ci) := (HB1.out.cell (p := ⟨b, 0, none⟩) hbl).trans r0) | (refine wpList_load_mid rfl 104 _ rfl _ _ rfl (pcV its lg (S.cp c)) up ?_ HUP.out HDP.out (Try.iProcV _ _ _) ?_; (exact HRC.out)))
  clear q10 q11 q15 q112 q113 r0 r1
  have hne : w1.heap.size ≠ b := by omega
  have y0 : w2.cell? ⟨w1.heap.size, 0, none⟩ = some (.bool true) := HR2.out.cell 0 rfl
  have y1 : w2.cell? ⟨w1.heap.size, 1, none⟩ = some (.string (Wd.mkS (bodyOf its n))) := HR2.out.cell 1 rfl
  have y2 : w2.cell? ⟨w1.heap.size, 2, none⟩ = some (.slice (some ⟨lg n, 0, none⟩) (bodyOf its n).length (bodyOf its n).length) := HR2.out.cell 2 rfl
  go_region_held3 (fun W' => W'.cell? ⟨w1.heap.size, 0, none⟩ = some (.bool true) ∧ W'.cell? ⟨w1.heap.size, 1, none⟩ = some (.string (Wd.mkS (bodyOf its n))) ∧ W'.cell? ⟨w1.heap.size, 2, none⟩ = some (.slice (some ⟨lg n, 0, none⟩) (bodyOf its n).length (bodyOf its n).length)) (first | go_keep | (refine ⟨?_, ?_, ?_⟩ <;> (repeat rw [cellO hne]) <;> assumption)) (first | (go_at_call 88; refine (ABE.out _).mono ?_; rintro e w3 ⟨rfl, hb3⟩; have HR3 := hide (HR2.out.below (below_go ((Below.refl _ _).drew) hb3)); have HM3 := hide (HM.out.below (below_go HB2.out (below_go ((Below.refl _ _).drew) hb3))); have x0 : w3.cell? ⟨w1.heap.size, 0, none⟩ = some (.bool true) := HR3.out.cell 0 rfl; have x1 : w3.cell? ⟨w1.heap.size, 1, none⟩ = some (.string (Wd.mkS (bodyOf its n))) := HR3.out.cell 1 rfl; have x2 : w3.cell? ⟨w1.heap.size, 2, none⟩ = some (.slice (some ⟨lg n, 0, none⟩) (bodyOf its n).length (bodyOf its n).length) := HR3.out.cell 2 rfl; obtain ⟨c0, d0⟩ : ∃ v, w3.cell? ⟨b, 1 + c * 26 + 13, none⟩ = some v := ⟨_, HM3.out.root.cell (1 + c * 26 + 13) (by omega)⟩; have e0 : w3.frozen? ⟨b, 1 + c * 26 + 13, none⟩ = false := HM3.out.root.frozen _; obtain ⟨c1, d1⟩ : ∃ v, w3.cell? ⟨b, 1 + c * 26 + 13 + 1, none⟩ = some v := ⟨_, HM3.out.root.cell (1 + c * 26 + 13 + 1) (by omega)⟩; have e1 : w3.frozen? ⟨b, 1 + c * 26 + 13 + 1, none⟩ = false := HM3.out.root.frozen _; obtain ⟨c2, d2⟩ : ∃ v, w3.cell? ⟨b, 1 + c * 26 + 13 + 2, none⟩ = some v := ⟨_, HM3.out.root.cell (1 + c * 26 + 13 + 2) (by omega)⟩; have e2 : w3.frozen? ⟨b, 1 + c * 26 + 13 + 2, none⟩ = false := HM3.out.root.frozen _; obtain ⟨c3, d3⟩ : ∃ v, w3.cell? ⟨b, 1 + c * 26 + 13 + 3, none⟩ = some v := ⟨_, HM3.out.root.cell (1 + c * 26 + 13 + 3) (by omega)⟩; have e3 : w3.frozen? ⟨b, 1 + c * 26 + 13 + 3, none⟩ = false := HM3.out.root.frozen _; obtain ⟨c4, d4⟩ : ∃ v, w3.cell? ⟨b, 1 + c * 26 + 13 + 4, none⟩ = some v := ⟨_, HM3.out.root.cell (1 + c * 26 + 13 + 4) (by omega)⟩; have e4 : w3.frozen? ⟨b, 1 + c * 26 + 13 + 4, none⟩ = false := HM3.out.root.frozen _; obtain ⟨c5, d5⟩ : ∃ v, w3.cell? ⟨b, 1 + c * 26 + 13 + 5, none⟩ = some v := ⟨_, HM3.out.root.cell (1 + c * 26 + 13 + 5) (by omega)⟩; have e5 : w3.frozen? ⟨b, 1 + c * 26 + 13 + 5, none⟩ = false := HM3.out.root.frozen _; obtain ⟨c6, d6⟩ : ∃ v, w3.cell? ⟨b, 1 + c * 26 + 13 + 6, none⟩ = some v := ⟨_, HM3.out.root.cell (1 + c * 26 + 13 + 6) (by omega)⟩; have e6 : w3.frozen? ⟨b, 1 + c * 26 + 13 + 6, none⟩ = false := HM3.out.root.frozen _; obtain ⟨c7, d7⟩ : ∃ v, w3.cell? ⟨b, 1 + c * 26 + 13 + 7, none⟩ = some v := ⟨_, HM3.out.root.cell (1 + c * 26 + 13 + 7) (by omega)⟩; have e7 : w3.frozen? ⟨b, 1 + c * 26 + 13 + 7, none⟩ = false := HM3.out.root.frozen _; obtain ⟨c8, d8⟩ : ∃ v, w3.cell? ⟨b, 1 + c * 26 + 13 + 8, none⟩ = some v := ⟨_, HM3.out.root.cell (1 + c * 26 + 13 + 8) (by omega)⟩; have e8 : w3.frozen? ⟨b, 1 + c * 26 + 13 + 8, none⟩ = false := HM3.out.root.frozen _; obtain ⟨c9, d9⟩ : ∃ v, w3.cell? ⟨b, 1 + c * 26 + 13 + 9, none⟩ = some v := ⟨_, HM3.out.root.cell (1 + c * 26 + 13 + 9) (by omega)⟩; have e9 : w3.frozen? ⟨b, 1 + c * 26 + 13 + 9, none⟩ = false := HM3.out.root.frozen _; obtain ⟨c10, d10⟩ : ∃ v, w3.cell? ⟨b, 1 + c * 26 + 13 + 10, none⟩ = some v := ⟨_, HM3.out.root.cell (1 + c * 26 + 13 + 10) (by omega)⟩; have e10 : w3.frozen? ⟨b, 1 + c * 26 + 13 + 10, none⟩ = false := HM3.out.root.frozen _; obtain ⟨c11, d11⟩ : ∃ v, w3.cell? ⟨b, 1 + c * 26 + 13 + 11, none⟩ = some v := ⟨_, HM3.out.root.cell (1 + c * 26 + 13 + 11) (by omega)⟩; have e11 : w3.frozen? ⟨b, 1 + c * 26 + 13 + 11, none⟩ = false := HM3.out.root.frozen _; obtain ⟨c12, d12⟩ : ∃ v, w3.cell? ⟨b, 1 + c * 26 + 13 + 12, none⟩ = some v := ⟨_, HM3.out.root.cell (1 + c * 26 + 13 + 12) (by omega)⟩; have e12 : w3.frozen? ⟨b, 1 + c * 26 + 13 + 12, none⟩ = false := HM3.out.root.frozen _))
  all_goals (
    have HM4 : Hid (PM (w3.setCells b (1 + c * 26 + 13) [.bool true, .int .i64 n, .bool true, .string (Wd.mkS (bodyOf its n)), .slice (some ⟨lg n, 0, none⟩) (bodyOf its n).length (bodyOf its n).length, .int .i64 0, .bool false, .bool false, .bool false, .bool false, .bool false, .bool false, .bool true]) b ai ci lg its (setCp S c { (S.cp c) with h := ⟨true, n, 0, 0⟩ })) := by
      apply hide
      have := HM3.out.setH c hc ⟨true, n, 0, 0⟩
      rwa [HVAL.out] at this
    have HK4 := hide ((KP.of (b := b) (ai := ai) (below_go HB2.out (below_go ((Below.refl _ _).drew) hb3))).sets (1 + c * 26 + 13) [.bool true, .int .i64 n, .bool true, .string (Wd.mkS (bodyOf its n)), .slice (some ⟨lg n, 0, none⟩) (bodyOf its n).length (bodyOf its n).length, .int .i64 0, .bool false, .bool false, .bool false, .bool false, .bool false, .bool false, .bool true])
    clear hb3 d0 e0 d1 e1 d2 e2 d3 e3 d4 e4 d5 e5 d6 e6 d7 e7 d8 e8 d9 e9 d10 e10 d11 e11 d12 e12 x0 x1 x2 y0 y1 y2
    go_wp2
    go_ret
    exact ⟨rfl, HM4.out, HK4.out⟩)
end Go.Proofs.Ytecmfdkhcffpmab
