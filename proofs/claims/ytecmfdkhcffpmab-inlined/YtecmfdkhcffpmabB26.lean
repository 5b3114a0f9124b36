/- ProgH, CodeX, ProgG. -/
import Derived.Test.YtecmfdkhcffpmabB25
import Derived.Test.YtecmfdkhcffpmabB18
import Derived.Test.YtecmfdkhcffpmabB12
/- Contracts of the program's steps: the beginning, the end, a step. -/
namespace Go.Proofs.Ytecmfdkhcffpmab
open Go.RowKit
set_option linter.unusedSimpArgs false
set_option linter.unusedVariables false
set_option maxHeartbeats 8000000
open Mc

theorem results_cell_tmp {P : Program} {fn : Func} {u p : Tmp} {ty : TypeId} (h : fn.results = #[.cell p ty, .tmp u]) (tmps : Array Value) (w : World) (g : Nat) (t : TypeId) (cs : Array Value) (fr : Nat × Nat) (d : TypeDesc)
    (hp : tmps.getD p undef = .pointer (some ⟨g, 0, none⟩)) (hg : w.heap[g]? = some (.cells cs t fr))
    (hu : P.underlying ty = some d) (hd : (match d with | .struct _ | .array _ _ => true | _ => false) = true) (hi : (P.info? ty).map (·.size) = some cs.size) (v : Value) (hv : tmps.getD u undef = v) :
    (results fn tmps).run P w = .ok (.tuple #[.agg cs, v]) w := by
  have hp' : tmps[p]?.getD undef = .pointer (some ⟨g, 0, none⟩) := by simpa using hp
  have hv' : tmps[u]?.getD undef = v := by simpa using hv
  simp [results, h, hp', hv', asAddr, run_loadVar_row w g t ty cs fr d hg hu hd hi]
theorem Try.iStA (p h : Nat) (off : Bool) : (Try.prog.info? 100).map (·.size) = some (stA p h off).size := Try.iState
theorem stA_at0 (p h : Nat) (off : Bool) : (stA p h off)[0]? = some (.int .i64 (p : Int)) := rfl

theorem codeEnd_any (hd : Bool) (s : ByteArray) (la : Option Addr) (ln lc : Nat) (w : World) (hs : s.size ≤ 10000) :
    Calls Try.prog 70 #[.agg #[.bool hd, .string s, .slice la ln lc]] w fun e w' => e = .returned (.int .i64 s.size) ∧ Below w.heap.size w w' := by
  go_enter Try.func70, Try.ntmps70
  go_wp2
  go_ret
  exact ⟨rfl, (Below.refl _ _).alloc (Nat.le_refl _) _⟩
set_option maxRecDepth 100000 in
theorem codeBegin_any (hd : Bool) (s : ByteArray) (la : Option Addr) (ln lc : Nat) (w : World) :
    Calls Try.prog 88 #[.agg #[.bool hd, .string s, .slice la ln lc]] w fun e w' => e = .returned (.agg (stA 0 0 hd)) ∧ Below w.heap.size w w' := by
  go_enter Try.func88, Try.ntmps88
  go_wp2
  exact bodyPost_ret (v := .agg (stA 0 0 hd)) (results_cell_row Try.results88 _ _ (w.heap.size + 1) 100 (stA 0 0 hd) (0, 0) _ rfl (heap_alloc2_new _ _ _) Try.underlying100 rfl Try.iState) rfl ⟨rfl, ((Below.refl _ _).alloc (Nat.le_refl _) _).alloc (by simp) _⟩
set_option maxRecDepth 100000 in
theorem step_bad (hd : Bool) (s : ByteArray) (lg p h : Nat) (off comma : Bool) (w : World) (hs : s.size ≤ 10000) (hp : p ≤ 20000) (hh : h < 64) (hok : PairOK s.data.toList) (f : Int) (hf : faultP hd s.data.toList p h off = f) (hf0 : f ≠ 0) :
    Calls Try.prog 90 #[.agg #[.bool hd, .string s, .slice (some ⟨lg, 0, none⟩) s.size s.size], .agg (stA p h off), .bool comma] w fun e w' => e = .returned (.tuple #[.agg (stA p h off), .int .u8 f]) ∧ Below w.heap.size w w' := by
  have AF : Hid (∀ W, Calls Try.prog 91 #[.agg #[.bool hd, .string s, .slice (some ⟨lg, 0, none⟩) s.size s.size], .agg (stA p h off)] W fun e w' => e = .returned (.int .u8 (faultP hd s.data.toList p h off)) ∧ Below W.heap.size W w') := hide (fun W => fault_any hd s (some ⟨lg, 0, none⟩) s.size s.size p h off W hs hp hh hok)
  rw [hf] at AF
  have tf : (f != 0) = true := by simp [hf0]
  clear hf hf0 hok
  go_enter Try.func90, Try.ntmps90
  go_wp2_with (first | (refine wpList_load_row rfl 100 _ rfl _ rfl 100 (stA p h off) (0, 0) _ ?_ Try.underlying100 rfl (Try.iStA _ _ _) ?_; (exact (Row.three w #[.bool hd, .string s, .slice (some ⟨lg, 0, none⟩) s.size s.size] (stA p h off) #[.int .i64 0, .bool false, .bool false, .bool false, .bool false, .bool false, .bool false, .bool false] 97 100 100).2.1.raw)))
  have HC0 := hide (Row.three w #[.bool hd, .string s, .slice (some ⟨lg, 0, none⟩) s.size s.size] (stA p h off) #[.int .i64 0, .bool false, .bool false, .bool false, .bool false, .bool false, .bool false, .bool false] 97 100 100)
  have HB0 := hide (below_three w (.cells #[.bool hd, .string s, .slice (some ⟨lg, 0, none⟩) s.size s.size] 97) (.cells (stA p h off) 100) (.cells #[.int .i64 0, .bool false, .bool false, .bool false, .bool false, .bool false, .bool false, .bool false] 100))
  generalize ((w.alloc (.cells #[.bool hd, .string s, .slice (some ⟨lg, 0, none⟩) s.size s.size] 97)).alloc (.cells (stA p h off) 100)).alloc (.cells #[.int .i64 0, .bool false, .bool false, .bool false, .bool false, .bool false, .bool false, .bool false] 100) = W at *
  go_at_call 91
  refine (AF.out _).mono ?_
  rintro e w1 ⟨rfl, hbw1⟩
  have HC1 := hide (And.intro (HC0.out.1.below hbw1) (And.intro (HC0.out.2.1.below hbw1) (HC0.out.2.2.below hbw1))); have HB1 := hide (below_go HB0.out hbw1); clear hbw1
  clear AF
  go_wp2_with (first | (refine wpList_load_row rfl 100 _ rfl _ rfl 100 (stA p h off) (0, 0) _ ?_ Try.underlying100 rfl (Try.iStA _ _ _) ?_; (exact HC1.out.2.1.raw)) | (refine wpList_store_row rfl 100 _ _ rfl (w.heap.size + 2) (stA p h off) rfl rfl 100 #[.int .i64 0, .bool false, .bool false, .bool false, .bool false, .bool false, .bool false, .bool false] ?_ (Try.iStA _ _ _) rfl (stA_one _ _ _) ?_; (exact HC1.out.2.2.raw)))
  exact bodyPost_ret (v := .tuple #[.agg (stA p h off), .int .u8 f]) (results_cell_tmp Try.results90 _ _ (w.heap.size + 2) 100 (stA p h off) (0, 0) _ rfl (HC1.out.2.2.setRow _).raw Try.underlying100 rfl (Try.iStA _ _ _) _ rfl) rfl ⟨rfl, below_setRow HB1.out (by omega) _⟩
set_option maxRecDepth 100000 in
theorem step_good (hd : Bool) (s : ByteArray) (lg p h : Nat) (off comma : Bool) (w : World) (hs : s.size ≤ 10000) (hp : p ≤ 20000) (hh : h < 64) (hok : PairOK s.data.toList) (hk : Stands (atB s.data.toList p)) (hL : Blk w lg s.size (fun i => .int .i64 ((leads s.data.toList i : Nat) : Int))) (hfa : faultP hd s.data.toList p h off = 0) (n : Nat × Nat × Bool) (hn : nextP s.data.toList p h off comma = n) (ch : Int) (hch : atB s.data.toList p = ch) :
    Calls Try.prog 90 #[.agg #[.bool hd, .string s, .slice (some ⟨lg, 0, none⟩) s.size s.size], .agg (stA p h off), .bool comma] w fun e w' => e = .returned (.tuple #[.agg (stA n.1 n.2.1 n.2.2), .int .u8 ch]) ∧ Below w.heap.size w w' := by
  have AF : Hid (∀ W, Calls Try.prog 91 #[.agg #[.bool hd, .string s, .slice (some ⟨lg, 0, none⟩) s.size s.size], .agg (stA p h off)] W fun e w' => e = .returned (.int .u8 (faultP hd s.data.toList p h off)) ∧ Below W.heap.size W w') := hide (fun W => fault_any hd s (some ⟨lg, 0, none⟩) s.size s.size p h off W hs hp hh hok)
  have A4 := hide (fun W => codeAt_any hd s (some ⟨lg, 0, none⟩) s.size s.size p W hs hp)
  have AN := hide (fun W (hLW : Blk W lg s.size (fun i => .int .i64 ((leads s.data.toList i : Nat) : Int))) => next_any hd s lg p h off comma W hs hp hh hok hk hLW hfa)
  rw [hn] at AN
  rw [hch] at A4
  rw [hfa] at AF
  have HL := hide hL
  clear hfa hk hok hn hch hL
  go_enter Try.func90, Try.ntmps90
  go_wp2_with (first | (refine wpList_load_row rfl 100 _ rfl _ rfl 100 (stA p h off) (0, 0) _ ?_ Try.underlying100 rfl (Try.iStA _ _ _) ?_; (exact (Row.three w #[.bool hd, .string s, .slice (some ⟨lg, 0, none⟩) s.size s.size] (stA p h off) #[.int .i64 0, .bool false, .bool false, .bool false, .bool false, .bool false, .bool false, .bool false] 97 100 100).2.1.raw)))
  have HC0 := hide (Row.three w #[.bool hd, .string s, .slice (some ⟨lg, 0, none⟩) s.size s.size] (stA p h off) #[.int .i64 0, .bool false, .bool false, .bool false, .bool false, .bool false, .bool false, .bool false] 97 100 100)
  have HB0 := hide (below_three w (.cells #[.bool hd, .string s, .slice (some ⟨lg, 0, none⟩) s.size s.size] 97) (.cells (stA p h off) 100) (.cells #[.int .i64 0, .bool false, .bool false, .bool false, .bool false, .bool false, .bool false, .bool false] 100))
  generalize ((w.alloc (.cells #[.bool hd, .string s, .slice (some ⟨lg, 0, none⟩) s.size s.size] 97)).alloc (.cells (stA p h off) 100)).alloc (.cells #[.int .i64 0, .bool false, .bool false, .bool false, .bool false, .bool false, .bool false, .bool false] 100) = W at *
  go_at_call 91
  refine (AF.out _).mono ?_
  rintro e w1 ⟨rfl, hbw1⟩
  have HC1 := hide (And.intro (HC0.out.1.below hbw1) (And.intro (HC0.out.2.1.below hbw1) (HC0.out.2.2.below hbw1))); have HB1 := hide (below_go HB0.out hbw1); clear hbw1
  clear AF
  have v1 := HC1.out.2.1.cell 0 (stA_at0 p h off)
  go_wp2_with (first | (refine wpList_load_row rfl 97 _ rfl _ rfl 97 #[.bool hd, .string s, .slice (some ⟨lg, 0, none⟩) s.size s.size] (0, 0) _ ?_ Try.underlying97 rfl Try.iCode ?_; (exact HC1.out.1.raw)))
  go_at_call 75
  refine (A4.out _).mono ?_
  rintro e w2 ⟨rfl, hbw2⟩
  have HC2 := hide (And.intro (HC1.out.1.below hbw2) (And.intro (HC1.out.2.1.below hbw2) (HC1.out.2.2.below hbw2))); have HB2 := hide (below_go HB1.out hbw2); clear hbw2
  go_wp2_with (first | (refine wpList_load_row rfl 97 _ rfl _ rfl 97 #[.bool hd, .string s, .slice (some ⟨lg, 0, none⟩) s.size s.size] (0, 0) _ ?_ Try.underlying97 rfl Try.iCode ?_; (exact HC2.out.1.raw)) | (refine wpList_load_row rfl 100 _ rfl _ rfl 100 (stA p h off) (0, 0) _ ?_ Try.underlying100 rfl (Try.iStA _ _ _) ?_; (exact HC2.out.2.1.raw)) | (go_at_call 104; refine (AN.out _ (HL.out.below HB2.out)).mono ?_; rintro e w3 ⟨rfl, hbw3⟩; have HC3 := hide (And.intro (HC2.out.1.below hbw3) (And.intro (HC2.out.2.1.below hbw3) (HC2.out.2.2.below hbw3))); have HB3 := hide (below_go HB2.out hbw3); clear hbw3) | (refine wpList_store_row rfl 100 _ _ rfl (w.heap.size + 2) (stA n.1 n.2.1 n.2.2) rfl rfl 100 #[.int .i64 0, .bool false, .bool false, .bool false, .bool false, .bool false, .bool false, .bool false] ?_ (Try.iStA _ _ _) rfl (stA_one _ _ _) ?_; (exact HC3.out.2.2.raw)))
  exact bodyPost_ret (v := .tuple #[.agg (stA n.1 n.2.1 n.2.2), .int .u8 ch]) (results_cell_tmp Try.results90 _ _ (w.heap.size + 2) 100 (stA n.1 n.2.1 n.2.2) (0, 0) _ rfl (HC3.out.2.2.setRow _).raw Try.underlying100 rfl (Try.iStA _ _ _) _ rfl) rfl ⟨rfl, below_setRow HB3.out (by omega) _⟩
/-- A step of an item by itself. -/
theorem codeStep_any (hd : Bool) (s : ByteArray) (lg p h : Nat) (off comma : Bool) (w : World) (hs : s.size ≤ 10000) (hp : p ≤ 20000) (hh : h < 64) (hok : PairOK s.data.toList) (hk : Stands (atB s.data.toList p)) (hL : Blk w lg s.size (fun i => .int .i64 ((leads s.data.toList i : Nat) : Int))) :
    Calls Try.prog 90 #[.agg #[.bool hd, .string s, .slice (some ⟨lg, 0, none⟩) s.size s.size], .agg (stA p h off), .bool comma] w fun e w' => e = .returned (.tuple #[.agg (stA (stepS hd s.data.toList p h off comma).1.1 (stepS hd s.data.toList p h off comma).1.2.1 (stepS hd s.data.toList p h off comma).1.2.2), .int .u8 (stepS hd s.data.toList p h off comma).2]) ∧ Below w.heap.size w w' := by
  by_cases hf : faultP hd s.data.toList p h off = 0
  · have e : stepS hd s.data.toList p h off comma = (nextP s.data.toList p h off comma, atB s.data.toList p) := by simp [stepS, hf]
    rw [e]
    exact step_good hd s lg p h off comma w hs hp hh hok hk hL hf _ rfl _ rfl
  · have e : stepS hd s.data.toList p h off comma = ((p, h, off), faultP hd s.data.toList p h off) := by simp [stepS, hf]
    rw [e]
    exact step_bad hd s lg p h off comma w hs hp hh hok _ rfl hf
end Go.Proofs.Ytecmfdkhcffpmab
/- The beginning of an item, spelt out. -/
namespace Go.Proofs.Ytecmfdkhcffpmab
open Go.RowKit
set_option linter.unusedSimpArgs false
set_option linter.unusedVariables false
set_option maxHeartbeats 8000000
open Mc
theorem cellO {g b : Nat} (hne : g ≠ b) {w : World} {o i : Nat} {v : Value} : (w.setCell ⟨b, o, none⟩ v).cell? ⟨g, i, none⟩ = w.cell? ⟨g, i, none⟩ := by
  have := heap_setCell_other w ⟨b, o, none⟩ g v hne
  simp only [World.cell?, this]
theorem codeBeginX (hd : Bool) (s : ByteArray) (la : Option Addr) (ln lc : Nat) (w : World) :
    Calls Try.prog 88 #[.agg #[.bool hd, .string s, .slice la ln lc]] w fun e w' => e = .returned (.agg #[.int .i64 0, .bool false, .bool false, .bool false, .bool false, .bool false, .bool false, .bool hd]) ∧ Below w.heap.size w w' := codeBegin_any hd s la ln lc w
end Go.Proofs.Ytecmfdkhcffpmab
/- The program's machine in memory; contracts of working and setWorking. -/
namespace Go.Proofs.Ytecmfdkhcffpmab
open Go.RowKit
set_option linter.unusedSimpArgs false
set_option linter.unusedVariables false
set_option maxHeartbeats 800000
open Mc

/-- The body of a frame's item; of no frame: nothing. -/
def fb (its : List Wd.It) (f : Fr) : List UInt8 := if f.there = true then bodyOf its f.item else []
def fl (its : List Wd.It) (lg : Nat → Nat) (f : Fr) : Option Addr := if f.there = true then some ⟨lg f.item, 0, none⟩ else none
/-- A frame, as it lies in memory. -/
def fpV (its : List Wd.It) (lg : Nat → Nat) (f : Fr) (o : Bool) : List Value :=
  [.bool f.there, .int .i64 (f.item : Int), .bool (f.there && isH its f.item), .string (Wd.mkS (fb its f)), .slice (fl its lg f) (fb its f).length (fb its f).length, .int .i64 (f.pos : Int), .bool (f.held.testBit 0), .bool (f.held.testBit 1), .bool (f.held.testBit 2), .bool (f.held.testBit 3), .bool (f.held.testBit 4), .bool (f.held.testBit 5), .bool o]
theorem fpV_one (its : List Wd.It) (lg : Nat → Nat) (f : Fr) (o : Bool) : (fpV its lg f o).toArray.all (·.oneCell') = true := by simp [fpV, Value.oneCell']
theorem Try.iFrameP : (Try.prog.info? 102).map (·.size) = some 13 := by kernel_rfl
theorem Try.uFrameP : ∃ d, Try.prog.underlying 102 = some d ∧ d.isRow = true := ⟨_, Try.underlying102, rfl⟩

set_option maxRecDepth 100000 in
theorem workingL (w : World) (b o : Nat) (T H : List Value) (hd : Bool) (hT : w.rangeAt b o T) (hH : w.rangeAt b (o + 13) H) (lT : T.length = 13) (lH : H.length = 13) (oT : T.toArray.all (·.oneCell') = true) (oH : H.toArray.all (·.oneCell') = true) (h0 : w.cell? ⟨b, o + 13, none⟩ = some (.bool hd)) :
    Calls Try.prog 97 #[.pointer (some ⟨b, o, none⟩)] w fun e w' => e = .returned (.agg (if hd = true then H else T).toArray) ∧ Below w.heap.size w w' := by
  have RT := hide (fun o => World.rangeAt_alloc hT o)
  have RH := hide (fun o => World.rangeAt_alloc hH o)
  have r0 : ∀ ob, (w.alloc ob).cell? ⟨b, o + 13, none⟩ = some (.bool hd) := fun ob => by
    have := World.rangeAt_alloc (w := w) (b := b) (o := o + 13) (cs := [.bool hd]) (by intro j v hj; match j, hj with | 0, hj => simp at hj; subst hj; exact h0) ob
    exact this 0 _ rfl
  obtain ⟨ud, hu, hdr⟩ := Try.uFrameP
  have HU := hide hu
  have HD := hide hdr
  have LT := hide (show (Try.prog.info? 102).map (·.size) = some T.length by rw [lT]; exact Try.iFrameP)
  have LH := hide (show (Try.prog.info? 102).map (·.size) = some H.length by rw [lH]; exact Try.iFrameP)
  have LT2 := hide (show (Try.prog.info? 102).map (·.size) = some T.toArray.size by simp only [List.size_toArray, lT]; exact Try.iFrameP)
  have LH2 := hide (show (Try.prog.info? 102).map (·.size) = some H.toArray.size by simp only [List.size_toArray, lH]; exact Try.iFrameP)
  have OT := hide oT
  have OH := hide oH
  have ET := hide (show 13 = T.length from lT.symm)
  have EH := hide (show 13 = H.length from lH.symm)
  clear hT hH lT lH oT oH hu hdr h0
  cases hd
  · simp only [Bool.false_eq_true, if_false]
    go_enter Try.func97, Try.ntmps97
    go_wp2_with (first | (refine wpList_load_mid rfl _ _ rfl _ _ rfl _ ud (RT.out _) HU.out HD.out LT.out ?_) | (refine wpList_store_row rfl 102 _ _ rfl _ _ rfl rfl 102 _ (heap_alloc_last _ _) LT2.out ET.out OT.out ?_; rw [World.setRow_alloc_new]))
    exact bodyPost_ret (v := .agg T.toArray) (results_cell_row Try.results97 _ _ w.heap.size 102 _ (0, 0) _ rfl (heap_alloc_last _ _) Try.underlying102 rfl LT2.out) rfl ⟨rfl, (Below.refl _ _).alloc (Nat.le_refl _) _⟩
  · simp only [if_true]
    go_enter Try.func97, Try.ntmps97
    go_wp2_with (first | (refine wpList_load_mid rfl _ _ rfl _ _ rfl _ ud (RH.out _) HU.out HD.out LH.out ?_) | (refine wpList_store_row rfl 102 _ _ rfl _ _ rfl rfl 102 _ (heap_alloc_last _ _) LH2.out EH.out OH.out ?_; rw [World.setRow_alloc_new]))
    exact bodyPost_ret (v := .agg H.toArray) (results_cell_row Try.results97 _ _ w.heap.size 102 _ (0, 0) _ rfl (heap_alloc_last _ _) Try.underlying102 rfl LH2.out) rfl ⟨rfl, (Below.refl _ _).alloc (Nat.le_refl _) _⟩

set_option maxRecDepth 100000 in
theorem setWorkingL (w : World) (b o : Nat) (F : List Value) (hd : Bool) (hth : w.there b o 26) (lF : F.length = 13) (oF : F.toArray.all (·.oneCell') = true) (h0 : w.cell? ⟨b, o + 13, none⟩ = some (.bool hd)) :
    Calls Try.prog 100 #[.pointer (some ⟨b, o, none⟩), .agg F.toArray] w fun e w' => e = .returned (.tuple #[]) ∧ w' = (w.alloc (.cells F.toArray 102)).setCells b (if hd = true then o + 13 else o) F := by
  have r0 : ∀ ob, (w.alloc ob).cell? ⟨b, o + 13, none⟩ = some (.bool hd) := fun ob => by
    have := World.rangeAt_alloc (w := w) (b := b) (o := o + 13) (cs := [.bool hd]) (by intro j v hj; match j, hj with | 0, hj => simp at hj; subst hj; exact h0) ob
    exact this 0 _ rfl
  have TT : Hid (∀ ob, (w.alloc ob).there b o F.toArray.size) := hide (fun ob => World.there_alloc (fun j hj => hth j (by simp [lF] at hj; omega)) ob)
  have TH : Hid (∀ ob, (w.alloc ob).there b (o + 13) F.toArray.size) := hide (fun ob => World.there_alloc (fun j hj => by have := hth (13 + j) (by simp [lF] at hj; omega); rw [← Nat.add_assoc] at this; exact this) ob)
  have LT2 := hide (show (Try.prog.info? 102).map (·.size) = some F.toArray.size by simp only [List.size_toArray, lF]; exact Try.iFrameP)
  have OF := hide oF
  clear hth lF oF h0
  cases hd
  · simp only [Bool.false_eq_true, if_false]
    go_enter Try.func100, Try.ntmps100
    go_wp2_with (first | (refine wpList_load_row rfl 102 _ rfl _ rfl 102 F.toArray (0, 0) _ (heap_alloc_last _ _) Try.underlying102 rfl LT2.out ?_) | (refine wpList_store_mid rfl 102 _ _ rfl _ _ _ rfl rfl (TT.out _) LT2.out OF.out ?_))
    go_end0
    exact ⟨rfl, rfl⟩
  · simp only [if_true]
    go_enter Try.func100, Try.ntmps100
    go_wp2_with (first | (refine wpList_load_row rfl 102 _ rfl _ rfl 102 F.toArray (0, 0) _ (heap_alloc_last _ _) Try.underlying102 rfl LT2.out ?_) | (refine wpList_store_mid rfl 102 _ _ rfl _ _ _ rfl rfl (TH.out _) LT2.out OF.out ?_))
    go_end0
    exact ⟨rfl, rfl⟩
end Go.Proofs.Ytecmfdkhcffpmab
