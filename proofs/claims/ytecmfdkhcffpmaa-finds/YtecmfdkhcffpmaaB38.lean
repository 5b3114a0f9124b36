/- ProgH, StA, StB, CodeX. -/
import Derived.Test.YtecmfdkhcffpmaaB37
import Derived.Test.YtecmfdkhcffpmaaB31
import Derived.Test.YtecmfdkhcffpmaaB18
/- Contracts of the program's steps: the beginning, the end, a step. -/
namespace Go.Proofs.Ytecmfdkhcffpmaa
open Go.RowKit
set_option linter.unusedSimpArgs false
set_option linter.unusedVariables false
set_option maxHeartbeats 8000000
open Mc

theorem results_cell_tmp {P : Program} {fn : Func} {u p : Tmp} {ty : TypeId} (h : fn.results = #[.cell p ty, .tmp u]) (tmps : Array Value) (w : World) (g : Nat) (t : TypeId) (cs : Array Value) (fr : Nat × Nat) (d : TypeDesc)
    (hp : tmps.getD p undef = .pointer (some ⟨g, 0, none⟩)) (hg : w.heap[g]? = some (.cells cs t fr))
    (hu : P.underlying ty = some d) (hd : (match d with | .struct _ | .array _ _ => true | _ => false) = true) (hi : (P.info? ty).map (·.size) = some cs.size) (v : Value) (hv : tmps.getD u undef = v) :
    (results fn tmps).run P w = .ok (.tuple #[.agg cs, v]) w := by
  have hp' : tmps[p]?.getD undef = .pointer (some ⟨g, 0, none⟩) := by simpa using hp
  have hv' : tmps[u]?.getD undef = v := by simpa using hv
  simp [results, h, hp', hv', asAddr, run_loadVar_row w g t ty cs fr d hg hu hd hi]
theorem Try.iStA (p h : Nat) (off : Bool) : (Try.prog.info? 114).map (·.size) = some (stA p h off).size := Try.iState
theorem stA_at0 (p h : Nat) (off : Bool) : (stA p h off)[0]? = some (.int .i64 (p : Int)) := rfl

theorem codeEnd_any (hd : Bool) (s : ByteArray) (la : Option Addr) (ln lc : Nat) (w : World) (hs : s.size ≤ 10000) :
    Calls Try.prog 147 #[.agg #[.bool hd, .string s, .slice la ln lc]] w fun e w' => e = .returned (.int .i64 s.size) ∧ Below w.heap.size w w' := by
  go_enter Try.func147, Try.ntmps147
  go_wp2
  go_ret
  exact ⟨rfl, (Below.refl _ _).alloc (Nat.le_refl _) _⟩
set_option maxRecDepth 100000 in
theorem codeBegin_any (hd : Bool) (s : ByteArray) (la : Option Addr) (ln lc : Nat) (w : World) :
    Calls Try.prog 127 #[.agg #[.bool hd, .string s, .slice la ln lc]] w fun e w' => e = .returned (.agg (stA 0 0 hd)) ∧ Below w.heap.size w w' := by
  go_enter Try.func127, Try.ntmps127
  go_wp2
  exact bodyPost_ret (v := .agg (stA 0 0 hd)) (results_cell_row Try.results127 _ _ (w.heap.size + 1) 114 (stA 0 0 hd) (0, 0) _ rfl (heap_alloc2_new _ _ _) Try.underlying114 rfl Try.iState) rfl ⟨rfl, ((Below.refl _ _).alloc (Nat.le_refl _) _).alloc (by simp) _⟩
set_option maxRecDepth 100000 in
theorem step_bad (hd : Bool) (s : ByteArray) (lg p h : Nat) (off comma : Bool) (w : World) (hs : s.size ≤ 10000) (hp : p ≤ 20000) (hh : h < 64) (hok : PairOK s.data.toList) (f : Int) (hf : faultP hd s.data.toList p h off = f) (hf0 : f ≠ 0) :
    Calls Try.prog 152 #[.agg #[.bool hd, .string s, .slice (some ⟨lg, 0, none⟩) s.size s.size], .agg (stA p h off), .bool comma] w fun e w' => e = .returned (.tuple #[.agg (stA p h off), .int .u8 f]) ∧ Below w.heap.size w w' := by
  have AF : Hid (∀ W, Calls Try.prog 126 #[.agg #[.bool hd, .string s, .slice (some ⟨lg, 0, none⟩) s.size s.size], .agg (stA p h off)] W fun e w' => e = .returned (.int .u8 (faultP hd s.data.toList p h off)) ∧ Below W.heap.size W w') := hide (fun W => fault_any hd s (some ⟨lg, 0, none⟩) s.size s.size p h off W hs hp hh hok)
  rw [hf] at AF
  have tf : (f != 0) = true := by simp [hf0]
  clear hf hf0 hok
  go_enter Try.func152, Try.ntmps152
  go_wp2_with (first | (refine wpList_load_row rfl 114 _ rfl _ rfl 114 (stA p h off) (0, 0) _ ?_ Try.underlying114 rfl (Try.iStA _ _ _) ?_; (exact (Row.three w #[.bool hd, .string s, .slice (some ⟨lg, 0, none⟩) s.size s.size] (stA p h off) #[.int .i64 0, .bool false, .bool false, .bool false, .bool false, .bool false, .bool false, .bool false] 111 114 114).2.1.raw)))
  have HC0 := hide (Row.three w #[.bool hd, .string s, .slice (some ⟨lg, 0, none⟩) s.size s.size] (stA p h off) #[.int .i64 0, .bool false, .bool false, .bool false, .bool false, .bool false, .bool false, .bool false] 111 114 114)
  have HB0 := hide (below_three w (.cells #[.bool hd, .string s, .slice (some ⟨lg, 0, none⟩) s.size s.size] 111) (.cells (stA p h off) 114) (.cells #[.int .i64 0, .bool false, .bool false, .bool false, .bool false, .bool false, .bool false, .bool false] 114))
  generalize ((w.alloc (.cells #[.bool hd, .string s, .slice (some ⟨lg, 0, none⟩) s.size s.size] 111)).alloc (.cells (stA p h off) 114)).alloc (.cells #[.int .i64 0, .bool false, .bool false, .bool false, .bool false, .bool false, .bool false, .bool false] 114) = W at *
  go_at_call 126
  refine (AF.out _).mono ?_
  rintro e w1 ⟨rfl, hbw1⟩
  have HC1 := hide (And.intro (HC0.out.1.below hbw1) (And.intro (HC0.out.2.1.below hbw1) (HC0.out.2.2.below hbw1))); have HB1 := hide (below_go HB0.out hbw1); clear hbw1
  clear AF
  go_wp2_with (first | (refine wpList_load_row rfl 114 _ rfl _ rfl 114 (stA p h off) (0, 0) _ ?_ Try.underlying114 rfl (Try.iStA _ _ _) ?_; (exact HC1.out.2.1.raw)) | (refine wpList_store_row rfl 114 _ _ rfl (w.heap.size + 2) (stA p h off) rfl rfl 114 #[.int .i64 0, .bool false, .bool false, .bool false, .bool false, .bool false, .bool false, .bool false] ?_ (Try.iStA _ _ _) rfl (stA_one _ _ _) ?_; (exact HC1.out.2.2.raw)))
  exact bodyPost_ret (v := .tuple #[.agg (stA p h off), .int .u8 f]) (results_cell_tmp Try.results152 _ _ (w.heap.size + 2) 114 (stA p h off) (0, 0) _ rfl (HC1.out.2.2.setRow _).raw Try.underlying114 rfl (Try.iStA _ _ _) _ rfl) rfl ⟨rfl, below_setRow HB1.out (by omega) _⟩
set_option maxRecDepth 100000 in
theorem step_good (hd : Bool) (s : ByteArray) (lg p h : Nat) (off comma : Bool) (w : World) (hs : s.size ≤ 10000) (hp : p ≤ 20000) (hh : h < 64) (hok : PairOK s.data.toList) (hk : Stands (atB s.data.toList p)) (hL : Blk w lg s.size (fun i => .int .i64 ((leads s.data.toList i : Nat) : Int))) (hfa : faultP hd s.data.toList p h off = 0) (n : Nat × Nat × Bool) (hn : nextP s.data.toList p h off comma = n) (ch : Int) (hch : atB s.data.toList p = ch) :
    Calls Try.prog 152 #[.agg #[.bool hd, .string s, .slice (some ⟨lg, 0, none⟩) s.size s.size], .agg (stA p h off), .bool comma] w fun e w' => e = .returned (.tuple #[.agg (stA n.1 n.2.1 n.2.2), .int .u8 ch]) ∧ Below w.heap.size w w' := by
  have AF : Hid (∀ W, Calls Try.prog 126 #[.agg #[.bool hd, .string s, .slice (some ⟨lg, 0, none⟩) s.size s.size], .agg (stA p h off)] W fun e w' => e = .returned (.int .u8 (faultP hd s.data.toList p h off)) ∧ Below W.heap.size W w') := hide (fun W => fault_any hd s (some ⟨lg, 0, none⟩) s.size s.size p h off W hs hp hh hok)
  have A4 := hide (fun W => codeAt_any hd s (some ⟨lg, 0, none⟩) s.size s.size p W hs hp)
  have AN := hide (fun W (hLW : Blk W lg s.size (fun i => .int .i64 ((leads s.data.toList i : Nat) : Int))) => next_any hd s lg p h off comma W hs hp hh hok hk hLW hfa)
  rw [hn] at AN
  rw [hch] at A4
  rw [hfa] at AF
  have HL := hide hL
  clear hfa hk hok hn hch hL
  go_enter Try.func152, Try.ntmps152
  go_wp2_with (first | (refine wpList_load_row rfl 114 _ rfl _ rfl 114 (stA p h off) (0, 0) _ ?_ Try.underlying114 rfl (Try.iStA _ _ _) ?_; (exact (Row.three w #[.bool hd, .string s, .slice (some ⟨lg, 0, none⟩) s.size s.size] (stA p h off) #[.int .i64 0, .bool false, .bool false, .bool false, .bool false, .bool false, .bool false, .bool false] 111 114 114).2.1.raw)))
  have HC0 := hide (Row.three w #[.bool hd, .string s, .slice (some ⟨lg, 0, none⟩) s.size s.size] (stA p h off) #[.int .i64 0, .bool false, .bool false, .bool false, .bool false, .bool false, .bool false, .bool false] 111 114 114)
  have HB0 := hide (below_three w (.cells #[.bool hd, .string s, .slice (some ⟨lg, 0, none⟩) s.size s.size] 111) (.cells (stA p h off) 114) (.cells #[.int .i64 0, .bool false, .bool false, .bool false, .bool false, .bool false, .bool false, .bool false] 114))
  generalize ((w.alloc (.cells #[.bool hd, .string s, .slice (some ⟨lg, 0, none⟩) s.size s.size] 111)).alloc (.cells (stA p h off) 114)).alloc (.cells #[.int .i64 0, .bool false, .bool false, .bool false, .bool false, .bool false, .bool false, .bool false] 114) = W at *
  go_at_call 126
  refine (AF.out _).mono ?_
  rintro e w1 ⟨rfl, hbw1⟩
  have HC1 := hide (And.intro (HC0.out.1.below hbw1) (And.intro (HC0.out.2.1.below hbw1) (HC0.out.2.2.below hbw1))); have HB1 := hide (below_go HB0.out hbw1); clear hbw1
  clear AF
  have v1 := HC1.out.2.1.cell 0 (stA_at0 p h off)
  go_wp2_with (first | (refine wpList_load_row rfl 111 _ rfl _ rfl 111 #[.bool hd, .string s, .slice (some ⟨lg, 0, none⟩) s.size s.size] (0, 0) _ ?_ Try.underlying111 rfl Try.iCode ?_; (exact HC1.out.1.raw)))
  go_at_call 128
  refine (A4.out _).mono ?_
  rintro e w2 ⟨rfl, hbw2⟩
  have HC2 := hide (And.intro (HC1.out.1.below hbw2) (And.intro (HC1.out.2.1.below hbw2) (HC1.out.2.2.below hbw2))); have HB2 := hide (below_go HB1.out hbw2); clear hbw2
  go_wp2_with (first | (refine wpList_load_row rfl 111 _ rfl _ rfl 111 #[.bool hd, .string s, .slice (some ⟨lg, 0, none⟩) s.size s.size] (0, 0) _ ?_ Try.underlying111 rfl Try.iCode ?_; (exact HC2.out.1.raw)) | (refine wpList_load_row rfl 114 _ rfl _ rfl 114 (stA p h off) (0, 0) _ ?_ Try.underlying114 rfl (Try.iStA _ _ _) ?_; (exact HC2.out.2.1.raw)) | (go_at_call 169; refine (AN.out _ (HL.out.below HB2.out)).mono ?_; rintro e w3 ⟨rfl, hbw3⟩; have HC3 := hide (And.intro (HC2.out.1.below hbw3) (And.intro (HC2.out.2.1.below hbw3) (HC2.out.2.2.below hbw3))); have HB3 := hide (below_go HB2.out hbw3); clear hbw3) | (refine wpList_store_row rfl 114 _ _ rfl (w.heap.size + 2) (stA n.1 n.2.1 n.2.2) rfl rfl 114 #[.int .i64 0, .bool false, .bool false, .bool false, .bool false, .bool false, .bool false, .bool false] ?_ (Try.iStA _ _ _) rfl (stA_one _ _ _) ?_; (exact HC3.out.2.2.raw)))
  exact bodyPost_ret (v := .tuple #[.agg (stA n.1 n.2.1 n.2.2), .int .u8 ch]) (results_cell_tmp Try.results152 _ _ (w.heap.size + 2) 114 (stA n.1 n.2.1 n.2.2) (0, 0) _ rfl (HC3.out.2.2.setRow _).raw Try.underlying114 rfl (Try.iStA _ _ _) _ rfl) rfl ⟨rfl, below_setRow HB3.out (by omega) _⟩
/-- A step of an item by itself. -/
theorem codeStep_any (hd : Bool) (s : ByteArray) (lg p h : Nat) (off comma : Bool) (w : World) (hs : s.size ≤ 10000) (hp : p ≤ 20000) (hh : h < 64) (hok : PairOK s.data.toList) (hk : Stands (atB s.data.toList p)) (hL : Blk w lg s.size (fun i => .int .i64 ((leads s.data.toList i : Nat) : Int))) :
    Calls Try.prog 152 #[.agg #[.bool hd, .string s, .slice (some ⟨lg, 0, none⟩) s.size s.size], .agg (stA p h off), .bool comma] w fun e w' => e = .returned (.tuple #[.agg (stA (stepS hd s.data.toList p h off comma).1.1 (stepS hd s.data.toList p h off comma).1.2.1 (stepS hd s.data.toList p h off comma).1.2.2), .int .u8 (stepS hd s.data.toList p h off comma).2]) ∧ Below w.heap.size w w' := by
  by_cases hf : faultP hd s.data.toList p h off = 0
  · have e : stepS hd s.data.toList p h off comma = (nextP s.data.toList p h off comma, atB s.data.toList p) := by simp [stepS, hf]
    rw [e]
    exact step_good hd s lg p h off comma w hs hp hh hok hk hL hf _ rfl _ rfl
  · have e : stepS hd s.data.toList p h off comma = ((p, h, off), faultP hd s.data.toList p h off) := by simp [stepS, hf]
    rw [e]
    exact step_bad hd s lg p h off comma w hs hp hh hok _ rfl hf
end Go.Proofs.Ytecmfdkhcffpmaa
/- Contracts of the program's states: their numbers, marks. -/
namespace Go.Proofs.Ytecmfdkhcffpmaa
open Go.RowKit
set_option linter.unusedSimpArgs false
set_option linter.unusedVariables false
set_option maxHeartbeats 8000000
open Mc

theorem wpList_indexTo {P : Program} {ops : Array Oper} {rest : List Oper} {o : Oper} {a : Act} {w : World} {Q : Exit → Act → World → Prop} (hg : o.guard = none) (ty : TypeId) (x i : Operand) (ho : o.op = .index ty x i)
    (v : Value) (hrun : (Instr.index ty (a.eval x) (a.eval i)).run P w = .ok v w) (h : wpList P ops Q rest (a.put o.dst v) w) : wpList P ops Q (o :: rest) a w := by
  refine wpList_runTo' hg v w ?_ h
  unfold execOp
  simp only [ho, Sem.run_bind, Sem.run_pure, hrun, Result.andThen_ok]
theorem ixH0 (a0 a1 a2 a3 a4 a5 : Value) (w : World) : (Instr.index 112 (.agg #[a0, a1, a2, a3, a4, a5]) (.int .i64 0)).run Try.prog w = .ok a0 w := by kernel_rfl
theorem ixH1 (a0 a1 a2 a3 a4 a5 : Value) (w : World) : (Instr.index 112 (.agg #[a0, a1, a2, a3, a4, a5]) (.int .i64 1)).run Try.prog w = .ok a1 w := by kernel_rfl
theorem ixH2 (a0 a1 a2 a3 a4 a5 : Value) (w : World) : (Instr.index 112 (.agg #[a0, a1, a2, a3, a4, a5]) (.int .i64 2)).run Try.prog w = .ok a2 w := by kernel_rfl
theorem ixH3 (a0 a1 a2 a3 a4 a5 : Value) (w : World) : (Instr.index 112 (.agg #[a0, a1, a2, a3, a4, a5]) (.int .i64 3)).run Try.prog w = .ok a3 w := by kernel_rfl
theorem ixH4 (a0 a1 a2 a3 a4 a5 : Value) (w : World) : (Instr.index 112 (.agg #[a0, a1, a2, a3, a4, a5]) (.int .i64 4)).run Try.prog w = .ok a4 w := by kernel_rfl
theorem ixH5 (a0 a1 a2 a3 a4 a5 : Value) (w : World) : (Instr.index 112 (.agg #[a0, a1, a2, a3, a4, a5]) (.int .i64 5)).run Try.prog w = .ok a5 w := by kernel_rfl
set_option maxRecDepth 100000 in
theorem heldNumberB (b0 b1 b2 b3 b4 b5 : Bool) (w : World) :
    Calls Try.prog 167 #[.agg #[.bool b0, .bool b1, .bool b2, .bool b3, .bool b4, .bool b5]] w fun e w' => e = .returned (.int .i64 ((nTo [b0, b1, b2, b3, b4, b5] 6 : Nat) : Int)) ∧ Below w.heap.size w w' := by
  have HB := hide (below_one w (.cells #[.bool b0, .bool b1, .bool b2, .bool b3, .bool b4, .bool b5] 112))
  go_enter Try.func167, Try.ntmps167
  go_wp2
  go_loop [3, 7] (fun n a => ∃ k : Nat, k ≤ 6 ∧ a = .int .i64 k ∧ n = .int .i64 ((nTo [b0, b1, b2, b3, b4, b5] k : Nat) : Int)) (fun _ a => 6 - (intOf a).toNat)
  case atStart => exact ⟨0, by omega, rfl, rfl⟩
  case round =>
    obtain ⟨k, hk, rfl, rfl⟩ := hrel
    by_cases hlt : k < 6
    · have hc : k = 0 ∨ k = 1 ∨ k = 2 ∨ k = 3 ∨ k = 4 ∨ k = 5 := by omega
      have hb : nTo [b0, b1, b2, b3, b4, b5] k < 64 := by
        clear HB
        rcases hc with rfl | rfl | rfl | rfl | rfl | rfl <;> cases b0 <;> cases b1 <;> cases b2 <;> cases b3 <;> cases b4 <;> cases b5 <;> decide
      have hs : ∀ b, [b0, b1, b2, b3, b4, b5][k]? = some b → nTo [b0, b1, b2, b3, b4, b5] (k + 1) = 2 * nTo [b0, b1, b2, b3, b4, b5] k + b.toNat := fun b hb => by
        unfold nTo; rw [List.take_add_one, hb]; simp
      have HS := hide hs
      clear hs
      generalize nTo [b0, b1, b2, b3, b4, b5] k = N at *
      rcases hc with rfl | rfl | rfl | rfl | rfl | rfl
      · have HE := hide (HS.out b0 rfl)
        clear HS
        cases b0
        all_goals (
          go_wp2_with (first | (refine wpList_indexTo rfl 112 _ _ rfl _ (ixH0 _ _ _ _ _ _ _) ?_))
          go_round
          case rel => exact ⟨1, by omega, rfl, by rw [HE.out]; simp; try omega⟩
          case measure => simp [intOf])
      · have HE := hide (HS.out b1 rfl)
        clear HS
        cases b1
        all_goals (
          go_wp2_with (first | (refine wpList_indexTo rfl 112 _ _ rfl _ (ixH1 _ _ _ _ _ _ _) ?_))
          go_round
          case rel => exact ⟨2, by omega, rfl, by rw [HE.out]; simp; try omega⟩
          case measure => simp [intOf])
      · have HE := hide (HS.out b2 rfl)
        clear HS
        cases b2
        all_goals (
          go_wp2_with (first | (refine wpList_indexTo rfl 112 _ _ rfl _ (ixH2 _ _ _ _ _ _ _) ?_))
          go_round
          case rel => exact ⟨3, by omega, rfl, by rw [HE.out]; simp; try omega⟩
          case measure => simp [intOf])
      · have HE := hide (HS.out b3 rfl)
        clear HS
        cases b3
        all_goals (
          go_wp2_with (first | (refine wpList_indexTo rfl 112 _ _ rfl _ (ixH3 _ _ _ _ _ _ _) ?_))
          go_round
          case rel => exact ⟨4, by omega, rfl, by rw [HE.out]; simp; try omega⟩
          case measure => simp [intOf])
      · have HE := hide (HS.out b4 rfl)
        clear HS
        cases b4
        all_goals (
          go_wp2_with (first | (refine wpList_indexTo rfl 112 _ _ rfl _ (ixH4 _ _ _ _ _ _ _) ?_))
          go_round
          case rel => exact ⟨5, by omega, rfl, by rw [HE.out]; simp; try omega⟩
          case measure => simp [intOf])
      · have HE := hide (HS.out b5 rfl)
        clear HS
        cases b5
        all_goals (
          go_wp2_with (first | (refine wpList_indexTo rfl 112 _ _ rfl _ (ixH5 _ _ _ _ _ _ _) ?_))
          go_round
          case rel => exact ⟨6, by omega, rfl, by rw [HE.out]; simp; try omega⟩
          case measure => simp [intOf])
    · have e : k = 6 := by omega
      subst e
      go_wp2
      go_ret
      exact ⟨rfl, HB.out⟩
end Go.Proofs.Ytecmfdkhcffpmaa
/- Contracts of the program's states: their numbers, marks. -/
namespace Go.Proofs.Ytecmfdkhcffpmaa
open Go.RowKit
set_option linter.unusedSimpArgs false
set_option linter.unusedVariables false
set_option maxHeartbeats 8000000
open Mc

set_option maxRecDepth 100000 in
theorem numberB (p : Nat) (b0 b1 b2 b3 b4 b5 off : Bool) (w : World) (hp : p ≤ 20000) :
    Calls Try.prog 168 #[.agg #[.int .i64 (p : Int), .bool b0, .bool b1, .bool b2, .bool b3, .bool b4, .bool b5, .bool off]] w fun e w' => e = .returned (.int .i64 (((p * 128 + 2 * nTo [b0, b1, b2, b3, b4, b5] 6 + off.toNat : Nat)) : Int)) ∧ Below w.heap.size w w' := by
  have AN := hide (fun W => heldNumberB b0 b1 b2 b3 b4 b5 W)
  have hb : nTo [b0, b1, b2, b3, b4, b5] 6 < 64 := by cases b0 <;> cases b1 <;> cases b2 <;> cases b3 <;> cases b4 <;> cases b5 <;> decide
  generalize nTo [b0, b1, b2, b3, b4, b5] 6 = N at *
  obtain ⟨uh, huh, hdh⟩ := Try.uHeldR
  have HUH := hide huh
  have HDH := hide hdh
  clear huh hdh
  have HR0 := hide (Row.new w #[.int .i64 (p : Int), .bool b0, .bool b1, .bool b2, .bool b3, .bool b4, .bool b5, .bool off] 114)
  have HB0 := hide (below_one w (.cells #[.int .i64 (p : Int), .bool b0, .bool b1, .bool b2, .bool b3, .bool b4, .bool b5, .bool off] 114))
  cases off
  all_goals (
    go_enter Try.func168, Try.ntmps168
    go_wp2_with (first | (refine wpList_load_mid rfl 112 _ rfl _ _ rfl [.bool b0, .bool b1, .bool b2, .bool b3, .bool b4, .bool b5] uh ?_ HUH.out HDH.out Try.iHeld ?_; (exact HR0.out.range6)) | (go_at_call 167; refine (AN.out _).mono ?_; rintro e w1 ⟨rfl, hb1⟩; have HR1 := hide (HR0.out.below hb1); have HB1 := hide (below_go HB0.out hb1); have x0 := HR1.out.cell 0 (v := .int .i64 (p : Int)) rfl; have x7 := HR1.out.cell 7 rfl; clear hb1))
    go_ret
    exact ⟨ret_int (by simp; try omega), HB1.out⟩)
theorem snumber_any (p h : Nat) (off : Bool) (w : World) (hp : p ≤ 20000) :
    Calls Try.prog 168 #[.agg (stA p h off)] w fun e w' => e = .returned (.int .i64 (sn p h off : Int)) ∧ Below w.heap.size w w' := numberB p _ _ _ _ _ _ off w hp
/-- All stands but for block g. -/
structure KG (g : Nat) (w w' : World) : Prop where
  below : Below 0 w w'
  same : ∀ k, k < w.heap.size → k ≠ g → w'.heap[k]? = w.heap[k]?
theorem KG.of {g : Nat} {w w' : World} (h : Below w.heap.size w w') : KG g w w' := ⟨h.mono (Nat.zero_le _), fun k hk _ => h.block k hk⟩
theorem KG.set {g : Nat} {x w : World} (h : KG g x w) (o : Nat) (v : Value) : KG g x (w.setCell ⟨g, o, none⟩ v) :=
  ⟨h.below.trans ((Below.refl _ _).setCell (p := ⟨g, o, none⟩) (Nat.zero_le _) v), fun k hk e => (heap_setCell_other w ⟨g, o, none⟩ k v e).trans (h.same k hk e)⟩
set_option maxRecDepth 100000 in
theorem mark_any (w : World) (g n : Nat) (f : Nat → Bool) (p h : Nat) (off : Bool) (hn : n ≤ 1000000) (hb : Blk w g n (fun i => .bool (f i))) (hp : p ≤ 20000) (hs : sn p h off < n) :
    Calls Try.prog 151 #[.slice (some ⟨g, 0, none⟩) n n, .agg (stA p h off)] w fun e w' => e = .returned (.bool (!f (sn p h off))) ∧ Blk w' g n (fun i => .bool (decide (i = sn p h off) || f i)) ∧ KG g w w' := by
  have AN := hide (fun W => snumber_any p h off W hp)
  have HBK := hide hb
  have hgl := hb.lt
  generalize sn p h off = m at *
  have HR0 := hide (Row.new w (stA p h off) 114)
  have HB0 := hide (below_one w (.cells (stA p h off) 114))
  have hm0 : (0 : Int) ≤ (m : Int) := by omega
  have hmn : (m : Int) < (n : Int) := by omega
  clear hb
  cases hf : f m
  all_goals (
    have HFM := hide hf
    clear hf
    go_enter Try.func151, Try.ntmps151
    go_wp2_with (first | (refine wpList_load_row rfl 114 _ rfl _ rfl 114 (stA p h off) (0, 0) _ ?_ Try.underlying114 rfl (Try.iStA _ _ _) ?_; (exact HR0.out.raw)) | (go_at_call 168; refine (AN.out _).mono ?_; rintro e w1 ⟨rfl, hb1⟩; have HB1 := hide (below_go HB0.out hb1); have HK1 := hide (HBK.out.below HB1.out); have x0 := HK1.out.cell m hs; have f0 := HK1.out.frozen m; rw [HFM.out] at x0; clear hb1))
    go_ret)
  · refine ⟨rfl, (HK1.out.set m (.bool true)).congr fun i hi => ?_, (KG.of HB1.out).set m _⟩
    by_cases e : i = m
    · subst e; simp
    · simp [e]
  · refine ⟨rfl, HK1.out.congr fun i hi => ?_, KG.of HB1.out⟩
    by_cases e : i = m
    · subst e; simp [HFM.out]
    · simp [e]
end Go.Proofs.Ytecmfdkhcffpmaa
/- The beginning of an item, spelt out. -/
namespace Go.Proofs.Ytecmfdkhcffpmaa
open Go.RowKit
set_option linter.unusedSimpArgs false
set_option linter.unusedVariables false
set_option maxHeartbeats 8000000
open Mc
theorem cellO {g b : Nat} (hne : g ≠ b) {w : World} {o i : Nat} {v : Value} : (w.setCell ⟨b, o, none⟩ v).cell? ⟨g, i, none⟩ = w.cell? ⟨g, i, none⟩ := by
  have := heap_setCell_other w ⟨b, o, none⟩ g v hne
  simp only [World.cell?, this]
theorem codeBeginX (hd : Bool) (s : ByteArray) (la : Option Addr) (ln lc : Nat) (w : World) :
    Calls Try.prog 127 #[.agg #[.bool hd, .string s, .slice la ln lc]] w fun e w' => e = .returned (.agg #[.int .i64 0, .bool false, .bool false, .bool false, .bool false, .bool false, .bool false, .bool hd]) ∧ Below w.heap.size w w' := codeBegin_any hd s la ln lc w
end Go.Proofs.Ytecmfdkhcffpmaa
