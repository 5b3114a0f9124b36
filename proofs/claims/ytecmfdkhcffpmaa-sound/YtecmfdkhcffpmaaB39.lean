/- StA, StB. -/
import Derived.Test.YtecmfdkhcffpmaaB15
import Derived.Test.YtecmfdkhcffpmaaB29
import Derived.Test.YtecmfdkhcffpmaaB08
/- Contracts of the program's states: their numbers, marks. -/
namespace Go.Proofs.Ytecmfdkhcffpmaa
open Go.RowKit
set_option linter.unusedSimpArgs false
set_option linter.unusedVariables false
set_option maxHeartbeats 8000000
open Mc

theorem wpList_indexTo {P : Program} {ops : Array Oper} {rest : List Oper} {o : Oper} {a : Act} {w : World} {Q : Exit → Act → World → Prop} (hg : o.guard = none) (ty : TypeId) (x i : Operand) (ho : o.op = .index ty x i)
    (v : Value) (hrun : (Instr.index ty (a.eval x) (a.eval i)).run P w = .ok v w) (h : wpList P ops Q rest (a.put o.dst v) w) : wpList P ops Q (o :: rest) a w := by
  refine wpList_runTo' hg v w ?_ h
  unfold execOp
  simp only [ho, Sem.run_bind, Sem.run_pure, hrun, Result.andThen_ok]
theorem ixH0 (a0 a1 a2 a3 a4 a5 : Value) (w : World) : (Instr.index 112 (.agg #[a0, a1, a2, a3, a4, a5]) (.int .i64 0)).run Try.prog w = .ok a0 w := by kernel_rfl
theorem ixH1 (a0 a1 a2 a3 a4 a5 : Value) (w : World) : (Instr.index 112 (.agg #[a0, a1, a2, a3, a4, a5]) (.int .i64 1)).run Try.prog w = .ok a1 w := by kernel_rfl
theorem ixH2 (a0 a1 a2 a3 a4 a5 : Value) (w : World) : (Instr.index 112 (.agg #[a0, a1, a2, a3, a4, a5]) (.int .i64 2)).run Try.prog w = .ok a2 w := by kernel_rfl
theorem ixH3 (a0 a1 a2 a3 a4 a5 : Value) (w : World) : (Instr.index 112 (.agg #[a0, a1, a2, a3, a4, a5]) (.int .i64 3)).run Try.prog w = .ok a3 w := by kernel_rfl
theorem ixH4 (a0 a1 a2 a3 a4 a5 : Value) (w : World) : (Instr.index 112 (.agg #[a0, a1, a2, a3, a4, a5]) (.int .i64 4)).run Try.prog w = .ok a4 w := by kernel_rfl
theorem ixH5 (a0 a1 a2 a3 a4 a5 : Value) (w : World) : (Instr.index 112 (.agg #[a0, a1, a2, a3, a4, a5]) (.int .i64 5)).run Try.prog w = .ok a5 w := by kernel_rfl
set_option maxRecDepth 100000 in
theorem heldNumberB (b0 b1 b2 b3 b4 b5 : Bool) (w : World) :
    Calls Try.prog 167 #[.agg #[.bool b0, .bool b1, .bool b2, .bool b3, .bool b4, .bool b5]] w fun e w' => e = .returned (.int .i64 ((nTo [b0, b1, b2, b3, b4, b5] 6 : Nat) : Int)) ∧ Below w.heap.size w w' := by
  have HB := hide (below_one w (.cells #[.bool b0, .bool b1, .bool b2, .bool b3, .bool b4, .bool b5] 112))
  go_enter Try.func167, Try.ntmps167
  go_wp2
  go_loop [3, 7] (fun n a => ∃ k : Nat, k ≤ 6 ∧ a = .int .i64 k ∧ n = .int .i64 ((nTo [b0, b1, b2, b3, b4, b5] k : Nat) : Int)) (fun _ a => 6 - (intOf a).toNat)
  case atStart => exact ⟨0, by omega, rfl, rfl⟩
  case round =>
    obtain ⟨k, hk, rfl, rfl⟩ := hrel
    by_cases hlt : k < 6
    · have hc : k = 0 ∨ k = 1 ∨ k = 2 ∨ k = 3 ∨ k = 4 ∨ k = 5 := by omega
      have hb : nTo [b0, b1, b2, b3, b4, b5] k < 64 := by
        clear HB
        rcases hc with rfl | rfl | rfl | rfl | rfl | rfl <;> cases b0 <;> cases b1 <;> cases b2 <;> cases b3 <;> cases b4 <;> cases b5 <;> decide
      have hs : ∀ b, [b0, b1, b2, b3, b4, b5][k]? = some b → nTo [b0, b1, b2, b3, b4, b5] (k + 1) = 2 * nTo [b0, b1, b2, b3, b4, b5] k + b.toNat := fun b hb => by
        unfold nTo; rw [List.take_add_one, hb]; simp
      have HS := hide hs
      clear hs
      generalize nTo [b0, b1, b2, b3, b4, b5] k = N at *
      rcases hc with rfl | rfl | rfl | rfl | rfl | rfl
      · have HE := hide (HS.out b0 rfl)
        clear HS
        cases b0
        all_goals (
          go_wp2_with (first | (refine wpList_indexTo rfl 112 _ _ rfl _ (ixH0 _ _ _ _ _ _ _) ?_))
          go_round
          case rel => exact ⟨1, by omega, rfl, by rw [HE.out]; simp; try omega⟩
          case measure => simp [intOf])
      · have HE := hide (HS.out b1 rfl)
        clear HS
        cases b1
        all_goals (
          go_wp2_with (first | (refine wpList_indexTo rfl 112 _ _ rfl _ (ixH1 _ _ _ _ _ _ _) ?_))
          go_round
          case rel => exact ⟨2, by omega, rfl, by rw [HE.out]; simp; try omega⟩
          case measure => simp [intOf])
      · have HE := hide (HS.out b2 rfl)
        clear HS
        cases b2
        all_goals (
          go_wp2_with (first | (refine wpList_indexTo rfl 112 _ _ rfl _ (ixH2 _ _ _ _ _ _ _) ?_))
          go_round
          case rel => exact ⟨3, by omega, rfl, by rw [HE.out]; simp; try omega⟩
          case measure => simp [intOf])
      · have HE := hide (HS.out b3 rfl)
        clear HS
        cases b3
        all_goals (
          go_wp2_with (first | (refine wpList_indexTo rfl 112 _ _ rfl _ (ixH3 _ _ _ _ _ _ _) ?_))
          go_round
          case rel => exact ⟨4, by omega, rfl, by rw [HE.out]; simp; try omega⟩
          case measure => simp [intOf])
      · have HE := hide (HS.out b4 rfl)
        clear HS
        cases b4
        all_goals (
          go_wp2_with (first | (refine wpList_indexTo rfl 112 _ _ rfl _ (ixH4 _ _ _ _ _ _ _) ?_))
          go_round
          case rel => exact ⟨5, by omega, rfl, by rw [HE.out]; simp; try omega⟩
          case measure => simp [intOf])
      · have HE := hide (HS.out b5 rfl)
        clear HS
        cases b5
        all_goals (
          go_wp2_with (first | (refine wpList_indexTo rfl 112 _ _ rfl _ (ixH5 _ _ _ _ _ _ _) ?_))
          go_round
          case rel => exact ⟨6, by omega, rfl, by rw [HE.out]; simp; try omega⟩
          case measure => simp [intOf])
    · have e : k = 6 := by omega
      subst e
      go_wp2
      go_ret
      exact ⟨rfl, HB.out⟩
theorem heldNumber_any (h : Nat) (w : World) :
    Calls Try.prog 167 #[.agg #[.bool (h.testBit 0), .bool (h.testBit 1), .bool (h.testBit 2), .bool (h.testBit 3), .bool (h.testBit 4), .bool (h.testBit 5)]] w fun e w' => e = .returned (.int .i64 (hn h : Int)) ∧ Below w.heap.size w w' := heldNumberB _ _ _ _ _ _ w
end Go.Proofs.Ytecmfdkhcffpmaa
/- Contracts of the program's states: their numbers, marks. -/
namespace Go.Proofs.Ytecmfdkhcffpmaa
open Go.RowKit
set_option linter.unusedSimpArgs false
set_option linter.unusedVariables false
set_option maxHeartbeats 8000000
open Mc

set_option maxRecDepth 100000 in
theorem numberB (p : Nat) (b0 b1 b2 b3 b4 b5 off : Bool) (w : World) (hp : p ≤ 20000) :
    Calls Try.prog 168 #[.agg #[.int .i64 (p : Int), .bool b0, .bool b1, .bool b2, .bool b3, .bool b4, .bool b5, .bool off]] w fun e w' => e = .returned (.int .i64 (((p * 128 + 2 * nTo [b0, b1, b2, b3, b4, b5] 6 + off.toNat : Nat)) : Int)) ∧ Below w.heap.size w w' := by
  have AN := hide (fun W => heldNumberB b0 b1 b2 b3 b4 b5 W)
  have hb : nTo [b0, b1, b2, b3, b4, b5] 6 < 64 := by cases b0 <;> cases b1 <;> cases b2 <;> cases b3 <;> cases b4 <;> cases b5 <;> decide
  generalize nTo [b0, b1, b2, b3, b4, b5] 6 = N at *
  obtain ⟨uh, huh, hdh⟩ := Try.uHeldR
  have HUH := hide huh
  have HDH := hide hdh
  clear huh hdh
  have HR0 := hide (Row.new w #[.int .i64 (p : Int), .bool b0, .bool b1, .bool b2, .bool b3, .bool b4, .bool b5, .bool off] 114)
  have HB0 := hide (below_one w (.cells #[.int .i64 (p : Int), .bool b0, .bool b1, .bool b2, .bool b3, .bool b4, .bool b5, .bool off] 114))
  cases off
  all_goals (
    go_enter Try.func168, Try.ntmps168
    go_wp2_with (first | (refine wpList_load_mid rfl 112 _ rfl _ _ rfl [.bool b0, .bool b1, .bool b2, .bool b3, .bool b4, .bool b5] uh ?_ HUH.out HDH.out Try.iHeld ?_; (exact HR0.out.range6)) | (go_at_call 167; refine (AN.out _).mono ?_; rintro e w1 ⟨rfl, hb1⟩; have HR1 := hide (HR0.out.below hb1); have HB1 := hide (below_go HB0.out hb1); have x0 := HR1.out.cell 0 (v := .int .i64 (p : Int)) rfl; have x7 := HR1.out.cell 7 rfl; clear hb1))
    go_ret
    exact ⟨ret_int (by simp; try omega), HB1.out⟩)
theorem snumber_any (p h : Nat) (off : Bool) (w : World) (hp : p ≤ 20000) :
    Calls Try.prog 168 #[.agg (stA p h off)] w fun e w' => e = .returned (.int .i64 (sn p h off : Int)) ∧ Below w.heap.size w w' := numberB p _ _ _ _ _ _ off w hp
/-- All stands but for block g. -/
structure KG (g : Nat) (w w' : World) : Prop where
  below : Below 0 w w'
  same : ∀ k, k < w.heap.size → k ≠ g → w'.heap[k]? = w.heap[k]?
theorem KG.of {g : Nat} {w w' : World} (h : Below w.heap.size w w') : KG g w w' := ⟨h.mono (Nat.zero_le _), fun k hk _ => h.block k hk⟩
theorem KG.set {g : Nat} {x w : World} (h : KG g x w) (o : Nat) (v : Value) : KG g x (w.setCell ⟨g, o, none⟩ v) :=
  ⟨h.below.trans ((Below.refl _ _).setCell (p := ⟨g, o, none⟩) (Nat.zero_le _) v), fun k hk e => (heap_setCell_other w ⟨g, o, none⟩ k v e).trans (h.same k hk e)⟩
set_option maxRecDepth 100000 in
theorem mark_any (w : World) (g n : Nat) (f : Nat → Bool) (p h : Nat) (off : Bool) (hn : n ≤ 1000000) (hb : Blk w g n (fun i => .bool (f i))) (hp : p ≤ 20000) (hs : sn p h off < n) :
    Calls Try.prog 151 #[.slice (some ⟨g, 0, none⟩) n n, .agg (stA p h off)] w fun e w' => e = .returned (.bool (!f (sn p h off))) ∧ Blk w' g n (fun i => .bool (decide (i = sn p h off) || f i)) ∧ KG g w w' := by
  have AN := hide (fun W => snumber_any p h off W hp)
  have HBK := hide hb
  have hgl := hb.lt
  generalize sn p h off = m at *
  have HR0 := hide (Row.new w (stA p h off) 114)
  have HB0 := hide (below_one w (.cells (stA p h off) 114))
  have hm0 : (0 : Int) ≤ (m : Int) := by omega
  have hmn : (m : Int) < (n : Int) := by omega
  clear hb
  cases hf : f m
  all_goals (
    have HFM := hide hf
    clear hf
    go_enter Try.func151, Try.ntmps151
    go_wp2_with (first | (refine wpList_load_row rfl 114 _ rfl _ rfl 114 (stA p h off) (0, 0) _ ?_ Try.underlying114 rfl (Try.iStA _ _ _) ?_; (exact HR0.out.raw)) | (go_at_call 168; refine (AN.out _).mono ?_; rintro e w1 ⟨rfl, hb1⟩; have HB1 := hide (below_go HB0.out hb1); have HK1 := hide (HBK.out.below HB1.out); have x0 := HK1.out.cell m hs; have f0 := HK1.out.frozen m; rw [HFM.out] at x0; clear hb1))
    go_ret)
  · refine ⟨rfl, (HK1.out.set m (.bool true)).congr fun i hi => ?_, (KG.of HB1.out).set m _⟩
    by_cases e : i = m
    · subst e; simp
    · simp [e]
  · refine ⟨rfl, HK1.out.congr fun i hi => ?_, KG.of HB1.out⟩
    by_cases e : i = m
    · subst e; simp [HFM.out]
    · simp [e]
end Go.Proofs.Ytecmfdkhcffpmaa
