/- Contract of the program's 'unfoldFunctions'. -/
import Derived.Test.YtecmfdkhcffpmaaSrcH
import Derived.Deep.MidRow
namespace Go.Proofs.Ytecmfdkhcffpmaa
open Go.RowKit
set_option linter.unusedSimpArgs false
set_option linter.unusedVariables false
set_option maxHeartbeats 800000

def fnsA (F : Nat → Wd.Fn) : List Value := Wd.fnV (F 0) ++ Wd.fnV (F 1) ++ Wd.fnV (F 2) ++ Wd.fnV (F 3) ++ Wd.fnV (F 4) ++ Wd.fnV (F 5) ++ Wd.fnV (F 6) ++ Wd.fnV (F 7)
theorem run_index53_0 (F : Nat → Wd.Fn) (w : World) : (Instr.index 165 (.agg (fnsA F).toArray) (.int .i64 0)).run Try.prog w = .ok (.agg #[.bool (F 0).there, .string (Wd.mkS (F 0).body), .bool (F 0).done, .bool (F 0).fits, .string (Wd.mkS (F 0).text)]) w := by kernel_rfl
theorem run_index53_1 (F : Nat → Wd.Fn) (w : World) : (Instr.index 165 (.agg (fnsA F).toArray) (.int .i64 1)).run Try.prog w = .ok (.agg #[.bool (F 1).there, .string (Wd.mkS (F 1).body), .bool (F 1).done, .bool (F 1).fits, .string (Wd.mkS (F 1).text)]) w := by kernel_rfl
theorem run_index53_2 (F : Nat → Wd.Fn) (w : World) : (Instr.index 165 (.agg (fnsA F).toArray) (.int .i64 2)).run Try.prog w = .ok (.agg #[.bool (F 2).there, .string (Wd.mkS (F 2).body), .bool (F 2).done, .bool (F 2).fits, .string (Wd.mkS (F 2).text)]) w := by kernel_rfl
theorem run_index53_3 (F : Nat → Wd.Fn) (w : World) : (Instr.index 165 (.agg (fnsA F).toArray) (.int .i64 3)).run Try.prog w = .ok (.agg #[.bool (F 3).there, .string (Wd.mkS (F 3).body), .bool (F 3).done, .bool (F 3).fits, .string (Wd.mkS (F 3).text)]) w := by kernel_rfl
theorem run_index53_4 (F : Nat → Wd.Fn) (w : World) : (Instr.index 165 (.agg (fnsA F).toArray) (.int .i64 4)).run Try.prog w = .ok (.agg #[.bool (F 4).there, .string (Wd.mkS (F 4).body), .bool (F 4).done, .bool (F 4).fits, .string (Wd.mkS (F 4).text)]) w := by kernel_rfl
theorem run_index53_5 (F : Nat → Wd.Fn) (w : World) : (Instr.index 165 (.agg (fnsA F).toArray) (.int .i64 5)).run Try.prog w = .ok (.agg #[.bool (F 5).there, .string (Wd.mkS (F 5).body), .bool (F 5).done, .bool (F 5).fits, .string (Wd.mkS (F 5).text)]) w := by kernel_rfl
theorem run_index53_6 (F : Nat → Wd.Fn) (w : World) : (Instr.index 165 (.agg (fnsA F).toArray) (.int .i64 6)).run Try.prog w = .ok (.agg #[.bool (F 6).there, .string (Wd.mkS (F 6).body), .bool (F 6).done, .bool (F 6).fits, .string (Wd.mkS (F 6).text)]) w := by kernel_rfl
theorem run_index53_7 (F : Nat → Wd.Fn) (w : World) : (Instr.index 165 (.agg (fnsA F).toArray) (.int .i64 7)).run Try.prog w = .ok (.agg #[.bool (F 7).there, .string (Wd.mkS (F 7).body), .bool (F 7).done, .bool (F 7).fits, .string (Wd.mkS (F 7).text)]) w := by kernel_rfl
theorem run_index53 (F : Nat → Wd.Fn) (k : Nat) (hk : k < 8) (w : World) : (Instr.index 165 (.agg (fnsA F).toArray) (.int .i64 (k : Int))).run Try.prog w = .ok (.agg #[.bool (F k).there, .string (Wd.mkS (F k).body), .bool (F k).done, .bool (F k).fits, .string (Wd.mkS (F k).text)]) w := by
  match k, hk with
  | 0, _ => exact run_index53_0 F w
  | 1, _ => exact run_index53_1 F w
  | 2, _ => exact run_index53_2 F w
  | 3, _ => exact run_index53_3 F w
  | 4, _ => exact run_index53_4 F w
  | 5, _ => exact run_index53_5 F w
  | 6, _ => exact run_index53_6 F w
  | 7, _ => exact run_index53_7 F w
theorem wpList_index53 {ops : Array Oper} {rest : List Oper} {o : Oper} {a : Act} {w : World} {Q : Exit → Act → World → Prop} (hg : o.guard = none) (x y : Operand) (ho : o.op = .index 165 x y) (F : Nat → Wd.Fn) (hx : a.eval x = .agg (fnsA F).toArray) (k : Nat) (hy : a.eval y = .int .i64 (k : Int)) (hk : k < 8)
    (h : wpList Try.prog ops Q rest (a.put o.dst (.agg #[.bool (F k).there, .string (Wd.mkS (F k).body), .bool (F k).done, .bool (F k).fits, .string (Wd.mkS (F k).text)])) w) : wpList Try.prog ops Q (o :: rest) a w := by
  refine wpList_runTo' hg _ _ ?_ h
  unfold execOp
  simp only [ho, hx, hy, Sem.run_bind, Sem.run_pure, run_index53 F k hk, Result.andThen_ok]
theorem pgA_list (v : Value) (F : Nat → Wd.Fn) : (Wd.pgA v F).toList = v :: fnsA F := by
  simp only [Wd.pgA, fnsA, Wd.fnV, List.cons_append, List.nil_append]
theorem fns_range {w : World} {b : Nat} {v : Value} {F : Nat → Wd.Fn} (h : w.heap[b]? = some (.cells (Wd.pgA v F) 167 (0, 0))) : w.rangeAt b 1 (fnsA F) := by
  intro j u hu
  rw [cell_of_row w b (1 + j) _ _ _ h, ← Array.getElem?_toList, pgA_list, Nat.add_comm, List.getElem?_cons_succ]
  exact hu
theorem Try.i53 : (Try.prog.info? 165).map (·.size) = some 40 := by kernel_rfl

set_option maxRecDepth 100000 in
set_option maxHeartbeats 3000000 in
theorem unfoldFunctions_any (ps : List Wd.Part) (F : Nat → Wd.Fn) (b : Nat) (w : World) (hF : Wd.FnFine F) (hpg : PgR w b ps F) :
    Calls Try.prog 109 #[.pointer (some ⟨b, 0, none⟩)] w fun e w' => e = .returned (.bool (!Wd.left (Wd.roundsTo F 8))) ∧ PgR w' b ps (Wd.roundsTo F 8) ∧ Below b w w' := by
  have HF := hide hF
  have HP := hide hpg
  clear hF hpg
  go_enter Try.func109, Try.ntmps109
  go_wp2
  go_loopw [3] (fun a wr => ∃ k : Nat, k ≤ 8 ∧ a = .int .i64 k ∧ PgR wr b ps (Wd.roundsTo F k) ∧ Below b w wr) (fun a _ => 8 - (intOf a).toNat)
  case atStart => exact ⟨0, by omega, rfl, HP.out, Below.refl _ _⟩
  case round =>
    clear HP
    obtain ⟨k, hk, rfl, hp, hbe⟩ := hrel
    have HP := hide hp
    have HB := hide hbe
    clear hp hbe
    by_cases hlt : k < 8
    · go_wp2_with (go_at_call 137; refine (unfoldReady_any ps _ b _ (Wd.roundsTo_fine HF.out k) HP.out).mono ?_; rintro e w1 ⟨rfl, hp1, hb1⟩)
      go_roundw
      case rel => exact ⟨k + 1, by omega, by go_num, hp1, HB.out.trans hb1⟩
      case measure => simp [intOf]; omega
    · obtain rfl : k = 8 := by omega
      generalize hGq : Wd.roundsTo F 8 = G at *
      have HGQ := hide hGq
      clear hGq
      obtain ⟨v, hh, _⟩ := HP.out
      have HH := hide hh
      have hbl := row_lt hh
      clear hh
      go_wp2_with (refine wpList_load_mid rfl 165 _ rfl b 1 rfl (fnsA G) _ (fns_range HH.out) Try.underlying165 rfl Try.i53 ?_)
      have HPB : Hid (∀ wx, Below wr.heap.size wr wx → PgR wx b ps G ∧ Below b w wx) := fun wx hx => ⟨HP.out.below hx, HB.out.trans (hx.mono (by omega))⟩
      go_loopw [16] (fun a wx => ∃ j : Nat, j ≤ 8 ∧ a = .int .i64 j ∧ (∀ i, i < j → Wd.leftP G i = false) ∧ Below wr.heap.size wr wx) (fun a _ => 8 - (intOf a).toNat)
      case atStart => exact ⟨0, by omega, rfl, fun i hi => by omega, Below.refl _ _⟩
      case round =>
        obtain ⟨j, hj, rfl, hno, hbx⟩ := hrel
        have HNO := hide hno
        have HBX := hide hbx
        clear hno hbx
        by_cases hjl : j < 8
        · have HLP := hide (show Wd.leftP G j = ((G j).there && !(G j).done) from rfl)
          generalize Wd.mkS (G j).body = sb
          cases h1 : (G j).there
          · go_wp2_with (refine wpList_index53 rfl _ _ rfl G rfl j rfl hjl ?_)
            refine ⟨⟨j + 1, by omega, by go_num, fun i hi => ?_, HBX.out.alloc HBX.out.size _⟩, by simp [intOf]; omega⟩
            by_cases e : i = j
            · subst e; rw [HLP.out, h1]; rfl
            · exact HNO.out i (by omega)
          · cases h2 : (G j).done
            · go_wp2_with (refine wpList_index53 rfl _ _ rfl G rfl j rfl hjl ?_)
              go_ret
              have hx := HPB.out _ (HBX.out.alloc HBX.out.size (.cells #[.bool (G j).there, .string (Wd.mkS (G j).body), .bool (G j).done, .bool (G j).fits, .string (Wd.mkS (G j).text)] 164))
              rw [h1, h2] at hx
              refine ⟨?_, ?_, hx.2⟩
              · rw [HGQ.out, Wd.left, Wd.first_yes hjl (by rw [HLP.out, h1, h2]; rfl) HNO.out]; rfl
              · rw [HGQ.out]; exact hx.1
            · go_wp2_with (refine wpList_index53 rfl _ _ rfl G rfl j rfl hjl ?_)
              refine ⟨⟨j + 1, by omega, by go_num, fun i hi => ?_, HBX.out.alloc HBX.out.size _⟩, by simp [intOf]; omega⟩
              by_cases e : i = j
              · subst e; rw [HLP.out, h1, h2]; rfl
              · exact HNO.out i (by omega)
        · go_wp2
          go_ret
          have hx := HPB.out _ HBX.out
          refine ⟨?_, by rw [HGQ.out]; exact hx.1, hx.2⟩
          rw [HGQ.out, Wd.left, Wd.first_no (fun i hi => HNO.out i (by omega))]; rfl
end Go.Proofs.Ytecmfdkhcffpmaa
