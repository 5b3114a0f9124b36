/- SrcH, SrcI. -/
import Derived.Test.YtecmfdkhcffpmaaB21
import Derived.Deep.MidRow
/- Contracts of the program's 'unfoldReady' and 'unfoldFunctions'. -/
namespace Go.Proofs.Ytecmfdkhcffpmaa
open Go.RowKit
set_option linter.unusedSimpArgs false
set_option linter.unusedVariables false
set_option maxHeartbeats 800000

theorem PgR.below {w w' : World} {b : Nat} {ps : List Wd.Part} {F : Nat → Wd.Fn} (h : PgR w b ps F) (hb : Below w.heap.size w w') : PgR w' b ps F := by
  obtain ⟨v, h1, h2, h3⟩ := h
  refine ⟨v, below_row hb h1, ?_, h3⟩
  obtain ⟨a1, a2⟩ := h2
  refine ⟨a1, ?_⟩
  rcases a2 with a2 | ⟨g, cap, cur, hv, hg, hh, r⟩
  · exact .inl a2
  · exact .inr ⟨g, cap, cur, hv, hg, below_row hb hh, r⟩
theorem PgR.fn {w : World} {b : Nat} {ps : List Wd.Part} {F : Nat → Wd.Fn} (h : PgR w b ps F) (i : Nat) (hi : i < 8) (f : Wd.Fn) :
    PgR (((((w.setCell ⟨b, 1 + i * 5, none⟩ (.bool f.there)).setCell ⟨b, 1 + i * 5 + 1, none⟩ (.string (Wd.mkS f.body))).setCell ⟨b, 1 + i * 5 + 2, none⟩ (.bool f.done)).setCell ⟨b, 1 + i * 5 + 3, none⟩ (.bool f.fits)).setCell ⟨b, 1 + i * 5 + 4, none⟩ (.string (Wd.mkS f.text))) b ps (fun j => if j = i then f else F j) := by
  obtain ⟨v, h1, h2, h3⟩ := h
  have a1 := heap_setCell_same w b (1 + i * 5) _ _ (.bool f.there) h1
  have a2 := heap_setCell_same _ b (1 + i * 5 + 1) _ _ (.string (Wd.mkS f.body)) a1
  have a3 := heap_setCell_same _ b (1 + i * 5 + 2) _ _ (.bool f.done) a2
  have a4 := heap_setCell_same _ b (1 + i * 5 + 3) _ _ (.bool f.fits) a3
  have a5 := heap_setCell_same _ b (1 + i * 5 + 4) _ _ (.string (Wd.mkS f.text)) a4
  rw [Wd.pgA_set v F i f hi] at a5
  refine ⟨v, a5, ?_, h3⟩
  obtain ⟨a1, a2⟩ := h2
  refine ⟨a1, ?_⟩
  rcases a2 with a2 | ⟨g, cap, cur, hv, hg, hh, r⟩
  · exact .inl a2
  · have hgb : g < b := h3 g (by rw [hv]; rfl)
    refine .inr ⟨g, cap, cur, hv, hg, ?_, r⟩
    rw [heap_setCell_other _ _ _ _ (by show g ≠ b; omega), heap_setCell_other _ _ _ _ (by show g ≠ b; omega), heap_setCell_other _ _ _ _ (by show g ≠ b; omega), heap_setCell_other _ _ _ _ (by show g ≠ b; omega), heap_setCell_other _ _ _ _ (by show g ≠ b; omega)]
    exact hh
theorem PgR.above {w : World} {b : Nat} {ps : List Wd.Part} {F : Nat → Wd.Fn} (h : PgR w b ps F) {N : Nat} (hN : b < N) (o : Nat) (u : Value) : PgR (w.setCell ⟨N, o, none⟩ u) b ps F := by
  obtain ⟨v, h1, h2, h3⟩ := h
  refine ⟨v, by rw [heap_setCell_other _ _ _ _ (by show b ≠ N; omega)]; exact h1, ?_, h3⟩
  obtain ⟨a1, a2⟩ := h2
  refine ⟨a1, ?_⟩
  rcases a2 with a2 | ⟨g, cap, cur, hv, hg, hh, r⟩
  · exact .inl a2
  · have hgb : g < b := h3 g (by rw [hv]; rfl)
    exact .inr ⟨g, cap, cur, hv, hg, by rw [heap_setCell_other _ _ _ _ (by show g ≠ N; omega)]; exact hh, r⟩
theorem PgR.draw {w : World} {b : Nat} {ps : List Wd.Part} {F : Nat → Wd.Fn} (h : PgR w b ps F) : PgR w.drew b ps F := h

set_option maxRecDepth 100000 in
set_option maxHeartbeats 3000000 in
theorem unfoldReady_any (ps : List Wd.Part) (F : Nat → Wd.Fn) (b : Nat) (w : World) (hF : Wd.FnFine F) (hpg : PgR w b ps F) :
    Calls Try.prog 137 #[.pointer (some ⟨b, 0, none⟩)] w fun e w' => e = .returned (.tuple #[]) ∧ PgR w' b ps (Wd.readyTo F 8) ∧ Below b w w' := by
  have HF := hide hF
  have HP := hide hpg
  clear hF hpg
  go_enter Try.func137, Try.ntmps137
  go_wp2
  go_loopw [2] (fun a wr => ∃ k : Nat, k ≤ 8 ∧ a = .int .i64 k ∧ PgR wr b ps (Wd.readyTo F k) ∧ Below b w wr) (fun a _ => 8 - (intOf a).toNat)
  case atStart => exact ⟨0, by omega, rfl, HP.out, Below.refl _ _⟩
  case round =>
    clear HP
    obtain ⟨k, hk, rfl, hp, hbe⟩ := hrel
    have HP := hide hp
    have HB := hide hbe
    clear hp hbe
    by_cases hlt : k < 8
    · have HG := hide (Wd.readyTo_fine HF.out k)
      have HS := hide (show Wd.readyTo F (k + 1) = Wd.readyStep (Wd.readyTo F k) k from rfl)
      generalize Wd.readyTo F k = G at *
      obtain ⟨v, hh, _⟩ := HP.out
      have HH := hide hh
      have r0 : wr.cell? ⟨b, 1 + k * 5, none⟩ = some (.bool (G k).there) := row_cell hh (Wd.pgA_at _ G _ 0 hlt _ rfl)
      have r1 : wr.cell? ⟨b, 1 + k * 5 + 1, none⟩ = some (.string (Wd.mkS (G k).body)) := row_cell hh (Wd.pgA_at _ G _ 1 hlt _ rfl)
      have r2 : wr.cell? ⟨b, 1 + k * 5 + 2, none⟩ = some (.bool (G k).done) := row_cell hh (Wd.pgA_at _ G _ 2 hlt _ rfl)
      have r3 : wr.cell? ⟨b, 1 + k * 5 + 3, none⟩ = some (.bool (G k).fits) := row_cell hh (Wd.pgA_at _ G _ 3 hlt _ rfl)
      have r4 : wr.cell? ⟨b, 1 + k * 5 + 4, none⟩ = some (.string (Wd.mkS (G k).text)) := row_cell hh (Wd.pgA_at _ G _ 4 hlt _ rfl)
      have hbl := row_lt hh
      clear hh
      have hml : (Wd.mkS (G k).body).size ≤ 10000 := by rw [Wd.mkS_size]; exact (HG.out k).2
      have HML : Hid ((Wd.mkS (G k).body).data.toList = (G k).body) := rfl
      have HMK : Hid (Wd.mkS (G k).body = Wd.mkS (G k).body) := rfl
      generalize hsb : Wd.mkS (G k).body = sb at *
      have HSB := hide hsb
      clear hsb HMK
      generalize hst : Wd.mkS (G k).text = st at *
      have HST := hide hst
      clear hst
      go_wp2_with fail
      have HP2 := hide (HP.out.below ((Below.refl _ _).alloc (Nat.le_refl _) (.cells #[.bool (G k).there, .string sb, .bool (G k).done, .bool (G k).fits, .string st] 164)))
      have HN := hide (heap_alloc_last wr (.cells #[.bool (G k).there, .string sb, .bool (G k).done, .bool (G k).fits, .string st] 164))
      have HB2 : Hid (Below b w (wr.alloc (.cells #[.bool (G k).there, .string sb, .bool (G k).done, .bool (G k).fits, .string st] 164))) := HB.out.alloc (by omega) _
      generalize wr.alloc (.cells #[.bool (G k).there, .string sb, .bool (G k).done, .bool (G k).fits, .string st] 164) = W at *
      generalize wr.heap.size = N at *
      clear r0 r1 r2 r3 r4
      obtain ⟨v2, hh2, hown2, hlt2⟩ := HP2.out
      have HH2 := hide hh2
      refine (allDone_any sb G v2 b W hml hh2).mono ?_
      rw [HML.out]
      rintro e w1 ⟨rfl, rfl⟩
      have n0 : w1.cell? ⟨N, 0, none⟩ = some (.bool (G k).there) := row_cell HN.out rfl
      have n1 : w1.cell? ⟨N, 1, none⟩ = some (.string sb) := row_cell HN.out rfl
      have n2 : w1.cell? ⟨N, 2, none⟩ = some (.bool (G k).done) := row_cell HN.out rfl
      clear hh2 hown2 hlt2
      cases h1 : (G k).there
      · rw [h1] at n0
        go_wp2_with fail
        refine ⟨⟨k + 1, by omega, by go_num, ?_, HB2.out⟩, by simp [intOf]; omega⟩
        rw [HS.out, Wd.readyStep, if_neg (by simp [h1])]
        exact HP2.out
      · cases h2 : (G k).done
        · cases h3 : Wd.allDone G (G k).body
          · rw [h1] at n0
            rw [h2] at n2
            go_wp2_with fail
            refine ⟨⟨k + 1, by omega, by go_num, ?_, HB2.out⟩, by simp [intOf]; omega⟩
            rw [HS.out, Wd.readyStep, if_neg (by simp [h3])]
            exact HP2.out
          · rw [h1] at n0
            rw [h2] at n2
            have HX := unfold_any sb G v2 b w1 hml (fun j => (HG.out j).1) HH2.out
            rw [HML.out] at HX
            have HSS : Hid (Wd.readyTo F (k + 1) = fun j => if j = k then Wd.newFn G (G k) else G j) := by
              apply hide; rw [HS.out, Wd.readyStep, if_pos ⟨h1, h2, h3⟩]
            have HUF : Hid (∃ (t : List UInt8) (ft : Bool), Wd.newFn G (G k) = ⟨(G k).there, (G k).body, true, ft, t⟩ ∧ UnfPost w1 (Wd.unfold G (G k).body) = fun e w' => Below w1.heap.size w1 w' ∧ e = .returned (.tuple #[.string (Wd.mkS t), .bool ft])) := by
              apply hide
              cases hq : Wd.unfold G (G k).body with
              | some x => exact ⟨x, true, by simp [Wd.newFn, hq], rfl⟩
              | none => exact ⟨[], false, by simp [Wd.newFn, hq], rfl⟩
            obtain ⟨t, ft, hnf, hpo⟩ := HUF.out
            rw [hpo] at HX
            have HXX := hide HX
            have HNF := hide hnf
            clear HX hnf hpo HUF h3
            go_wp2_with fail
            refine HXX.out.mono ?_
            rintro e w2 ⟨hb2, rfl⟩
            have q1 := below_row hb2 HN.out
            have HP3 := hide (HP2.out.below hb2)
            have HB3 := hide (HB2.out.trans (hb2.mono (by have := row_lt HH2.out; omega)))
            have k0 : w2.cell? ⟨N, 0, none⟩ = some (.bool (G k).there) := row_cell q1 rfl
            have k1 : w2.cell? ⟨N, 1, none⟩ = some (.string sb) := row_cell q1 rfl
            have k2 : w2.cell? ⟨N, 2, none⟩ = some (.bool (G k).done) := row_cell q1 rfl
            have k3 : w2.cell? ⟨N, 3, none⟩ = some (.bool (G k).fits) := row_cell q1 rfl
            have k4 : w2.cell? ⟨N, 4, none⟩ = some (.string st) := row_cell q1 rfl
            have z2 := frozen_of_row w2 N 2 _ _ q1
            have z3 := frozen_of_row w2 N 3 _ _ q1
            have z4 := frozen_of_row w2 N 4 _ _ q1
            have HQ1 := hide q1
            clear hb2 q1 n0 n1 n2
            go_wp2_with fail
            have hbN : b < N := hbl
            have p1 : (((w2.setCell ⟨N, 2, none⟩ (.bool true)).setCell ⟨N, 3, none⟩ (.bool ft)).setCell ⟨N, 4, none⟩ (.string (Wd.mkS t))).heap[N]? = some (.cells #[.bool true, .string sb, .bool true, .bool ft, .string (Wd.mkS t)] 164 (0, 0)) := by
              have x1 := heap_setCell_same w2 N 2 _ _ (.bool true) HQ1.out
              have x2 := heap_setCell_same _ N 3 _ _ (.bool ft) x1
              have x3 := heap_setCell_same _ N 4 _ _ (.string (Wd.mkS t)) x2
              rw [x3, h1]; rfl
            have p2 : PgR (((w2.setCell ⟨N, 2, none⟩ (.bool true)).setCell ⟨N, 3, none⟩ (.bool ft)).setCell ⟨N, 4, none⟩ (.string (Wd.mkS t))) b ps G := ((HP3.out.above hbN _ _).above hbN _ _).above hbN _ _
            have p3 : Below b w (((w2.setCell ⟨N, 2, none⟩ (.bool true)).setCell ⟨N, 3, none⟩ (.bool ft)).setCell ⟨N, 4, none⟩ (.string (Wd.mkS t))) := ((HB3.out.setCell (p := ⟨N, 2, none⟩) (by show b ≤ N; omega) _).setCell (p := ⟨N, 3, none⟩) (by show b ≤ N; omega) _).setCell (p := ⟨N, 4, none⟩) (by show b ≤ N; omega) _
            clear k0 k1 k2 k3 k4 z2 z3 z4
            generalize (((w2.setCell ⟨N, 2, none⟩ (.bool true)).setCell ⟨N, 3, none⟩ (.bool ft)).setCell ⟨N, 4, none⟩ (.string (Wd.mkS t))) = W3 at *
            obtain ⟨v3, hh3, hown3, hlt3⟩ := id p2
            have d0 : W3.cell? ⟨N, 0, none⟩ = some (.bool true) := row_cell p1 rfl
            have d1 : W3.cell? ⟨N, 1, none⟩ = some (.string sb) := row_cell p1 rfl
            have d2 : W3.cell? ⟨N, 2, none⟩ = some (.bool true) := row_cell p1 rfl
            have d3 : W3.cell? ⟨N, 3, none⟩ = some (.bool ft) := row_cell p1 rfl
            have d4 : W3.cell? ⟨N, 4, none⟩ = some (.string (Wd.mkS t)) := row_cell p1 rfl
            have r0 : W3.cell? ⟨b, 1 + k * 5, none⟩ = some (.bool (G k).there) := row_cell hh3 (Wd.pgA_at _ G _ 0 hlt _ rfl)
            have r1 : W3.cell? ⟨b, 1 + k * 5 + 1, none⟩ = some (.string (Wd.mkS (G k).body)) := row_cell hh3 (Wd.pgA_at _ G _ 1 hlt _ rfl)
            have r2 : W3.cell? ⟨b, 1 + k * 5 + 2, none⟩ = some (.bool (G k).done) := row_cell hh3 (Wd.pgA_at _ G _ 2 hlt _ rfl)
            have r3 : W3.cell? ⟨b, 1 + k * 5 + 3, none⟩ = some (.bool (G k).fits) := row_cell hh3 (Wd.pgA_at _ G _ 3 hlt _ rfl)
            have r4 : W3.cell? ⟨b, 1 + k * 5 + 4, none⟩ = some (.string (Wd.mkS (G k).text)) := row_cell hh3 (Wd.pgA_at _ G _ 4 hlt _ rfl)
            have z0 := frozen_of_row W3 b (1 + k * 5) _ _ hh3
            have z1 := frozen_of_row W3 b (1 + k * 5 + 1) _ _ hh3
            have z2 := frozen_of_row W3 b (1 + k * 5 + 2) _ _ hh3
            have z3 := frozen_of_row W3 b (1 + k * 5 + 3) _ _ hh3
            have z4 := frozen_of_row W3 b (1 + k * 5 + 4) _ _ hh3
            have P2 := hide p2
            have P3 := hide p3
            clear hh3 hown3 hlt3 p1 p2 p3
            go_region
            all_goals go_wp2
            all_goals
              refine ⟨⟨k + 1, by omega, by go_num, ?_, (below_set (below_set (below_set (below_set (below_set P3.out _) _) _) _) _).drew⟩, by simp [intOf]; omega⟩
              rw [HSS.out, HNF.out, ← HSB.out, h1]
              exact PgR.draw (P2.out.fn k hlt ⟨true, (G k).body, true, ft, t⟩)
        · rw [h1] at n0
          rw [h2] at n2
          go_wp2_with fail
          refine ⟨⟨k + 1, by omega, by go_num, ?_, HB2.out⟩, by simp [intOf]; omega⟩
          rw [HS.out, Wd.readyStep, if_neg (by simp [h2])]
          exact HP2.out
    · go_wp2
      go_end0
      obtain rfl : k = 8 := by omega
      exact ⟨rfl, HP.out, HB.out⟩
end Go.Proofs.Ytecmfdkhcffpmaa
/- Contract of the program's 'unfoldFunctions'. -/
namespace Go.Proofs.Ytecmfdkhcffpmaa
open Go.RowKit
set_option linter.unusedSimpArgs false
set_option linter.unusedVariables false
set_option maxHeartbeats 800000

def fnsA (F : Nat → Wd.Fn) : List Value := Wd.fnV (F 0) ++ Wd.fnV (F 1) ++ Wd.fnV (F 2) ++ Wd.fnV (F 3) ++ Wd.fnV (F 4) ++ Wd.fnV (F 5) ++ Wd.fnV (F 6) ++ Wd.fnV (F 7)
theorem run_index53_0 (F : Nat → Wd.Fn) (w : World) : (Instr.index 165 (.agg (fnsA F).toArray) (.int .i64 0)).run Try.prog w = .ok (.agg #[.bool (F 0).there, .string (Wd.mkS (F 0).body), .bool (F 0).done, .bool (F 0).fits, .string (Wd.mkS (F 0).text)]) w := by kernel_rfl
theorem run_index53_1 (F : Nat → Wd.Fn) (w : World) : (Instr.index 165 (.agg (fnsA F).toArray) (.int .i64 1)).run Try.prog w = .ok (.agg #[.bool (F 1).there, .string (Wd.mkS (F 1).body), .bool (F 1).done, .bool (F 1).fits, .string (Wd.mkS (F 1).text)]) w := by kernel_rfl
theorem run_index53_2 (F : Nat → Wd.Fn) (w : World) : (Instr.index 165 (.agg (fnsA F).toArray) (.int .i64 2)).run Try.prog w = .ok (.agg #[.bool (F 2).there, .string (Wd.mkS (F 2).body), .bool (F 2).done, .bool (F 2).fits, .string (Wd.mkS (F 2).text)]) w := by kernel_rfl
theorem run_index53_3 (F : Nat → Wd.Fn) (w : World) : (Instr.index 165 (.agg (fnsA F).toArray) (.int .i64 3)).run Try.prog w = .ok (.agg #[.bool (F 3).there, .string (Wd.mkS (F 3).body), .bool (F 3).done, .bool (F 3).fits, .string (Wd.mkS (F 3).text)]) w := by kernel_rfl
theorem run_index53_4 (F : Nat → Wd.Fn) (w : World) : (Instr.index 165 (.agg (fnsA F).toArray) (.int .i64 4)).run Try.prog w = .ok (.agg #[.bool (F 4).there, .string (Wd.mkS (F 4).body), .bool (F 4).done, .bool (F 4).fits, .string (Wd.mkS (F 4).text)]) w := by kernel_rfl
theorem run_index53_5 (F : Nat → Wd.Fn) (w : World) : (Instr.index 165 (.agg (fnsA F).toArray) (.int .i64 5)).run Try.prog w = .ok (.agg #[.bool (F 5).there, .string (Wd.mkS (F 5).body), .bool (F 5).done, .bool (F 5).fits, .string (Wd.mkS (F 5).text)]) w := by kernel_rfl
theorem run_index53_6 (F : Nat → Wd.Fn) (w : World) : (Instr.index 165 (.agg (fnsA F).toArray) (.int .i64 6)).run Try.prog w = .ok (.agg #[.bool (F 6).there, .string (Wd.mkS (F 6).body), .bool (F 6).done, .bool (F 6).fits, .string (Wd.mkS (F 6).text)]) w := by kernel_rfl
theorem run_index53_7 (F : Nat → Wd.Fn) (w : World) : (Instr.index 165 (.agg (fnsA F).toArray) (.int .i64 7)).run Try.prog w = .ok (.agg #[.bool (F 7).there, .string (Wd.mkS (F 7).body), .bool (F 7).done, .bool (F 7).fits, .string (Wd.mkS (F 7).text)]) w := by kernel_rfl
theorem run_index53 (F : Nat → Wd.Fn) (k : Nat) (hk : k < 8) (w : World) : (Instr.index 165 (.agg (fnsA F).toArray) (.int .i64 (k : Int))).run Try.prog w = .ok (.agg #[.bool (F k).there, .string (Wd.mkS (F k).body), .bool (F k).done, .bool (F k).fits, .string (Wd.mkS (F k).text)]) w := by
  match k, hk with
  | 0, _ => exact run_index53_0 F w
  | 1, _ => exact run_index53_1 F w
  | 2, _ => exact run_index53_2 F w
  | 3, _ => exact run_index53_3 F w
  | 4, _ => exact run_index53_4 F w
  | 5, _ => exact run_index53_5 F w
  | 6, _ => exact run_index53_6 F w
  | 7, _ => exact run_index53_7 F w
theorem wpList_index53 {ops : Array Oper} {rest : List Oper} {o : Oper} {a : Act} {w : World} {Q : Exit → Act → World → Prop} (hg : o.guard = none) (x y : Operand) (ho : o.op = .index 165 x y) (F : Nat → Wd.Fn) (hx : a.eval x = .agg (fnsA F).toArray) (k : Nat) (hy : a.eval y = .int .i64 (k : Int)) (hk : k < 8)
    (h : wpList Try.prog ops Q rest (a.put o.dst (.agg #[.bool (F k).there, .string (Wd.mkS (F k).body), .bool (F k).done, .bool (F k).fits, .string (Wd.mkS (F k).text)])) w) : wpList Try.prog ops Q (o :: rest) a w := by
  refine wpList_runTo' hg _ _ ?_ h
  unfold execOp
  simp only [ho, hx, hy, Sem.run_bind, Sem.run_pure, run_index53 F k hk, Result.andThen_ok]
theorem pgA_list (v : Value) (F : Nat → Wd.Fn) : (Wd.pgA v F).toList = v :: fnsA F := by
  simp only [Wd.pgA, fnsA, Wd.fnV, List.cons_append, List.nil_append]
theorem fns_range {w : World} {b : Nat} {v : Value} {F : Nat → Wd.Fn} (h : w.heap[b]? = some (.cells (Wd.pgA v F) 167 (0, 0))) : w.rangeAt b 1 (fnsA F) := by
  intro j u hu
  rw [cell_of_row w b (1 + j) _ _ _ h, ← Array.getElem?_toList, pgA_list, Nat.add_comm, List.getElem?_cons_succ]
  exact hu
theorem Try.i53 : (Try.prog.info? 165).map (·.size) = some 40 := by kernel_rfl

set_option maxRecDepth 100000 in
set_option maxHeartbeats 3000000 in
theorem unfoldFunctions_any (ps : List Wd.Part) (F : Nat → Wd.Fn) (b : Nat) (w : World) (hF : Wd.FnFine F) (hpg : PgR w b ps F) :
    Calls Try.prog 109 #[.pointer (some ⟨b, 0, none⟩)] w fun e w' => e = .returned (.bool (!Wd.left (Wd.roundsTo F 8))) ∧ PgR w' b ps (Wd.roundsTo F 8) ∧ Below b w w' := by
  have HF := hide hF
  have HP := hide hpg
  clear hF hpg
  go_enter Try.func109, Try.ntmps109
  go_wp2
  go_loopw [3] (fun a wr => ∃ k : Nat, k ≤ 8 ∧ a = .int .i64 k ∧ PgR wr b ps (Wd.roundsTo F k) ∧ Below b w wr) (fun a _ => 8 - (intOf a).toNat)
  case atStart => exact ⟨0, by omega, rfl, HP.out, Below.refl _ _⟩
  case round =>
    clear HP
    obtain ⟨k, hk, rfl, hp, hbe⟩ := hrel
    have HP := hide hp
    have HB := hide hbe
    clear hp hbe
    by_cases hlt : k < 8
    · go_wp2_with (go_at_call 137; refine (unfoldReady_any ps _ b _ (Wd.roundsTo_fine HF.out k) HP.out).mono ?_; rintro e w1 ⟨rfl, hp1, hb1⟩)
      go_roundw
      case rel => exact ⟨k + 1, by omega, by go_num, hp1, HB.out.trans hb1⟩
      case measure => simp [intOf]; omega
    · obtain rfl : k = 8 := by omega
      generalize hGq : Wd.roundsTo F 8 = G at *
      have HGQ := hide hGq
      clear hGq
      obtain ⟨v, hh, _⟩ := HP.out
      have HH := hide hh
      have hbl := row_lt hh
      clear hh
      go_wp2_with (refine wpList_load_mid rfl 165 _ rfl b 1 rfl (fnsA G) _ (fns_range HH.out) Try.underlying165 rfl Try.i53 ?_)
      have HPB : Hid (∀ wx, Below wr.heap.size wr wx → PgR wx b ps G ∧ Below b w wx) := fun wx hx => ⟨HP.out.below hx, HB.out.trans (hx.mono (by omega))⟩
      go_loopw [16] (fun a wx => ∃ j : Nat, j ≤ 8 ∧ a = .int .i64 j ∧ (∀ i, i < j → Wd.leftP G i = false) ∧ Below wr.heap.size wr wx) (fun a _ => 8 - (intOf a).toNat)
      case atStart => exact ⟨0, by omega, rfl, fun i hi => by omega, Below.refl _ _⟩
      case round =>
        obtain ⟨j, hj, rfl, hno, hbx⟩ := hrel
        have HNO := hide hno
        have HBX := hide hbx
        clear hno hbx
        by_cases hjl : j < 8
        · have HLP := hide (show Wd.leftP G j = ((G j).there && !(G j).done) from rfl)
          generalize Wd.mkS (G j).body = sb
          cases h1 : (G j).there
          · go_wp2_with (refine wpList_index53 rfl _ _ rfl G rfl j rfl hjl ?_)
            refine ⟨⟨j + 1, by omega, by go_num, fun i hi => ?_, HBX.out.alloc HBX.out.size _⟩, by simp [intOf]; omega⟩
            by_cases e : i = j
            · subst e; rw [HLP.out, h1]; rfl
            · exact HNO.out i (by omega)
          · cases h2 : (G j).done
            · go_wp2_with (refine wpList_index53 rfl _ _ rfl G rfl j rfl hjl ?_)
              go_ret
              have hx := HPB.out _ (HBX.out.alloc HBX.out.size (.cells #[.bool (G j).there, .string (Wd.mkS (G j).body), .bool (G j).done, .bool (G j).fits, .string (Wd.mkS (G j).text)] 164))
              rw [h1, h2] at hx
              refine ⟨?_, ?_, hx.2⟩
              · rw [HGQ.out, Wd.left, Wd.first_yes hjl (by rw [HLP.out, h1, h2]; rfl) HNO.out]; rfl
              · rw [HGQ.out]; exact hx.1
            · go_wp2_with (refine wpList_index53 rfl _ _ rfl G rfl j rfl hjl ?_)
              refine ⟨⟨j + 1, by omega, by go_num, fun i hi => ?_, HBX.out.alloc HBX.out.size _⟩, by simp [intOf]; omega⟩
              by_cases e : i = j
              · subst e; rw [HLP.out, h1, h2]; rfl
              · exact HNO.out i (by omega)
        · go_wp2
          go_ret
          have hx := HPB.out _ HBX.out
          refine ⟨?_, by rw [HGQ.out]; exact hx.1, hx.2⟩
          rw [HGQ.out, Wd.left, Wd.first_no (fun i hi => HNO.out i (by omega))]; rfl
end Go.Proofs.Ytecmfdkhcffpmaa
