/- SrcI, SrcJ, SrcK. -/
import Derived.Test.YtecmfdkhcffpmabB19
import Derived.Deep.MidRow
import Derived.Test.YtecmfdkhcffpmabB01
/- Contract of the program's 'unfoldFunctions'. -/
namespace Go.Proofs.Ytecmfdkhcffpmab
open Go.RowKit
set_option linter.unusedSimpArgs false
set_option linter.unusedVariables false
set_option maxHeartbeats 800000

def fnsA (F : Nat → Wd.Fn) : List Value := Wd.fnV (F 0) ++ Wd.fnV (F 1) ++ Wd.fnV (F 2) ++ Wd.fnV (F 3) ++ Wd.fnV (F 4) ++ Wd.fnV (F 5) ++ Wd.fnV (F 6) ++ Wd.fnV (F 7)
theorem run_index53_0 (F : Nat → Wd.Fn) (w : World) : (Instr.index 126 (.agg (fnsA F).toArray) (.int .i64 0)).run Try.prog w = .ok (.agg #[.bool (F 0).there, .string (Wd.mkS (F 0).body), .bool (F 0).done, .bool (F 0).fits, .string (Wd.mkS (F 0).text)]) w := by kernel_rfl
theorem run_index53_1 (F : Nat → Wd.Fn) (w : World) : (Instr.index 126 (.agg (fnsA F).toArray) (.int .i64 1)).run Try.prog w = .ok (.agg #[.bool (F 1).there, .string (Wd.mkS (F 1).body), .bool (F 1).done, .bool (F 1).fits, .string (Wd.mkS (F 1).text)]) w := by kernel_rfl
theorem run_index53_2 (F : Nat → Wd.Fn) (w : World) : (Instr.index 126 (.agg (fnsA F).toArray) (.int .i64 2)).run Try.prog w = .ok (.agg #[.bool (F 2).there, .string (Wd.mkS (F 2).body), .bool (F 2).done, .bool (F 2).fits, .string (Wd.mkS (F 2).text)]) w := by kernel_rfl
theorem run_index53_3 (F : Nat → Wd.Fn) (w : World) : (Instr.index 126 (.agg (fnsA F).toArray) (.int .i64 3)).run Try.prog w = .ok (.agg #[.bool (F 3).there, .string (Wd.mkS (F 3).body), .bool (F 3).done, .bool (F 3).fits, .string (Wd.mkS (F 3).text)]) w := by kernel_rfl
theorem run_index53_4 (F : Nat → Wd.Fn) (w : World) : (Instr.index 126 (.agg (fnsA F).toArray) (.int .i64 4)).run Try.prog w = .ok (.agg #[.bool (F 4).there, .string (Wd.mkS (F 4).body), .bool (F 4).done, .bool (F 4).fits, .string (Wd.mkS (F 4).text)]) w := by kernel_rfl
theorem run_index53_5 (F : Nat → Wd.Fn) (w : World) : (Instr.index 126 (.agg (fnsA F).toArray) (.int .i64 5)).run Try.prog w = .ok (.agg #[.bool (F 5).there, .string (Wd.mkS (F 5).body), .bool (F 5).done, .bool (F 5).fits, .string (Wd.mkS (F 5).text)]) w := by kernel_rfl
theorem run_index53_6 (F : Nat → Wd.Fn) (w : World) : (Instr.index 126 (.agg (fnsA F).toArray) (.int .i64 6)).run Try.prog w = .ok (.agg #[.bool (F 6).there, .string (Wd.mkS (F 6).body), .bool (F 6).done, .bool (F 6).fits, .string (Wd.mkS (F 6).text)]) w := by kernel_rfl
theorem run_index53_7 (F : Nat → Wd.Fn) (w : World) : (Instr.index 126 (.agg (fnsA F).toArray) (.int .i64 7)).run Try.prog w = .ok (.agg #[.bool (F 7).there, .string (Wd.mkS (F 7).body), .bool (F 7).done, .bool (F 7).fits, .string (Wd.mkS (F 7).text)]) w := by kernel_rfl
theorem run_index53 (F : Nat → Wd.Fn) (k : Nat) (hk : k < 8) (w : World) : (Instr.index 126 (.agg (fnsA F).toArray) (.int .i64 (k : Int))).run Try.prog w = .ok (.agg #[.bool (F k).there, .string (Wd.mkS (F k).body), .bool (F k).done, .bool (F k).fits, .string (Wd.mkS (F k).text)]) w := by
  match k, hk with
  | 0, _ => exact run_index53_0 F w
  | 1, _ => exact run_index53_1 F w
  | 2, _ => exact run_index53_2 F w
  | 3, _ => exact run_index53_3 F w
  | 4, _ => exact run_index53_4 F w
  | 5, _ => exact run_index53_5 F w
  | 6, _ => exact run_index53_6 F w
  | 7, _ => exact run_index53_7 F w
theorem wpList_index53 {ops : Array Oper} {rest : List Oper} {o : Oper} {a : Act} {w : World} {Q : Exit → Act → World → Prop} (hg : o.guard = none) (x y : Operand) (ho : o.op = .index 126 x y) (F : Nat → Wd.Fn) (hx : a.eval x = .agg (fnsA F).toArray) (k : Nat) (hy : a.eval y = .int .i64 (k : Int)) (hk : k < 8)
    (h : wpList Try.prog ops Q rest (a.put o.dst (.agg #[.bool (F k).there, .string (Wd.mkS (F k).body), .bool (F k).done, .bool (F k).fits, .string (Wd.mkS (F k).text)])) w) : wpList Try.prog ops Q (o :: rest) a w := by
  refine wpList_runTo' hg _ _ ?_ h
  unfold execOp
  simp only [ho, hx, hy, Sem.run_bind, Sem.run_pure, run_index53 F k hk, Result.andThen_ok]
theorem pgA_list (v : Value) (F : Nat → Wd.Fn) : (Wd.pgA v F).toList = v :: fnsA F := by
  simp only [Wd.pgA, fnsA, Wd.fnV, List.cons_append, List.nil_append]
theorem fns_range {w : World} {b : Nat} {v : Value} {F : Nat → Wd.Fn} (h : w.heap[b]? = some (.cells (Wd.pgA v F) 128 (0, 0))) : w.rangeAt b 1 (fnsA F) := by
  intro j u hu
  rw [cell_of_row w b (1 + j) _ _ _ h, ← Array.getElem?_toList, pgA_list, Nat.add_comm, List.getElem?_cons_succ]
  exact hu
theorem Try.i53 : (Try.prog.info? 126).map (·.size) = some 40 := by kernel_rfl

set_option maxRecDepth 100000 in
set_option maxHeartbeats 3000000 in
theorem unfoldFunctions_any (ps : List Wd.Part) (F : Nat → Wd.Fn) (b : Nat) (w : World) (hF : Wd.FnFine F) (hpg : PgR w b ps F) :
    Calls Try.prog 63 #[.pointer (some ⟨b, 0, none⟩)] w fun e w' => e = .returned (.bool (!Wd.left (Wd.roundsTo F 8))) ∧ PgR w' b ps (Wd.roundsTo F 8) ∧ Below b w w' := by
  have HF := hide hF
  have HP := hide hpg
  clear hF hpg
  go_enter Try.func63, Try.ntmps63
  go_wp2
  go_loopw [3] (fun a wr => ∃ k : Nat, k ≤ 8 ∧ a = .int .i64 k ∧ PgR wr b ps (Wd.roundsTo F k) ∧ Below b w wr) (fun a _ => 8 - (intOf a).toNat)
  case atStart => exact ⟨0, by omega, rfl, HP.out, Below.refl _ _⟩
  case round =>
    clear HP
    obtain ⟨k, hk, rfl, hp, hbe⟩ := hrel
    have HP := hide hp
    have HB := hide hbe
    clear hp hbe
    by_cases hlt : k < 8
    · go_wp2_with (go_at_call 82; refine (unfoldReady_any ps _ b _ (Wd.roundsTo_fine HF.out k) HP.out).mono ?_; rintro e w1 ⟨rfl, hp1, hb1⟩)
      go_roundw
      case rel => exact ⟨k + 1, by omega, by go_num, hp1, HB.out.trans hb1⟩
      case measure => simp [intOf]; omega
    · obtain rfl : k = 8 := by omega
      generalize hGq : Wd.roundsTo F 8 = G at *
      have HGQ := hide hGq
      clear hGq
      obtain ⟨v, hh, _⟩ := HP.out
      have HH := hide hh
      have hbl := row_lt hh
      clear hh
      go_wp2_with (refine wpList_load_mid rfl 126 _ rfl b 1 rfl (fnsA G) _ (fns_range HH.out) Try.underlying126 rfl Try.i53 ?_)
      have HPB : Hid (∀ wx, Below wr.heap.size wr wx → PgR wx b ps G ∧ Below b w wx) := fun wx hx => ⟨HP.out.below hx, HB.out.trans (hx.mono (by omega))⟩
      go_loopw [16] (fun a wx => ∃ j : Nat, j ≤ 8 ∧ a = .int .i64 j ∧ (∀ i, i < j → Wd.leftP G i = false) ∧ Below wr.heap.size wr wx) (fun a _ => 8 - (intOf a).toNat)
      case atStart => exact ⟨0, by omega, rfl, fun i hi => by omega, Below.refl _ _⟩
      case round =>
        obtain ⟨j, hj, rfl, hno, hbx⟩ := hrel
        have HNO := hide hno
        have HBX := hide hbx
        clear hno hbx
        by_cases hjl : j < 8
        · have HLP := hide (show Wd.leftP G j = ((G j).there && !(G j).done) from rfl)
          generalize Wd.mkS (G j).body = sb
          cases h1 : (G j).there
          · go_wp2_with (refine wpList_index53 rfl _ _ rfl G rfl j rfl hjl ?_)
            refine ⟨⟨j + 1, by omega, by go_num, fun i hi => ?_, HBX.out.alloc HBX.out.size _⟩, by simp [intOf]; omega⟩
            by_cases e : i = j
            · subst e; rw [HLP.out, h1]; rfl
            · exact HNO.out i (by omega)
          · cases h2 : (G j).done
            · go_wp2_with (refine wpList_index53 rfl _ _ rfl G rfl j rfl hjl ?_)
              go_ret
              have hx := HPB.out _ (HBX.out.alloc HBX.out.size (.cells #[.bool (G j).there, .string (Wd.mkS (G j).body), .bool (G j).done, .bool (G j).fits, .string (Wd.mkS (G j).text)] 125))
              rw [h1, h2] at hx
              refine ⟨?_, ?_, hx.2⟩
              · rw [HGQ.out, Wd.left, Wd.first_yes hjl (by rw [HLP.out, h1, h2]; rfl) HNO.out]; rfl
              · rw [HGQ.out]; exact hx.1
            · go_wp2_with (refine wpList_index53 rfl _ _ rfl G rfl j rfl hjl ?_)
              refine ⟨⟨j + 1, by omega, by go_num, fun i hi => ?_, HBX.out.alloc HBX.out.size _⟩, by simp [intOf]; omega⟩
              by_cases e : i = j
              · subst e; rw [HLP.out, h1, h2]; rfl
              · exact HNO.out i (by omega)
        · go_wp2
          go_ret
          have hx := HPB.out _ HBX.out
          refine ⟨?_, by rw [HGQ.out]; exact hx.1, hx.2⟩
          rw [HGQ.out, Wd.left, Wd.first_no (fun i hi => HNO.out i (by omega))]; rfl
end Go.Proofs.Ytecmfdkhcffpmab
/- Contract of the program's 'unfoldItems'. -/
namespace Go.Proofs.Ytecmfdkhcffpmab
open Go.RowKit
set_option linter.unusedSimpArgs false
set_option linter.unusedVariables false
set_option maxHeartbeats 800000

theorem Try.info31 : (Try.prog.info? 69).map (fun i => (i.zero, i.size, i.bytes)) = some (some (.agg #[.bool false, .string ByteArray.empty]), 2, 24) := by kernel_rfl

/-- What 'unfoldItems' leaves: the items in memory of their own; or the number of the first that does not fit. -/
def ItPost (w : World) (r : Except Nat (List Wd.It)) (e : Ending) (w' : World) : Prop :=
  Below w.heap.size w w' ∧ (match r with
    | .ok its => ∃ g cap, e = .returned (.tuple #[.slice (some ⟨g, 0, none⟩) its.length cap, .int .i64 (-1)]) ∧ w'.ownsRow w.heap.size 69 2 (.slice (some ⟨g, 0, none⟩) its.length cap) its.length (Wd.itsV its)
    | .error n => e = .returned (.tuple #[.slice none 0 0, .int .i64 (n : Int)]))

theorem itemsFrom_step (F : Nat → Wd.Fn) (ps : List Wd.Part) (acc : List Wd.It) (k : Nat) (hk : k < ps.length) : Wd.itemsFrom F (ps.drop k) acc =
    if Wd.up (ps[k]).letter = true then Wd.itemsFrom F (ps.drop (k + 1)) acc
    else match Wd.unfold F (ps[k]).body with
      | some x => Wd.itemsFrom F (ps.drop (k + 1)) (acc ++ [⟨(ps[k]).letter == 104, x⟩])
      | none => .error acc.length := by
  rw [List.drop_eq_getElem_cons hk]; rfl

set_option maxRecDepth 100000 in
set_option maxHeartbeats 3000000 in
theorem unfoldItems_any (ps : List Wd.Part) (F : Nat → Wd.Fn) (b : Nat) (w : World) (hps : ∀ p ∈ ps, p.fine) (hpl : ps.length ≤ 10000) (hF : Wd.FnFine F) (hpg : PgR w b ps F) :
    Calls Try.prog 64 #[.pointer (some ⟨b, 0, none⟩)] w (ItPost w (Wd.items F ps)) := by
  obtain ⟨v, hh, hown, _⟩ := hpg
  obtain ⟨ao, cap, rfl, hnc, hcap, hcell⟩ := own_three hown
  obtain ⟨i0, hi, hz0, hz1, hz2⟩ := info_parts Try.info31
  unfold maxLen at hcap
  have c0 : w.cell? ⟨b, 0, none⟩ = some (.slice ao ps.length cap) := row_cell hh rfl
  have c0' : ∀ o, (w.alloc o).cell? ⟨b, 0, none⟩ = some (.slice ao ps.length cap) := fun o => by rw [World.cell?_alloc_past _ _ _ (row_lt hh)]; exact c0
  have HH := hide hh
  have HCL := hide hcell
  have HPS := hide hps
  have HF := hide hF
  clear hh hown hcell hps hF
  have hr0 : Hid (Wd.items F ps = Wd.itemsFrom F (ps.drop 0) []) := rfl
  generalize hr : Wd.items F ps = r at *
  clear hr
  go_enter Try.func64, Try.ntmps64
  go_wp2
  have s0 : (w.alloc (.cells #[] 69)).ownsRow w.heap.size 69 2 (.slice (some ⟨w.heap.size, 0, none⟩) 0 0) 0 [] := World.ownsRow_made w #[] 0 (Nat.le_refl _) (by unfold maxLen; omega) rfl
  have s1 : Below w.heap.size w (w.alloc (.cells #[] 69)) := (Below.refl _ _).alloc (Nat.le_refl _) _
  generalize w.alloc (.cells #[] 69) = W at *
  go_loopw [4, 15] (fun a b wr => ∃ (k : Nat) (acc : List Wd.It) (g cp : Nat), k ≤ ps.length ∧ b = .int .i64 k ∧ acc.length ≤ k ∧ a = .slice (some ⟨g, 0, none⟩) acc.length cp ∧ wr.ownsRow w.heap.size 69 2 (.slice (some ⟨g, 0, none⟩) acc.length cp) acc.length (Wd.itsV acc) ∧ r = Wd.itemsFrom F (ps.drop k) acc ∧ Below w.heap.size w wr) (fun _ b _ => ps.length - (intOf b).toNat)
  case atStart => exact ⟨0, [], w.heap.size, 0, Nat.zero_le _, rfl, by simp, rfl, s0, hr0.out, s1⟩
  case round =>
    clear s0 s1 c0 c0' hr0
    obtain ⟨k, acc, g0, cp, hk, rfl, hal, rfl, hO, hr, hbe⟩ := hrel
    have HO := hide hO
    have HR := hide hr
    have HB := hide hbe
    clear hO hr hbe
    by_cases hlt : k < ps.length
    · have HST := hide (itemsFrom_step F ps acc k hlt)
      obtain ⟨g, rfl, hg, q0, q1, q2⟩ := HCL.out k hlt
      obtain ⟨b0, b1, b2, b3⟩ := HPS.out ps[k] (List.getElem_mem hlt)
      have d0 := (HB.out.cell (p := ⟨g, k * 3, none⟩) hg).trans q0
      have d1 := (HB.out.cell (p := ⟨g, k * 3 + 1, none⟩) hg).trans q1
      have d2 := (HB.out.cell (p := ⟨g, k * 3 + 2, none⟩) hg).trans q2
      have HBR := hide (below_row HB.out HH.out)
      clear q0 q1 q2
      generalize ps[k] = p at *
      obtain ⟨letter, pos, body⟩ := p
      simp only at b0 b1 b2 b3 d0 d1 d2 HST
      have hbs : (Wd.mkS body).size ≤ 10000 := by rw [Wd.mkS_size]; exact b3
      have HML : Hid ((Wd.mkS body).data.toList = body) := rfl
      generalize Wd.mkS body = sb at *
      have HB2 : Hid ((wr.alloc (.cells #[.int .u8 letter, .int .i64 (pos : Int), .string sb] 154)).heap[b]? = some (.cells (Wd.pgA (.slice (some ⟨g, 0, none⟩) ps.length cap) F) 128 (0, 0))) := by
        apply hide; rw [heap_alloc_old _ _ (row_lt HBR.out)]; exact HBR.out
      cases hu : Wd.up letter
      · have HE : Hid (r = match Wd.unfold F body with | some x => Wd.itemsFrom F (ps.drop (k + 1)) (acc ++ [⟨letter == 104, x⟩]) | none => .error acc.length) := by
          apply hide; rw [HR.out, HST.out, hu]; rfl
        go_wp2_with (go_at_call 80; refine (isFunction_any _ _ b0 b1).mono ?_; rw [hu]; rintro e w' ⟨rfl, rfl⟩)
        have HN := hide (heap_alloc_last wr (.cells #[.int .u8 letter, .int .i64 (pos : Int), .string sb] 154))
        have HO2 := hide (HO.out.alloc (.cells #[.int .u8 letter, .int .i64 (pos : Int), .string sb] 154))
        have HB3 : Hid (Below w.heap.size w (wr.alloc (.cells #[.int .u8 letter, .int .i64 (pos : Int), .string sb] 154))) := HB.out.alloc HB.out.size _
        generalize wr.alloc (.cells #[.int .u8 letter, .int .i64 (pos : Int), .string sb] 154) = W1 at *
        generalize wr.heap.size = N at *
        have HX := unfold_any sb F _ b W1 hbs (fun j => (HF.out j).1) HB2.out
        rw [HML.out] at HX
        cases hq : Wd.unfold F body with
        | none =>
          rw [hq] at HX HE
          clear hq
          refine HX.mono ?_
          rintro e w2 ⟨hb2, rfl⟩
          have HB4 := hide (HB3.out.trans (hb2.mono HB3.out.size))
          clear hb2 HX
          go_wp2_with fail
          go_ret2
          rw [HE.out]
          exact ⟨HB4.out, rfl⟩
        | some x =>
          rw [hq] at HX HE
          clear hq
          refine HX.mono ?_
          rintro e w2 ⟨hb2, rfl⟩
          have HB4 := hide (HB3.out.trans (hb2.mono HB3.out.size))
          have n0 : w2.cell? ⟨N, 0, none⟩ = some (.int .u8 letter) := row_cell (below_row hb2 HN.out) rfl
          have HO3 : Hid (w2.ownsRow w.heap.size 69 2 (.slice (some ⟨g0, 0, none⟩) acc.length cp) acc.length (Wd.itsV acc)) := HO2.out.kept ⟨hb2.os, hb2.tape, hb2.output, hb2.size, fun q hq _ => hb2.block q hq⟩ (row := none) (Or.inr (by simp [Value.ownBlock]))
          clear hb2 HX
          have n0' : ∀ o, (w2.alloc o).cell? ⟨N, 0, none⟩ = some (.int .u8 letter) := fun o => by rw [World.cell?_alloc_past _ _ _ (World.block_lt_of_cell? w2 _ n0)]; exact n0
          go_wp2_with (at_builtin; refine wpList_append_own _ rfl _ _ 65 rfl w.heap.size 69 i0 (.agg #[.bool false, .string ByteArray.empty]) 2 24 Try.underlying65 hi hz0 hz1 hz2 rfl (by decide) _ _ _ rfl (HO3.out.alloc _) ⟨_, 0, none⟩ 1 1 [.bool (letter == 104), .string (Wd.mkS x)] rfl rfl (cell_two_new _ _ _ _) (fun y hy => by simp at hy; rcases hy with rfl | rfl <;> rfl) (by unfold maxLen; omega) (by omega) (by have := HB4.out.size; simp; omega) ?_; intro v' w3 hown' hgrow3 hnil3; obtain ⟨g', cap', rfl⟩ := own_some hown' (fun e => by have h9 := (hnil3.1 e).1; cases h9); have HG := hide hgrow3; have HW := hide hown'; clear hgrow3 hown' hnil3)
          refine ⟨⟨k + 1, acc ++ [⟨letter == 104, x⟩], g', cap', by omega, by go_num, by simp; omega, by simp, ?_, HE.out, (HB4.out.alloc HB4.out.size _).grown HG.out (by have := HB4.out.size; simp; omega) (fun q hq => (HO3.out.lt q hq).1)⟩, by simp [intOf]; omega⟩
          rw [Wd.itsV_snoc, List.length_append]
          exact HW.out
      · have HE : Hid (r = Wd.itemsFrom F (ps.drop (k + 1)) acc) := by
          apply hide; rw [HR.out, HST.out, hu]; rfl
        go_wp2_with (go_at_call 80; refine (isFunction_any _ _ b0 b1).mono ?_; rw [hu]; rintro e w' ⟨rfl, rfl⟩)
        refine ⟨⟨k + 1, acc, g0, cp, by omega, by go_num, by omega, rfl, HO.out.alloc _, HE.out, HB.out.alloc HB.out.size _⟩, by simp [intOf]; omega⟩
    · go_wp2
      go_ret2
      rw [HR.out, List.drop_of_length_le (by omega)]
      exact ⟨HB.out, g0, cp, rfl, HO.out⟩
end Go.Proofs.Ytecmfdkhcffpmab
/- Contracts of the program's 'read', 'Check', 'Unfold'. -/
namespace Go.Proofs.Ytecmfdkhcffpmab
open Go.RowKit
set_option linter.unusedSimpArgs false
set_option linter.unusedVariables false
set_option maxHeartbeats 800000

/-- What 'read' leaves: the items in memory of their own; or the error and its place. -/
def ReadPost (w : World) (r : Except (Int × Int) (List Wd.It)) (e : Ending) (w' : World) : Prop :=
  Below w.heap.size w w' ∧ (match r with
    | .ok its => ∃ g cap, e = .returned (.tuple #[.slice (some ⟨g, 0, none⟩) its.length cap, .int .i64 0, .int .i64 0]) ∧ w'.ownsRow w.heap.size 69 2 (.slice (some ⟨g, 0, none⟩) its.length cap) its.length (Wd.itsV its)
    | .error x => e = .returned (.tuple #[.slice none 0 0, .int .i64 x.1, .int .i64 x.2]))

set_option maxRecDepth 100000 in
set_option maxHeartbeats 3000000 in
theorem read_any (s : ByteArray) (w : World) (hs : s.size ≤ maxLen) :
    Calls Try.prog 48 #[.string s] w (ReadPost w (Wd.readP s.data.toList)) := by
  unfold maxLen at hs
  by_cases hbig : 240 < s.size
  · rw [Wd.readP_long (l := s.data.toList) (by rw [Wd.len_str]; exact hbig)]
    go_enter Try.func48, Try.ntmps48
    go_wp2
    go_ret3
    exact ⟨Below.refl _ _, rfl⟩
  · have hl : ¬ 240 < s.data.toList.length := by rw [Wd.len_str]; exact hbig
    have HL := hide hl
    clear hl
    have HR : Hid (∀ x, Wd.readP s.data.toList = x → Wd.readP s.data.toList = x) := fun _ h => h
    generalize hr : Wd.readP s.data.toList = r at HR ⊢
    have HRR := hide hr
    clear HR hr
    go_enter Try.func48, Try.ntmps48
    go_wp2_with fail
    refine (faultOfText_any s _ (by omega)).mono ?_
    cases hp : Wd.fault s.data.toList with
    | some i =>
      rintro e w1 ⟨rfl, hb1⟩
      have HB1 := hide hb1
      have HC := hide (Wd.readP_text HL.out hp)
      have hne : ((i : Int) != -1) = true := by rw [bne_iff_ne]; omega
      clear hb1 hp
      simp only [Wd.toInt]
      go_wp2_with fail
      go_ret3
      rw [← HRR.out, HC.out]
      exact ⟨HB1.out, rfl⟩
    | none =>
      rintro e w1 ⟨rfl, hb1⟩
      have HB1 := hide hb1
      have HP1 := hide hp
      clear hb1 hp
      simp only [Wd.toInt]
      go_wp2_with fail
      refine (split_any s _ (by omega)).mono ?_
      rintro e w2 ⟨v, rfl, hown2, hb2⟩
      have HB2 := hide (HB1.out.trans (hb2.mono HB1.out.size))
      have HO2 := hide hown2
      clear hb2 hown2 HB1
      obtain ⟨ao, cap, hv⟩ : ∃ ao cap, v = .slice ao (Wd.split s.data.toList).ps.length cap := by
        rcases HO2.out.2 with ⟨h1, h2⟩ | ⟨g, cap, cur, h1, _⟩
        · exact ⟨none, 0, by rw [h1, h2]⟩
        · exact ⟨_, _, h1⟩
      have HV := hide hv
      clear hv
      obtain ⟨hpf, hff⟩ := Wd.splitTo_fine s.data.toList (by rw [Wd.len_str]; omega) s.data.toList.length (by rw [Wd.len_str]; omega)
      have hpl := Wd.splitTo_len s.data.toList s.data.toList.length
      rw [show Wd.splitTo s.data.toList s.data.toList.length = Wd.split s.data.toList from rfl] at hpf hff hpl
      rw [Wd.len_str] at hpl
      have HPF := hide hpf
      have HFF := hide hff
      clear hpf hff
      go_wp2_with (first | (refine wpList_alloc55 rfl rfl ?_) | (refine wpList_store_row rfl 128 _ _ rfl _ _ rfl rfl 128 _ (heap_alloc_last _ _) Try.i55 rfl (by rw [HV.out]; exact pgA_one _ _ _ _) ?_))
      have HPG : Hid (PgR ((w2.alloc (.cells (Wd.pgA (.slice none 0 0) fun _ => Wd.fn0) 128)).setRow w2.heap.size (Wd.pgA v (Wd.split s.data.toList).F)) w2.heap.size (Wd.split s.data.toList).ps (Wd.split s.data.toList).F) := by
        refine ⟨v, setRow_heap _ _ _ _ _ _ (heap_alloc_last _ _), ?_, fun g hg => (HO2.out.lt g hg).2⟩
        obtain ⟨a1, a2⟩ := HO2.out
        refine ⟨a1, ?_⟩
        rcases a2 with a2 | ⟨g, cap, cur, hv, hg, hh, r⟩
        · exact .inl a2
        · have := row_lt hh
          exact .inr ⟨g, cap, cur, hv, Nat.zero_le _, by rw [setRow_other _ _ _ _ (by omega), heap_alloc_old _ _ this]; exact hh, r⟩
      have HB3 : Hid (Below w.heap.size w ((w2.alloc (.cells (Wd.pgA (.slice none 0 0) fun _ => Wd.fn0) 128)).setRow w2.heap.size (Wd.pgA v (Wd.split s.data.toList).F))) :=
        below_setRow (HB2.out.alloc HB2.out.size _) HB2.out.size _
      have hwb : w.heap.size ≤ w2.heap.size := HB2.out.size
      generalize (w2.alloc (.cells (Wd.pgA (.slice none 0 0) fun _ => Wd.fn0) 128)).setRow w2.heap.size (Wd.pgA v (Wd.split s.data.toList).F) = W at *
      generalize w2.heap.size = b at *
      refine (faultOfNames_any _ _ b W HPF.out (by omega) HPG.out).mono ?_
      cases hp : Wd.names (Wd.split s.data.toList).F (Wd.split s.data.toList).ps with
      | some i =>
        rintro e w3 ⟨rfl, hb3⟩
        have HB4 := hide (HB3.out.trans (hb3.mono HB3.out.size))
        have HC := hide (Wd.readP_name HL.out HP1.out hp)
        have hne : ((i : Int) != -1) = true := by rw [bne_iff_ne]; omega
        clear hb3 hp
        simp only [Wd.toInt]
        go_wp2_with fail
        go_ret3
        rw [← HRR.out, HC.out]
        exact ⟨HB4.out, rfl⟩
      | none =>
        rintro e w3 ⟨rfl, hb3⟩
        have HB4 := hide (HB3.out.trans (hb3.mono HB3.out.size))
        have HPG3 := hide (HPG.out.below hb3)
        have HP2 := hide hp
        clear hb3 hp HB3 HPG
        simp only [Wd.toInt]
        go_wp2_with fail
        refine (unfoldFunctions_any _ _ b w3 HFF.out HPG3.out).mono ?_
        cases hp : Wd.left (Wd.roundsTo (Wd.split s.data.toList).F 8) with
        | true =>
          rintro e w4 ⟨rfl, hp4, hb4⟩
          have HB5 := hide (HB4.out.trans (hb4.mono hwb))
          have HC := hide (Wd.readP_round HL.out HP1.out HP2.out hp)
          clear hb4 hp hp4
          go_wp2_with fail
          go_ret3
          rw [← HRR.out, HC.out]
          exact ⟨HB5.out, rfl⟩
        | false =>
          rintro e w4 ⟨rfl, hp4, hb4⟩
          have HB5 := hide (HB4.out.trans (hb4.mono hwb))
          have HPG4 := hide hp4
          have HP3 := hide hp
          clear hb4 hp hp4
          go_wp2_with fail
          have HX := unfoldItems_any _ _ b w4 HPF.out (by omega) (Wd.roundsTo_fine HFF.out 8) HPG4.out
          cases hq : Wd.items (Wd.roundsTo (Wd.split s.data.toList).F 8) (Wd.split s.data.toList).ps with
          | error n =>
            rw [hq] at HX
            have HC := hide (Wd.readP_big HL.out HP1.out HP2.out HP3.out hq)
            have hne : ((n : Int) != -1) = true := by rw [bne_iff_ne]; omega
            clear hq
            refine HX.mono ?_
            rintro e w5 ⟨hb5, rfl⟩
            have HB6 := hide (HB5.out.trans (hb5.mono HB5.out.size))
            clear hb5 HX
            go_wp2_with fail
            go_ret3
            rw [← HRR.out, HC.out]
            exact ⟨HB6.out, rfl⟩
          | ok its =>
            rw [hq] at HX
            have HC := hide (Wd.readP_ok HL.out HP1.out HP2.out HP3.out hq)
            clear hq
            refine HX.mono ?_
            rintro e w5 ⟨hb5, g, cp, rfl, hown⟩
            have HB6 := hide (HB5.out.trans (hb5.mono HB5.out.size))
            have HO6 := hide (own_mono hown HB5.out.size)
            clear hb5 hown HX
            go_wp2_with fail
            go_ret3
            rw [← HRR.out, HC.out]
            exact ⟨HB6.out, g, cp, rfl, HO6.out⟩

end Go.Proofs.Ytecmfdkhcffpmab
