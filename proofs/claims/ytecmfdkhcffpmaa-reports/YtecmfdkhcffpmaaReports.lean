/- For every text, wardenlaw.Reports returns true: the program's Analyse answers with the document's reports, in order, or its error, each time anew; what came out first is the caller's (P8, P10, P2). No condition. -/
import Derived.Test.YtecmfdkhcffpmaaRows
import Derived.Test.YtecmfdkhcffpmaaB52
import Derived.ProofKit
import Derived.OpenShut
import Derived.ShutString
namespace Go.Proofs.Ytecmfdkhcffpmaa
open Go.ChangeShapes Go.WideShapes Go.ChangeAt Go.RowKit
open Go.ChangeMaps (open_string shut_string)
open Mc
set_option linter.unusedSimpArgs false
set_option linter.unusedVariables false

theorem Try.ownKnobReports : ownKnob Try.prog.godebug = none := by kernel_rfl

theorem own_otherReports {w w' : World} {base : Nat} {e : TypeId} {size : Nat} {v : Value} {n : Nat} {xs : List Value} (h : w.ownsRow base e size v n xs) (g : Nat) (hb : ∀ b, b ≠ g → w'.heap[b]? = w.heap[b]?) (hv : v.ownBlock ≠ some g) : w'.ownsRow base e size v n xs := by
  obtain ⟨a1, a2⟩ := h
  refine ⟨a1, ?_⟩
  rcases a2 with a2 | ⟨g', cap, cur, hv', hg, hh, r⟩
  · exact .inl a2
  · refine .inr ⟨g', cap, cur, hv', hg, ?_, r⟩
    rw [hb g' (fun e => hv (by rw [hv', e]; rfl))]; exact hh

theorem reports_len (its : List Wd.It) (hf : Fine its) : (analyseS its).length ≤ 30000 := by
  have a1 := solos_len (fndP its) (lenD its) its.length 5 (fun i hi => by have := hf.short i hi; unfold lenD; omega)
  rw [soloS_doc its hf] at a1
  have a2 := ringL_len (fwK (edgeS its) 6) 6
  have a3 : (raceS its).length ≤ 4 := by rw [← raceL_doc its hf]; exact raceL_len _ 4
  have a4 : 5 * (its.length * 301) ≤ 5 * (8 * 301) := Nat.mul_le_mul (by omega) (Nat.mul_le_mul_right _ hf.len)
  unfold analyseS
  rw [List.length_append, List.length_append]
  omega

set_option maxHeartbeats 8000000 in
theorem reports_no (s : ByteArray) (hs : s.size ≤ maxLen) (w : World) (x : Int × Int) (hx : Wd.readP s.data.toList = .error x) (hne : x.1 ≠ 0) :
    Calls Try.prog 7 #[.string s] w fun e w' => e = .returned (.bool true) ∧ Below w.heap.size w w' := by
  have H1 := fun w => danalyse_any s w hs
  have H2 := fun w => wAnalyse_any s w hs
  rw [hx] at H1 H2
  have HH1 := hide H1
  have HH2 := hide H2
  clear H1 H2 hx
  obtain ⟨a, b⟩ := x
  simp only at hne
  have n1 : (a != a) = false := by simp
  have n2 : (a != 0) = true := by rw [bne_iff_ne]; exact hne
  have n3 : (a == a) = true := by simp
  clear hne
  go_enter Try.func7, Try.ntmps7
  go_wp2_with fail
  refine (HH1.out _).mono ?_
  rintro e w1 ⟨hb1, rfl⟩
  have HB1 := hide hb1
  clear hb1
  go_wp2_with fail
  refine (HH2.out _).mono ?_
  rintro e w2 ⟨hb2, rfl⟩
  have HB2 := hide (HB1.out.trans (hb2.mono HB1.out.size))
  clear hb2
  go_wp2_with fail
  refine (HH2.out _).mono ?_
  rintro e w3 ⟨hb3, rfl⟩
  have HB3 := hide (HB2.out.trans (hb3.mono HB2.out.size))
  clear hb3
  go_wp2_with fail
  refine (sameReports_eq [] _ _ _ 0 0 (by simp) (World.ownsRow_nil _ _ _ _) (World.ownsRow_nil _ _ _ _)).mono ?_
  rintro e w4 ⟨rfl, hb4⟩
  have HB4 := hide (HB3.out.trans (hb4.mono HB3.out.size))
  clear hb4
  go_wp2_with fail
  go_loop [10] (fun i => i = .int .i64 0) (fun _ => 0)
  case atStart => exact rfl
  case round =>
    subst hrel
    go_wp2_with fail
    refine (sameReports_eq [] _ _ _ 0 0 (by simp) (World.ownsRow_nil _ _ _ _) (World.ownsRow_nil _ _ _ _)).mono ?_
    rintro e w5 ⟨rfl, hb5⟩
    have HB5 := hide (HB4.out.trans (hb5.mono HB4.out.size))
    clear hb5
    go_wp2_with fail
    go_ret
    exact ⟨rfl, HB5.out⟩

set_option maxRecDepth 100000 in
set_option maxHeartbeats 8000000 in
theorem reports_ok (s : ByteArray) (hs : s.size ≤ maxLen) (w : World) (its : List Wd.It) (hx : Wd.readP s.data.toList = .ok its) :
    Calls Try.prog 7 #[.string s] w fun e w' => e = .returned (.bool true) ∧ Below w.heap.size w w' := by
  have H1 := fun w => danalyse_any s w hs
  have H2 := fun w => wAnalyse_any s w hs
  rw [hx] at H1 H2
  have hlen : (analyseS its).length ≤ 30000 := reports_len its (fine_of hx)
  have HH1 : Hid (∀ w, Calls Try.prog 22 #[.string s] w fun e w' => Below w.heap.size w w' ∧ ∃ ao cc, e = .returned (.tuple #[.slice ao (analyseS its).length cc, .int .i64 0]) ∧ w'.ownsRow w.heap.size 41 3 (.slice ao (analyseS its).length cc) (analyseS its).length ((analyseS its).flatMap rpV)) := hide H1
  have HH2 : Hid (∀ w, Calls Try.prog 21 #[.string s] w fun e w' => Below w.heap.size w w' ∧ ∃ ao cc, e = .returned (.tuple #[.slice ao (analyseS its).length cc, .int .i64 0]) ∧ w'.ownsRow w.heap.size 41 3 (.slice ao (analyseS its).length cc) (analyseS its).length ((analyseS its).flatMap rpV)) := hide H2
  clear H1 H2 hx
  generalize analyseS its = R at *
  go_enter Try.func7, Try.ntmps7
  go_wp2_with fail
  refine (HH1.out _).mono ?_
  rintro e w1 ⟨hb1, a0, c0, rfl, ho0⟩
  have HB1 := hide hb1
  have HO0 := hide ho0
  clear hb1 ho0
  go_wp2_with fail
  refine (HH2.out _).mono ?_
  rintro e w2 ⟨hb2, a1, cap1, rfl, ho1⟩
  have HB2 := hide (HB1.out.trans (hb2.mono HB1.out.size))
  have HO02 := hide (own_below HO0.out hb2)
  have HO1 := hide ho1
  have HS2 : Hid (w1.heap.size ≤ w2.heap.size) := hb2.size
  clear hb2 ho1
  go_wp2_with fail
  refine (HH2.out _).mono ?_
  rintro e w3 ⟨hb3, a2, cap2, rfl, ho2⟩
  have HB3 := hide (HB2.out.trans (hb3.mono HB2.out.size))
  have HO03 := hide (own_below HO02.out hb3)
  have HO13 := hide (own_below HO1.out hb3)
  have HO2 := hide ho2
  clear hb3 ho2
  go_wp2_with fail
  refine (sameReports_eq R _ _ _ _ _ (by omega) HO13.out HO03.out).mono ?_
  rintro e w4 ⟨rfl, hb4⟩
  have HB4 := hide (HB3.out.trans (hb4.mono HB3.out.size))
  have HO04 := hide (own_below HO03.out hb4)
  have HO14 := hide (own_below HO13.out hb4)
  have HO24 := hide (own_below HO2.out hb4)
  have HNE0 : Hid (∀ g, (Value.slice a1 R.length cap1).ownBlock = some g → (Value.slice a0 R.length c0).ownBlock ≠ some g) := hide (fun g h1 h2 => by have := (own_lt0 HO0.out h2).2; have := (own_lt0 HO1.out h1).1; omega)
  have HNE2 : Hid (∀ g, (Value.slice a1 R.length cap1).ownBlock = some g → (Value.slice a2 R.length cap2).ownBlock ≠ some g) := hide (fun g h1 h2 => by have := (own_lt0 HO2.out h2).1; have := (own_lt0 HO1.out h1).2; omega)
  have HWG : Hid (∀ g, (Value.slice a1 R.length cap1).ownBlock = some g → w.heap.size ≤ g) := hide (fun g h1 => by have := HB1.out.size; have := (own_lt0 HO1.out h1).1; omega)
  clear hb4
  have HXL : Hid ((R.flatMap rpV).length = R.length * 3) := HO14.out.1
  go_wp2_with fail
  by_cases h0 : R.length = 0
  · have hR : R = [] := List.length_eq_zero_iff.1 h0
    subst hR
    go_loop [10] (fun i => i = .int .i64 0) (fun _ => 0)
    case atStart => exact rfl
    case round =>
      subst hrel
      go_wp2_with fail
      refine (sameReports_eq [] _ _ _ _ _ (by simp) HO24.out HO04.out).mono ?_
      rintro e w5 ⟨rfl, hb5⟩
      have HB5 := hide (HB4.out.trans (hb5.mono HB4.out.size))
      clear hb5
      go_wp2_with fail
      go_ret
      exact ⟨rfl, HB5.out⟩
  obtain ⟨g1, hg1⟩ : ∃ g1, a1 = some ⟨g1, 0, none⟩ := by
    rcases HO14.out.2 with ⟨e1, e2⟩ | ⟨g, cap, cur, e1, _⟩
    · exact absurd e2 h0
    · injection e1 with e1; exact ⟨g, e1⟩
  subst hg1
  have hg0 := HNE0.out g1 rfl
  have hg12 := HNE2.out g1 rfl
  have hwg := HWG.out g1 rfl
  have hcp : cap1 ≤ maxLen ∧ R.length ≤ cap1 := by
    rcases HO14.out.2 with ⟨e1, e2⟩ | ⟨g, cap, cur, e1, _, _, e2, e3, _⟩
    · exact absurd e2 h0
    · injection e1 with _ _ e1; subst e1; exact ⟨e3, e2⟩
  have HG0 := hide hg0
  have HG12 := hide hg12
  unfold maxLen at hcp
  clear hg0 hg12 HNE0 HNE2 HWG h0
  go_loopw [10] (fun a wr => ∃ (k : Nat) (xs : List Value), k ≤ R.length ∧ a = .int .i64 k ∧ xs.length = R.length * 3 ∧ wr.ownsRow w1.heap.size 41 3 (.slice (some ⟨g1, 0, none⟩) R.length cap1) R.length xs ∧ (∀ b, b ≠ g1 → wr.heap[b]? = w4.heap[b]?) ∧ Below w.heap.size w wr) (fun a _ => R.length - (intOf a).toNat)
  case atStart => exact ⟨0, R.flatMap rpV, Nat.zero_le _, rfl, HXL.out, HO14.out, fun _ _ => rfl, HB4.out⟩
  case round =>
    obtain ⟨k, xs, hk, rfl, hxl, hO, hbl, hbe⟩ := hrel
    have HO := hide hO
    have HBL := hide hbl
    have HB := hide hbe
    have HXL' := hide hxl
    by_cases hlt : k < R.length
    · have hx0 : k * 3 < xs.length := by omega
      have d0 := (HO.out.cellAt (k * 3) (by omega)).trans (List.getElem?_eq_getElem hx0)
      have f0 := HO.out.frozenAt (k * 3)
      generalize xs[k * 3] = u0 at *
      have hx1 : k * 3 + 1 < xs.length := by omega
      have d1 := (HO.out.cellAt (k * 3 + 1) (by omega)).trans (List.getElem?_eq_getElem hx1)
      have f1 := HO.out.frozenAt (k * 3 + 1)
      generalize xs[k * 3 + 1] = u1 at *
      have hx2 : k * 3 + 2 < xs.length := by omega
      have d2 := (HO.out.cellAt (k * 3 + 2) (by omega)).trans (List.getElem?_eq_getElem hx2)
      have f2 := HO.out.frozenAt (k * 3 + 2)
      generalize xs[k * 3 + 2] = u2 at *
      clear hxl hO hbl hbe
      go_wp2_with fail
      refine ⟨⟨k + 1, (((xs.set (k * 3) (.int .i64 9)).set (k * 3 + 1) (.int .i64 9)).set (k * 3 + 2) (.int .i64 9)), by omega, by go_num, by simp [HXL'.out], (((HO.out.stored _ _).1.stored _ _).1.stored _ _).1, ?_, (((HB.out.setCell (p := ⟨g1, k * 3, none⟩) hwg _).setCell (p := ⟨g1, k * 3 + 1, none⟩) hwg _).setCell (p := ⟨g1, k * 3 + 2, none⟩) hwg _)⟩, by simp [intOf]; omega⟩
      intro b hb
      rw [heap_setCell_other _ _ _ _ hb, heap_setCell_other _ _ _ _ hb, heap_setCell_other _ _ _ _ hb]; exact HBL.out b hb
    · clear hxl hO hbl hbe
      go_wp2_with fail
      refine (sameReports_eq R _ _ _ _ _ (by omega) (own_otherReports HO24.out g1 HBL.out HG12.out) (own_otherReports HO04.out g1 HBL.out HG0.out)).mono ?_
      rintro e w5 ⟨rfl, hb5⟩
      have HB5 := hide (HB.out.trans (hb5.mono HB.out.size))
      clear hb5
      go_wp2_with fail
      go_ret
      exact ⟨rfl, HB5.out⟩

theorem reports_walk (s : ByteArray) (hs : s.size ≤ maxLen) (w : World) :
    Calls Try.prog 7 #[.string s] w fun e w' => e = .returned (.bool true) ∧ Below w.heap.size w w' := by
  cases hx : Wd.readP s.data.toList with
  | error x => exact reports_no s hs w x hx (Wd.readP_err hx)
  | ok its => exact reports_ok s hs w its hx

set_option maxRecDepth 100000 in
theorem reports_lifted (os : Os) (started : os.Started) (H : Type) (enc : TypeId × Value → H) :
    ReturnsInHanded {} Try.checked os 7 .any (Rows.reportsSpec.pre6 enc Try.prog Try.f7 Rows.reportsRow.domain false) (Rows.reportsSpec.post enc Try.prog Try.f7 false true false false) := by
  refine returnsInHanded_of_change (C := Try.checked) Try.ownKnobReports started (by kernel_rfl) Try.func7
    (ChangeSpec.witness6 (enc := enc) (C := Try.checked) false ⟨#[], #[.string ByteArray.empty], []⟩ 8 (by kernel_rfl) (by kernel_rfl) (by kernel_rfl) (by kernel_rfl)) ?_
  intro W base args ds gs before hval0 hW hcnd _
  have hval : ∀ (j : Nat) t v, Try.f7.params[j]? = some t → args[j]? = some v → Value.okWide Try.prog W .any base t v := hval0
  have hW' := hW
  obtain ⟨p, q, hA0, hV, rfl, hfz, hnd⟩ := hW
  have hA : DataW.TrodAll enc Try.prog W 0 (fun _ => true) true Try.f7.params.toList args.toList ds p := hA0
  rw [Try.params7] at hA hval
  obtain ⟨v0, vs0, d0, ds0, p0, q0, hargs, rfl, rfl, h0, r0⟩ := trodAll_cons hA
  obtain ⟨rfl, rfl, rfl⟩ := trodAll_nil r0
  obtain rfl : args = #[v0] := by cases args; simp_all
  obtain ⟨rfl, rfl⟩ := trodVars_none hV
  obtain ⟨a0, rfl, rfl, rfl, w0⟩ := open_string Try.underlying9 (hval 0 9 v0 rfl rfl) h0
  clear hA0 hval0
  simp only [List.append_nil] at hW'
  refine (reports_walk a0 w0 W).mono fun e W' ⟨he, hg⟩ => ?_
  subst he
  refine ⟨_, rfl, _, _, _, [], [], [], hW', ?_, ?_, ?_, hg.frame _, fun h => by cases h⟩
  · exact trodAll_cons_mk (shut_bool Try.underlying4 _) trodAll_mk0
  · exact trodAll_cons_mk (shut_string Try.underlying9 w0) trodAll_mk0
  · rfl

theorem reports_holds : Rows.ReportsSaid :=
  OpenClaim.holds_of_wide 7 Try.f7 rfl rfl rfl rfl rfl rfl rfl ⟨rfl, rfl, rfl, rfl, rfl⟩ rfl rfl rfl rfl rfl (by kernel_rfl) Try.func7 (by kernel_rfl)
    (of_decide_eq_true (by kernel_rfl)) (by unfold Func.isWrapper; first | (rw [if_pos (by decide +kernel)]; kernel_rfl) | (rw [if_neg (by decide +kernel)]; exact ⟨rfl, rfl⟩))
    (fun os started H enc _ => reports_lifted os started H enc)
#print axioms reports_holds
end Go.Proofs.Ytecmfdkhcffpmaa
