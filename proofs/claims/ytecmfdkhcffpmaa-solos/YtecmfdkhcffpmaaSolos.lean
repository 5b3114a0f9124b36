/- For every text, wardenlaw.Solos returns true: of the program's reports those of items by themselves are the document's, in order; the error is the document's (P7, P8). No condition. -/
import Derived.Test.YtecmfdkhcffpmaaRows
import Derived.Test.YtecmfdkhcffpmaaB52
import Derived.ProofKit
import Derived.OpenShut
import Derived.ShutString
namespace Go.Proofs.Ytecmfdkhcffpmaa
open Go.ChangeShapes Go.WideShapes Go.ChangeAt Go.RowKit
open Go.ChangeMaps (open_string shut_string)
open Mc
set_option linter.unusedSimpArgs false
set_option linter.unusedVariables false

theorem Try.ownKnobSolos : ownKnob Try.prog.godebug = none := by kernel_rfl

def inK (r : Rp) : Bool := decide (1 ≤ r.1) && decide (r.1 ≤ 5)
theorem only_take (R : List Rp) (k : Nat) (r : Rp) (h : R[k]? = some r) : (R.take (k + 1)).filter inK = (R.take k).filter inK ++ (if inK r = true then [r] else []) := by
  rw [List.take_add_one, h, List.filter_append]
  congr 1
  cases hq : inK r <;> simp [List.filter, hq]
set_option maxRecDepth 100000 in
set_option maxHeartbeats 8000000 in
theorem only_any (R : List Rp) (v : Value) (w : World) (b : Nat) (hl : R.length ≤ 100000) (h1 : w.ownsRow b 41 3 v R.length (R.flatMap rpV)) :
    Calls Try.prog 23 #[v, .int .i64 1, .int .i64 5] w fun e w' => ∃ ao cc, e = .returned (.slice ao (R.filter inK).length cc) ∧ RepI w w' (.slice ao (R.filter inK).length cc) (R.filter inK) := by
  have HO1 := hide h1
  obtain ⟨ao0, cap1, rfl⟩ := own_v h1
  clear h1
  have HR0 := hide (RepI.nil w)
  obtain ⟨i0, hj0, hz0, hz1, hz2⟩ := info_parts Try.infoRep
  go_enter Try.func23, Try.ntmps23
  go_wp2
  go_loopw [7, 8] (fun a c wr => ∃ (k : Nat) (X : List Rp), k ≤ R.length ∧ c = .int .i64 k ∧ X = (R.take k).filter inK ∧ RepI w wr a X) (fun _ c _ => R.length - (intOf c).toNat)
  case atStart => exact ⟨0, [], Nat.zero_le _, rfl, by simp, HR0.out⟩
  case round =>
    clear HR0
    obtain ⟨k, X, hk, rfl, hX, hr⟩ := hrel
    have HR := hide hr
    have HX := hide hX
    clear hr hX
    obtain ⟨ao, cc, hv⟩ := own_v HR.out.own
    subst hv
    by_cases hlt : k < R.length
    · obtain ⟨r, hrk⟩ : ∃ r, R[k]? = some r := ⟨R[k], List.getElem?_eq_getElem hlt⟩
      obtain ⟨g1, c1, hv1, _, hg1, _, _, hr1⟩ := own_el rpV_len HO1.out hrk
      cases hv1
      have d0 := (HR.out.b.cell (p := ⟨g1, k * 3, none⟩) hg1).trans (hr1 0 _ rfl)
      have d1 := (HR.out.b.cell (p := ⟨g1, k * 3 + 1, none⟩) hg1).trans (hr1 1 _ rfl)
      have d2 := (HR.out.b.cell (p := ⟨g1, k * 3 + 2, none⟩) hg1).trans (hr1 2 _ rfl)
      have HT := hide (only_take R k r hrk)
      have hXl : X.length ≤ 100000 := by have h2 := List.length_filter_le inK (R.take k); have h3 : (R.take k).length ≤ R.length := by simp; omega
                                         rw [HX.out]; omega
      have hk0 : (0 : Int) ≤ (k : Int) := by omega
      have hsz := HR.out.b.size
      clear hr1 hrk
      by_cases h1 : 1 ≤ r.1
      · by_cases h5 : r.1 ≤ 5
        · have HIK : Hid (inK r = true) := hide (by simp [inK, h1, h5])
          go_wp2_with (first | (at_builtin; refine wpList_push (f := rpV) rpV_len rfl _ _ 35 rfl w.heap.size 41 i0 _ 24 Try.underlying35 hj0 hz0 hz1 hz2 rfl (by decide) _ X r rfl ⟨_, 0, none⟩ rfl ?_ ?_ ?_ ?_ ?_ ?_ ?_; (exact HR.out.own.alloc _); (exact newsL _ _ _); (intro x hx; simp [rpV] at hx; rcases hx with rfl | rfl | rfl <;> rfl); (unfold maxLen; omega); (omega); (simp; omega); intro ao' cc' w5 hown' hbel' hsame' hat'; have HO5 := hide hown'; have HBL5 := hide hbel'; clear hown' hbel' hsame' hat'))
          go_round
          case measure => simp [intOf]; omega
          case rel => exact ⟨k + 1, _, by omega, by go_num, by rw [HT.out, if_pos HIK.out, ← HX.out], HR.out.push HO5.out HBL5.out⟩
        · have HIK : Hid (¬ inK r = true) := hide (by simp [inK, h5])
          go_wp2
          go_round
          case measure => simp [intOf]; omega
          case rel => exact ⟨k + 1, X, by omega, by go_num, by rw [HT.out, if_neg HIK.out, List.append_nil]; exact HX.out, HR.out⟩
      · have HIK : Hid (¬ inK r = true) := hide (by simp [inK, h1])
        go_wp2
        go_round
        case measure => simp [intOf]; omega
        case rel => exact ⟨k + 1, X, by omega, by go_num, by rw [HT.out, if_neg HIK.out, List.append_nil]; exact HX.out, HR.out⟩
    · have e : k = R.length := by omega
      subst e
      rw [List.take_length] at HX
      have hX2 := HX.out
      subst hX2
      go_wp2
      go_ret
      exact ⟨ao, cc, rfl, HR.out⟩
theorem solos_lenL (its : List Wd.It) (hf : Fine its) : (analyseS its).length ≤ 30000 := by
  have a1 := solos_len (fndP its) (lenD its) its.length 5 (fun i hi => by have := hf.short i hi; unfold lenD; omega)
  rw [soloS_doc its hf] at a1
  have a2 := ringL_len (fwK (edgeS its) 6) 6
  have a3 : (raceS its).length ≤ 4 := by rw [← raceL_doc its hf]; exact raceL_len _ 4
  have a4 : 5 * (its.length * 301) ≤ 5 * (8 * 301) := Nat.mul_le_mul (by omega) (Nat.mul_le_mul_right _ hf.len)
  unfold analyseS
  rw [List.length_append, List.length_append]
  omega
/-- Either way: one list, one error. -/
theorem solos_ctr (s : ByteArray) (hs : s.size ≤ maxLen) : ∃ (R : List Rp) (er : Int), R.length ≤ 30000 ∧ (∀ w, Calls Try.prog 21 #[.string s] w fun e w' => Below w.heap.size w w' ∧ ∃ v, e = .returned (.tuple #[v, .int .i64 er]) ∧ w'.ownsRow w.heap.size 41 3 v R.length (R.flatMap rpV)) ∧ (∀ w, Calls Try.prog 22 #[.string s] w fun e w' => Below w.heap.size w w' ∧ ∃ v, e = .returned (.tuple #[v, .int .i64 er]) ∧ w'.ownsRow w.heap.size 41 3 v R.length (R.flatMap rpV)) := by
  have H1 := fun w => wAnalyse_any s w hs
  have H2 := fun w => danalyse_any s w hs
  cases hx : Wd.readP s.data.toList with
  | error x =>
    rw [hx] at H1 H2
    refine ⟨[], x.1, by simp, fun w => (H1 w).mono ?_, fun w => (H2 w).mono ?_⟩
    · rintro e w' ⟨hb, rfl⟩; exact ⟨hb, _, rfl, World.ownsRow_nil _ _ _ _⟩
    · rintro e w' ⟨hb, rfl⟩; exact ⟨hb, _, rfl, World.ownsRow_nil _ _ _ _⟩
  | ok its =>
    rw [hx] at H1 H2
    refine ⟨analyseS its, 0, solos_lenL its (fine_of hx), fun w => (H1 w).mono ?_, fun w => (H2 w).mono ?_⟩
    · rintro e w' ⟨hb, ao, cc, rfl, ho⟩; exact ⟨hb, _, rfl, ho⟩
    · rintro e w' ⟨hb, ao, cc, rfl, ho⟩; exact ⟨hb, _, rfl, ho⟩
set_option maxRecDepth 100000 in
set_option maxHeartbeats 8000000 in
theorem solos_walk (s : ByteArray) (hs : s.size ≤ maxLen) (w : World) :
    Calls Try.prog 6 #[.string s] w fun e w' => e = .returned (.bool true) ∧ Below w.heap.size w w' := by
  obtain ⟨R, er, hl, H1, H2⟩ := solos_ctr s hs
  have HH1 := hide H1
  have HH2 := hide H2
  have n3 : (er == er) = true := by simp
  clear H1 H2
  go_enter Try.func6, Try.ntmps6
  go_wp2_with fail
  refine (HH1.out _).mono ?_
  rintro e w1 ⟨hb1, v1, rfl, ho1⟩
  have HB1 := hide hb1
  have HO1 := hide ho1
  clear hb1 ho1
  go_wp2_with fail
  refine (HH2.out _).mono ?_
  rintro e w2 ⟨hb2, v2, rfl, ho2⟩
  have HB2 := hide (HB1.out.trans (hb2.mono HB1.out.size))
  have HO12 := hide (own_below HO1.out hb2)
  have HO2 := hide ho2
  clear hb2 ho2
  go_wp2_with fail
  refine (only_any R v1 _ _ (by omega) HO12.out).mono ?_
  rintro e w3 ⟨a3, c3, rfl, hr3⟩
  have HB3 := hide (HB2.out.trans (hr3.b.mono HB2.out.size))
  have HO23 := hide (own_below HO2.out hr3.b)
  have HR3 := hide hr3.own
  clear hr3
  go_wp2_with fail
  refine (only_any R v2 _ _ (by omega) HO23.out).mono ?_
  rintro e w4 ⟨a4, c4, rfl, hr4⟩
  have HB4 := hide (HB3.out.trans (hr4.b.mono HB3.out.size))
  have HR34 := hide (own_below HR3.out hr4.b)
  have HR4 := hide hr4.own
  clear hr4
  have hfl : (R.filter inK).length ≤ 100000 := by have := List.length_filter_le inK R; omega
  go_wp2_with fail
  refine (sameReports_eq (R.filter inK) _ _ _ _ _ hfl HR34.out HR4.out).mono ?_
  rintro e w5 ⟨rfl, hb5⟩
  have HB5 := hide (HB4.out.trans (hb5.mono HB4.out.size))
  clear hb5
  go_wp2_with fail
  go_ret
  exact ⟨rfl, HB5.out⟩

set_option maxRecDepth 100000 in
theorem solos_lifted (os : Os) (started : os.Started) (H : Type) (enc : TypeId × Value → H) :
    ReturnsInHanded {} Try.checked os 6 .any (Rows.solosSpec.pre6 enc Try.prog Try.f6 Rows.solosRow.domain false) (Rows.solosSpec.post enc Try.prog Try.f6 false true false false) := by
  refine returnsInHanded_of_change (C := Try.checked) Try.ownKnobSolos started (by kernel_rfl) Try.func6
    (ChangeSpec.witness6 (enc := enc) (C := Try.checked) false ⟨#[], #[.string ByteArray.empty], []⟩ 8 (by kernel_rfl) (by kernel_rfl) (by kernel_rfl) (by kernel_rfl)) ?_
  intro W base args ds gs before hval0 hW hcnd _
  have hval : ∀ (j : Nat) t v, Try.f6.params[j]? = some t → args[j]? = some v → Value.okWide Try.prog W .any base t v := hval0
  have hW' := hW
  obtain ⟨p, q, hA0, hV, rfl, hfz, hnd⟩ := hW
  have hA : DataW.TrodAll enc Try.prog W 0 (fun _ => true) true Try.f6.params.toList args.toList ds p := hA0
  rw [Try.params6] at hA hval
  obtain ⟨v0, vs0, d0, ds0, p0, q0, hargs, rfl, rfl, h0, r0⟩ := trodAll_cons hA
  obtain ⟨rfl, rfl, rfl⟩ := trodAll_nil r0
  obtain rfl : args = #[v0] := by cases args; simp_all
  obtain ⟨rfl, rfl⟩ := trodVars_none hV
  obtain ⟨a0, rfl, rfl, rfl, w0⟩ := open_string Try.underlying9 (hval 0 9 v0 rfl rfl) h0
  clear hA0 hval0
  simp only [List.append_nil] at hW'
  refine (solos_walk a0 w0 W).mono fun e W' ⟨he, hg⟩ => ?_
  subst he
  refine ⟨_, rfl, _, _, _, [], [], [], hW', ?_, ?_, ?_, hg.frame _, fun h => by cases h⟩
  · exact trodAll_cons_mk (shut_bool Try.underlying4 _) trodAll_mk0
  · exact trodAll_cons_mk (shut_string Try.underlying9 w0) trodAll_mk0
  · rfl

theorem solos_holds : Rows.SolosSaid :=
  OpenClaim.holds_of_wide 6 Try.f6 rfl rfl rfl rfl rfl rfl rfl ⟨rfl, rfl, rfl, rfl, rfl⟩ rfl rfl rfl rfl rfl (by kernel_rfl) Try.func6 (by kernel_rfl)
    (of_decide_eq_true (by kernel_rfl)) (by unfold Func.isWrapper; first | (rw [if_pos (by decide +kernel)]; kernel_rfl) | (rw [if_neg (by decide +kernel)]; exact ⟨rfl, rfl⟩))
    (fun os started H enc _ => solos_lifted os started H enc)
#print axioms solos_holds
end Go.Proofs.Ytecmfdkhcffpmaa
