/- For all two texts, numbers of processors, scripts, reports and numbers, wardenlaw.All returns true: every call, of two sources in turns, and again, answers as the document does (P1 to P10). No condition. -/
import Derived.Test.YtecmfdkhcffpmaaGreatRows
import Derived.Test.YtecmfdkhcffpmaaGreatB10
import Derived.Test.YtecmfdkhcffpmaaGreatB12
import Derived.Test.YtecmfdkhcffpmaaGreatB33
import Derived.Test.YtecmfdkhcffpmaaGreatB48
import Derived.Test.YtecmfdkhcffpmaaGreatB49
import Derived.Test.YtecmfdkhcffpmaaGreatB53
namespace Go.Proofs.YtecmfdkhcffpmaaGreat
open Go.ChangeShapes Go.WideShapes Go.ChangeAt Go.RowKit
open Go.ChangeMaps (open_string shut_string)
set_option linter.unusedVariables false

theorem Tryz.ownA : ownKnob Tryz.prog.godebug = none := by kernel_rfl
set_option maxHeartbeats 8000000 in
theorem DN (s : ByteArray) (au : Int) (t : ByteArray) (K I P k : Int) (hs : s.size ≤ maxLen) (ht : t.size ≤ maxLen) (hc0 : -9223372036854775808 ≤ au) (hc1 : au ≤ 9223372036854775807) (w : World) :
    Calls Tryz.prog 4 #[.string s, .int .i64 au, .string t, .agg #[.int .i64 K, .int .i64 I, .int .i64 P], .int .i64 k] w fun e w' => e = .returned (.bool true) ∧ Below w.heap.size w w' := by
  have A1 := hide (fun W => Kh s hs W)
  have A2 := hide (fun W => Jq s hs W)
  have A3 := hide (fun W => OA s au t hs ht hc0 hc1 W)
  have A4 := hide (fun W => JL s hs W)
  have A5 := hide (fun W => Nr s K I P k hs W)
  have A6 := hide (fun W => K5 s hs W)
  have HW0 := hide (Row.new w #[.int .i64 K, .int .i64 I, .int .i64 P] 23)
  have HB0 := hide (aD w (.cells #[.int .i64 K, .int .i64 I, .int .i64 P] 23))
  go_enter Tryz.func4, Tryz.ntmps4
  go_wp2_with fail
  go_at_call 5
  refine (A1.out _).mono ?_
  rintro e w1 ⟨rfl, hb1⟩
  have HB1 := hide (ak HB0.out hb1)
  have HW1 := hide (HW0.out.below hb1)
  clear hb1
  go_wp2_with fail
  go_at_call 6
  refine (A2.out _).mono ?_
  rintro e w2 ⟨rfl, hb2⟩
  have HB2 := hide (ak HB1.out hb2)
  have HW2 := hide (HW1.out.below hb2)
  clear hb2
  go_wp2_with fail
  go_at_call 7
  refine (A3.out _).mono ?_
  rintro e w3 ⟨rfl, hb3⟩
  have HB3 := hide (ak HB2.out hb3)
  have HW3 := hide (HW2.out.below hb3)
  clear hb3
  go_wp2_with fail
  go_at_call 8
  refine (A4.out _).mono ?_
  rintro e w4 ⟨rfl, hb4⟩
  have HB4 := hide (ak HB3.out hb4)
  have HW4 := hide (HW3.out.below hb4)
  have y0 : w4.cell? ⟨w.heap.size, 0, none⟩ = some (.int .i64 K) := HW4.out.cell 0 rfl
  have y1 : w4.cell? ⟨w.heap.size, 1, none⟩ = some (.int .i64 I) := HW4.out.cell 1 rfl
  have y2 : w4.cell? ⟨w.heap.size, 2, none⟩ = some (.int .i64 P) := HW4.out.cell 2 rfl
  clear hb4
  go_wp2_with fail
  go_at_call 9
  refine (A5.out _).mono ?_
  rintro e w5 ⟨rfl, hb5⟩
  have HB5 := hide (ak HB4.out hb5)
  clear hb5 y0 y1 y2
  go_wp2_with fail
  go_at_call 10
  refine (A6.out _).mono ?_
  rintro e w6 ⟨rfl, hb6⟩
  have HB6 := hide (ak HB5.out hb6)
  clear hb6
  go_wp2
  go_ret
  exact ⟨rfl, HB6.out⟩
set_option maxHeartbeats 8000000 in
theorem Rl (s o : ByteArray) (au : Int) (t : ByteArray) (K I P k : Int) (hs : s.size ≤ maxLen) (hso : o.size ≤ maxLen) (ht : t.size ≤ maxLen) (hc0 : -9223372036854775808 ≤ au) (hc1 : au ≤ 9223372036854775807) (w : World) :
    Calls Tryz.prog 3 #[.string s, .string o, .int .i64 au, .string t, .agg #[.int .i64 K, .int .i64 I, .int .i64 P], .int .i64 k] w fun e w' => e = .returned (.bool true) ∧ Below w.heap.size w w' := by
  have A1 := hide (fun W => DN s au t K I P k hs ht hc0 hc1 W)
  have A2 := hide (fun W => DN o au t K I P k hso ht hc0 hc1 W)
  have HW0 := hide (Row.new w #[.int .i64 K, .int .i64 I, .int .i64 P] 23)
  have HB0 := hide (aD w (.cells #[.int .i64 K, .int .i64 I, .int .i64 P] 23))
  go_enter Tryz.func3, Tryz.ntmps3
  go_wp2_with fail
  go_at_call 4
  refine (A1.out _).mono ?_
  rintro e w1 ⟨rfl, hb1⟩
  have HB1 := hide (ak HB0.out hb1)
  have HW1 := hide (HW0.out.below hb1)
  have y0 : w1.cell? ⟨w.heap.size, 0, none⟩ = some (.int .i64 K) := HW1.out.cell 0 rfl
  have y1 : w1.cell? ⟨w.heap.size, 1, none⟩ = some (.int .i64 I) := HW1.out.cell 1 rfl
  have y2 : w1.cell? ⟨w.heap.size, 2, none⟩ = some (.int .i64 P) := HW1.out.cell 2 rfl
  clear hb1
  go_wp2_with fail
  go_at_call 4
  refine (A2.out _).mono ?_
  clear y0 y1 y2
  rintro e w2 ⟨rfl, hb2⟩
  have HB2 := hide (ak HB1.out hb2)
  have HW2 := hide (HW1.out.below hb2)
  have y0 : w2.cell? ⟨w.heap.size, 0, none⟩ = some (.int .i64 K) := HW2.out.cell 0 rfl
  have y1 : w2.cell? ⟨w.heap.size, 1, none⟩ = some (.int .i64 I) := HW2.out.cell 1 rfl
  have y2 : w2.cell? ⟨w.heap.size, 2, none⟩ = some (.int .i64 P) := HW2.out.cell 2 rfl
  clear hb2
  go_wp2_with fail
  go_at_call 4
  refine (A1.out _).mono ?_
  rintro e w3 ⟨rfl, hb3⟩
  have HB3 := hide (ak HB2.out hb3)
  clear hb3 y0 y1 y2
  go_wp2
  go_ret
  exact ⟨rfl, HB3.out⟩
set_option maxRecDepth 100000 in
theorem Ns (os : Os) (started : os.Started) (H : Type) (enc : TypeId × Value → H) :
    ReturnsInHanded {} Tryz.checked os 3 .any (Rows.allSpec.pre6 enc Tryz.prog Tryz.f3 Rows.allRow.domain false) (Rows.allSpec.post enc Tryz.prog Tryz.f3 false true false false) := by
  refine returnsInHanded_of_change (C := Tryz.checked) Tryz.ownA started (by kernel_rfl) Tryz.func3
    (ChangeSpec.witness6 (enc := enc) (C := Tryz.checked) false ⟨#[], #[.string ByteArray.empty, .string ByteArray.empty, .int .i64 0, .string ByteArray.empty, .agg #[.int .i64 0, .int .i64 0, .int .i64 0], .int .i64 0], []⟩ 8 (by kernel_rfl) (by kernel_rfl) (by kernel_rfl) (by kernel_rfl)) ?_
  intro W base args ds gs before hval0 hW hcnd _
  have hval : ∀ (j : Nat) t v, Tryz.f3.params[j]? = some t → args[j]? = some v → Value.okWide Tryz.prog W .any base t v := hval0
  have hW' := hW
  obtain ⟨p, q, hA0, hV, rfl, hfz, hnd⟩ := hW
  have hA : DataW.TrodAll enc Tryz.prog W 0 (fun _ => true) true Tryz.f3.params.toList args.toList ds p := hA0
  rw [Tryz.params3] at hA hval
  obtain ⟨v0, vs0, d0, ds0, p0, q0, hargs, rfl, rfl, h0, r0⟩ := trodAll_cons hA
  obtain ⟨v1, vs1, d1, ds1, p1, q1, rfl, rfl, rfl, h1, r1⟩ := trodAll_cons r0
  obtain ⟨v2, vs2, d2, ds2, p2, q2, rfl, rfl, rfl, h2, r2⟩ := trodAll_cons r1
  obtain ⟨v3, vs3, d3, ds3, p3, q3, rfl, rfl, rfl, h3, r3⟩ := trodAll_cons r2
  obtain ⟨v4, vs4, d4, ds4, p4, q4, rfl, rfl, rfl, h4, r4⟩ := trodAll_cons r3
  obtain ⟨v5, vs5, d5, ds5, p5, q5, rfl, rfl, rfl, h5, r5⟩ := trodAll_cons r4
  obtain ⟨rfl, rfl, rfl⟩ := trodAll_nil r5
  obtain rfl : args = #[v0, v1, v2, v3, v4, v5] := by cases args; simp_all
  obtain ⟨rfl, rfl⟩ := trodVars_none hV
  obtain ⟨a0, rfl, rfl, rfl, w0⟩ := open_string Tryz.underlying9 (hval 0 9 v0 rfl rfl) h0
  obtain ⟨a1, rfl, rfl, rfl, w1⟩ := open_string Tryz.underlying9 (hval 1 9 v1 rfl rfl) h1
  obtain ⟨n2, rfl, rfl, rfl, w2⟩ := open_int Tryz.underlying3 (hval 2 3 v2 rfl rfl) h2
  obtain ⟨a3, rfl, rfl, rfl, w3⟩ := open_string Tryz.underlying9 (hval 3 9 v3 rfl rfl) h3
  obtain ⟨n5, rfl, rfl, rfl, w5⟩ := open_int Tryz.underlying3 (hval 5 3 v5 rfl rfl) h5
  clear hA0 hval0
  simp only [List.append_nil] at hW'
  have hlt : ∀ x ∈ p4, x.block < W.heap.size := fun x hx => by simpa using hW'.lt x (by simp [hx])
  obtain ⟨K, I, P, rfl⟩ := TJ (hval 4 23 v4 rfl rfl) h4
  have hn : -9223372036854775808 ≤ n2 ∧ n2 ≤ 9223372036854775807 := TI w2
  refine (Rl a0 a1 n2 a3 K I P n5 w0 w1 w3 hn.1 hn.2 W).mono fun e W' ⟨he, hg⟩ => ?_
  subst he
  refine ⟨_, rfl, _, _, _, [], p4, [], hW', ?_, ?_, ?_, hg.frame _, fun h => by cases h⟩
  · exact trodAll_cons_mk (shut_bool Tryz.underlying4 _) trodAll_mk0
  · have := trodAll_cons_mk (P := Tryz.prog) (shut_string Tryz.underlying9 w0) (trodAll_cons_mk (shut_string Tryz.underlying9 w1) (trodAll_cons_mk (shut_int Tryz.underlying3 w2) (trodAll_cons_mk (shut_string Tryz.underlying9 w3) (trodAll_cons_mk (Below.trod Tryz.laidOutF (by kernel_rfl) (of_decide_eq_true (by kernel_rfl)) h4 hg hlt) (trodAll_cons_mk (shut_int Tryz.underlying3 w5) trodAll_mk0)))))
    simp only [List.nil_append, List.append_nil] at this
    exact this
  · rfl

theorem all_holds : Rows.AllSaid :=
  OpenClaim.holds_of_wide 3 Tryz.f3 rfl rfl rfl rfl rfl rfl rfl ⟨rfl, rfl, rfl, rfl, rfl⟩ rfl rfl rfl rfl rfl (by kernel_rfl) Tryz.func3 (by kernel_rfl)
    (of_decide_eq_true (by kernel_rfl)) (by unfold Func.isWrapper; first | (rw [if_pos (by decide +kernel)]; kernel_rfl) | (rw [if_neg (by decide +kernel)]; exact ⟨rfl, rfl⟩))
    (fun os started H enc _ => Ns os started H enc)
#print axioms all_holds
end Go.Proofs.YtecmfdkhcffpmaaGreat
