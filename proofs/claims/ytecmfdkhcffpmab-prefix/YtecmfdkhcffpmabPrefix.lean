/- For all raw parts, processors, scripts and lengths, wardenkeep.Prefix returns true: the trace of a script's beginning is the trace's beginning (P6). No condition. -/
import Derived.Test.YtecmfdkhcffpmabRows
import Derived.Test.YtecmfdkhcffpmabB45
import Derived.Test.YtecmfdkhcffpmabB46
import Derived.BigQuiet
import Derived.Deep.QuietTactic
namespace Go.Proofs.Ytecmfdkhcffpmab
open Go.ChangeShapes Go.WideShapes Go.ChangeAt Go.RowKit
open Go.ChangeMaps (open_string shut_string)
set_option linter.unusedVariables false
open Wd Mc

theorem Try.ownP : ownKnob Try.prog.godebug = none := by kernel_rfl
set_option maxRecDepth 100000 in
set_option maxHeartbeats 8000000 in
theorem prefix_walk (v : Value) (ps : List Pt) (cpus : Int) (raw : ByteArray) (n : Int) (hr : raw.size ≤ maxLen) (hc0 : -9223372036854775808 ≤ cpus) (hc1 : cpus ≤ 9223372036854775807) (hn0 : -9223372036854775808 ≤ n) (hn1 : n ≤ 9223372036854775807) (w : World) (hin : PartsIn w v ps) :
    Calls Try.prog 3 #[v, .int .i64 cpus, .string raw, .int .i64 n] w fun e w' => e = .returned (.bool true) ∧ Below w.heap.size w w' := by
  have hp := pickP_bd cpus 3 (by decide)
  obtain ⟨p, hpp⟩ : ∃ p : Nat, pickP cpus 3 = p := ⟨(pickP cpus 3).toNat, by omega⟩
  have hp3 : p < 3 := by omega
  have en : (((1 + p : Nat)) : Int) = 1 + (p : Int) := by omega
  obtain ⟨its, hsrc⟩ := src_prog ps 8 240 (by decide) (by decide) (by decide) (by decide)
  have hls := cmdsP_len (1 + p) raw.data.toList
  have hsc := cmdsP_script (1 + p) (by omega) (by omega) raw.data.toList
  have A0 := hide (lives_any w)
  have A1 := hide (fun W (h : PartsIn W v ps) => program_any v ps 8 240 W h (by decide) (by decide) (by decide))
  have A2 := fun W => pick_any cpus 3 W hc0 hc1 (by decide) (by decide)
  simp only [hpp] at A2
  have HA2 := hide A2
  have A4 := fun W => commands_any raw (1 + p) W hr (by omega) (by omega)
  simp only [en] at A4
  have HA4 := hide A4
  have A5 := fun W => hsrc.trace (1 + p) (by omega) (by omega) _ (by omega) hsc W
  simp only [en] at A5
  have HA5 := hide A5
  have htl := traceB_len its (1 + p) (cmdsP (1 + p) raw.data.toList) (begin_ its)
  have A6 := fun k W => hsrc.trace (1 + p) (by omega) (by omega) ((cmdsP (1 + p) raw.data.toList).take (2 * k)) (by simp; omega) (scriptB_take _ k _ hsc) W
  simp only [en, traceB_take] at A6
  have HA6 := hide A6
  obtain ⟨h, hh⟩ : ∃ h : Nat, (cmdsP (1 + p) raw.data.toList).length = 2 * h := ⟨_, hls.2⟩
  clear A2 A4 A5 A6 hpp en hsrc
  generalize flat (progR ps 8 240) = l at *
  generalize traceB its (1 + p) (begin_ its) (cmdsP (1 + p) raw.data.toList) = T at *
  generalize cmdsP (1 + p) raw.data.toList = s at *
  have hh2 : h ≤ 20000 := by omega
  have hT : T.length ≤ h := by omega
  clear hls htl hsc
  have hq := pickP_bd n ((h : Int) + 1) (by omega)
  have A7 := fun W => pick_any n ((h : Int) + 1) W hn0 hn1 (by omega) (by omega)
  obtain ⟨k, hkk⟩ : ∃ k : Nat, pickP n ((h : Int) + 1) = k := ⟨(pickP n ((h : Int) + 1)).toNat, by omega⟩
  simp only [hkk] at A7
  have HA7 := hide A7
  have hk : k ≤ h := by omega
  clear A7 hq hkk
  have s1 := Wd.mkS_size s
  have s2 := Wd.mkS_size T
  have s3 := Wd.mkS_size (T.take k)
  have eh : (s.length : Int) = 2 * (h : Int) := by omega
  have ed1 : (2 * (h : Int)).tdiv 2 = h := by rw [Int.tdiv_eq_ediv_of_nonneg (by omega)]; omega
  have ed2 : (2 * (h : Int)) / 2 = h := by omega
  have hks : 2 * k ≤ s.length := by omega
  have hsl : (Wd.mkS s).extract 0 (2 * k) = Wd.mkS (s.take (2 * k)) := mkS_take s (2 * k)
  have HA6' := hide (HA6.out k)
  clear HA6
  have HA6 := HA6'
  clear HA6'
  have HIN := hide hin
  clear hin hh
  by_cases hkT : T.length < k
  · have e1 : T.take k = T := List.take_of_length_le (by omega)
    rw [e1] at HA6
    have hsT : (Wd.mkS T).extract 0 T.length = Wd.mkS T := by rw [mkS_take, List.take_length]
    clear e1 s3
    go_enter Try.func3, Try.ntmps3
    go_wp2_with (first
      | (have hx := HT5.out; go_at_call 12; refine (HA6.out _).mono ?_; rintro e w6 ⟨rfl, hb6⟩; have HB6 := hide (HB5.out.trans (hb6.mono HB5.out.size)); clear hb6 hx)
      | (go_at_call 12; refine (HA5.out _).mono ?_; rintro e w5 ⟨rfl, hb5⟩; have HB5 := hide (HB4.out.trans (hb5.mono HB4.out.size)); clear hb5; have HT5 := hide True.intro)
      | (have hx := HT4.out; go_at_call 10; refine (HA7.out _).mono ?_; rintro e w' ⟨rfl, hww⟩; obtain rfl := hww.symm; clear hww hx)
      | (go_at_call 11; refine (HA4.out _).mono ?_; rintro e w4 ⟨rfl, hb4⟩; have HB4 := hide (HB2.out.trans (hb4.mono HB2.out.size)); clear hb4; have HT4 := hide True.intro)
      | (go_at_call 10; refine (HA2.out _).mono ?_; rintro e w' ⟨rfl, hww⟩; obtain rfl := hww.symm; clear hww)
      | (go_at_call 9; refine (A1.out _ HIN1.out).mono ?_; rintro e w2 ⟨rfl, hb2⟩; have HB2 := hide (HB1.out.trans (hb2.mono HB1.out.size)); clear hb2)
      | (go_at_call 8; refine (A0.out).mono ?_; rintro e w1 ⟨rfl, hb1⟩; have HB1 := hide hb1; have HIN1 := hide (HIN.out.below hb1 (Nat.le_refl _)); clear hb1))
    go_ret
    exact ⟨rfl, HB6.out⟩
  · have hsT : (Wd.mkS T).extract 0 k = Wd.mkS (T.take k) := mkS_take T k
    generalize T.take k = U at *
    go_enter Try.func3, Try.ntmps3
    go_wp2_with (first
      | (have hx := HT5.out; go_at_call 12; refine (HA6.out _).mono ?_; rintro e w6 ⟨rfl, hb6⟩; have HB6 := hide (HB5.out.trans (hb6.mono HB5.out.size)); clear hb6 hx)
      | (go_at_call 12; refine (HA5.out _).mono ?_; rintro e w5 ⟨rfl, hb5⟩; have HB5 := hide (HB4.out.trans (hb5.mono HB4.out.size)); clear hb5; have HT5 := hide True.intro)
      | (have hx := HT4.out; go_at_call 10; refine (HA7.out _).mono ?_; rintro e w' ⟨rfl, hww⟩; obtain rfl := hww.symm; clear hww hx)
      | (go_at_call 11; refine (HA4.out _).mono ?_; rintro e w4 ⟨rfl, hb4⟩; have HB4 := hide (HB2.out.trans (hb4.mono HB2.out.size)); clear hb4; have HT4 := hide True.intro)
      | (go_at_call 10; refine (HA2.out _).mono ?_; rintro e w' ⟨rfl, hww⟩; obtain rfl := hww.symm; clear hww)
      | (go_at_call 9; refine (A1.out _ HIN1.out).mono ?_; rintro e w2 ⟨rfl, hb2⟩; have HB2 := hide (HB1.out.trans (hb2.mono HB1.out.size)); clear hb2)
      | (go_at_call 8; refine (A0.out).mono ?_; rintro e w1 ⟨rfl, hb1⟩; have HB1 := hide hb1; have HIN1 := hide (HIN.out.below hb1 (Nat.le_refl _)); clear hb1))
    go_ret
    exact ⟨rfl, HB6.out⟩
set_option maxRecDepth 100000 in
theorem prefix_lifted (os : Os) (started : os.Started) (H : Type) (enc : TypeId × Value → H) :
    ReturnsInHanded {} Try.checked os 3 .any (Rows.prefixSpec.pre6 enc Try.prog Try.f3 Rows.prefixRow.domain false) (Rows.prefixSpec.post enc Try.prog Try.f3 false true false false) := by
  refine returnsInHanded_of_change (C := Try.checked) Try.ownP started (by kernel_rfl) Try.func3
    (ChangeSpec.witness6 (enc := enc) (C := Try.checked) false ⟨#[], #[.slice none 0 0, .int .i64 0, .string ByteArray.empty, .int .i64 0], []⟩ 8 (by kernel_rfl) (by kernel_rfl) (by kernel_rfl) (by kernel_rfl)) ?_
  intro W base args ds gs before hval0 hW hcnd _
  have hval : ∀ (j : Nat) t v, Try.f3.params[j]? = some t → args[j]? = some v → Value.okWide Try.prog W .any base t v := hval0
  have hW' := hW
  obtain ⟨p, q, hA0, hV, rfl, hfz, hnd⟩ := hW
  have hA : DataW.TrodAll enc Try.prog W 0 (fun _ => true) true Try.f3.params.toList args.toList ds p := hA0
  rw [Try.params3] at hA hval
  obtain ⟨v0, vs0, d0, ds0, p0, q0, hargs, rfl, rfl, h0, r0⟩ := trodAll_cons hA
  obtain ⟨v1, vs1, d1, ds1, p1, q1, rfl, rfl, rfl, h1, r1⟩ := trodAll_cons r0
  obtain ⟨v2, vs2, d2, ds2, p2, q2, rfl, rfl, rfl, h2, r2⟩ := trodAll_cons r1
  obtain ⟨v3, vs3, d3, ds3, p3, q3, rfl, rfl, rfl, h3, r3⟩ := trodAll_cons r2
  obtain ⟨rfl, rfl, rfl⟩ := trodAll_nil r3
  obtain rfl : args = #[v0, v1, v2, v3] := by cases args; simp_all
  obtain ⟨rfl, rfl⟩ := trodVars_none hV
  obtain ⟨n1, rfl, rfl, rfl, w1⟩ := open_int Try.underlying3 (hval 1 3 v1 rfl rfl) h1
  obtain ⟨a2, rfl, rfl, rfl, w2⟩ := open_string Try.underlying9 (hval 2 9 v2 rfl rfl) h2
  obtain ⟨n3, rfl, rfl, rfl, w3⟩ := open_int Try.underlying3 (hval 3 3 v3 rfl rfl) h3
  clear hA0 hval0
  simp only [List.append_nil] at hW'
  have hlt : ∀ x ∈ p0, x.block < W.heap.size := fun x hx => by simpa using hW'.lt x (by simp [hx])
  have hn : -9223372036854775808 ≤ n1 ∧ n1 ≤ 9223372036854775807 := range64 w1
  have hm : -9223372036854775808 ≤ n3 ∧ n3 ≤ 9223372036854775807 := range64 w3
  obtain ⟨ps, hps⟩ := parts_of (hval 0 22 v0 rfl rfl) h0 hlt
  refine (prefix_walk v0 ps n1 a2 n3 w2 hn.1 hn.2 hm.1 hm.2 W hps).mono fun e W' ⟨he, hg⟩ => ?_
  subst he
  refine ⟨_, rfl, _, _, _, [], p0, [], hW', ?_, ?_, ?_, hg.frame _, fun h => by cases h⟩
  · exact trodAll_cons_mk (shut_bool Try.underlying4 _) trodAll_mk0
  · have := trodAll_cons_mk (P := Try.prog) (Below.trod Try.laidOut (by kernel_rfl) (of_decide_eq_true (by kernel_rfl)) h0 hg hlt) (trodAll_cons_mk (shut_int Try.underlying3 w1) (trodAll_cons_mk (shut_string Try.underlying9 w2) (trodAll_cons_mk (shut_int Try.underlying3 w3) trodAll_mk0)))
    simp only [List.append_nil] at this
    exact this
  · rfl

theorem prefix_holds : Rows.PrefixSaid :=
  OpenClaim.holds_of_wide 3 Try.f3 rfl rfl rfl rfl rfl rfl rfl ⟨rfl, rfl, rfl, rfl, rfl⟩ rfl rfl rfl rfl rfl (by kernel_rfl) Try.func3 (by kernel_rfl)
    (of_decide_eq_true (by kernel_rfl)) (by unfold Func.isWrapper; first | (rw [if_pos (by decide +kernel)]; kernel_rfl) | (rw [if_neg (by decide +kernel)]; exact ⟨rfl, rfl⟩))
    (fun os started H enc _ => prefix_lifted os started H enc)
#print axioms prefix_holds
end Go.Proofs.Ytecmfdkhcffpmab
