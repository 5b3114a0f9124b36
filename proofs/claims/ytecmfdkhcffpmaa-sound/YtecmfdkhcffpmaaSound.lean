/- For all raw parts, every raw number of processors and every raw script, wardenkeep.Sound returns true: a trace that ends badly ends with something of which there is a report (P11). No condition. -/
import Derived.Test.YtecmfdkhcffpmaaRows
import Derived.Test.YtecmfdkhcffpmaaB51
import Derived.Test.YtecmfdkhcffpmaaB52
namespace Go.Proofs.Ytecmfdkhcffpmaa
open Go.ChangeShapes Go.WideShapes Go.ChangeAt Go.RowKit
open Go.ChangeMaps (open_string shut_string)
set_option linter.unusedVariables false
open Wd Mc

theorem Try.ownS : ownKnob Try.prog.godebug = none := by kernel_rfl
set_option maxRecDepth 100000 in
set_option maxHeartbeats 8000000 in
theorem sound_walk (v : Value) (ps : List Pt) (cpus : Int) (raw : ByteArray) (hr : raw.size ≤ maxLen) (hc0 : -9223372036854775808 ≤ cpus) (hc1 : cpus ≤ 9223372036854775807) (w : World) (hin : PartsIn w v ps) :
    Calls Try.prog 10 #[v, .int .i64 cpus, .string raw] w fun e w' => e = .returned (.bool true) ∧ Below w.heap.size w w' := by
  have hp := pickP_bd cpus 3 (by decide)
  obtain ⟨p, hpp⟩ : ∃ p : Nat, pickP cpus 3 = p := ⟨(pickP cpus 3).toNat, by omega⟩
  have hp3 : p < 3 := by omega
  have en : (((1 + p : Nat)) : Int) = 1 + (p : Int) := by omega
  obtain ⟨its, hsrc⟩ := src_prog ps 8 240 (by decide) (by decide) (by decide) (by decide)
  have hls := cmdsP_len (1 + p) raw.data.toList
  have hsc := cmdsP_script (1 + p) (by omega) (by omega) raw.data.toList
  have hsound := sound_plain hsrc.fine (1 + p) (by omega) _ hsc
  have A0 := hide (lives_any w)
  have A1 := hide (fun W (h : PartsIn W v ps) => program_any v ps 8 240 W h (by decide) (by decide) (by decide))
  have A2 := fun W => pick_any cpus 3 W hc0 hc1 (by decide) (by decide)
  simp only [hpp] at A2
  have HA2 := hide A2
  have A3 := hide (fun W => hsrc.analyse W)
  have A4 := fun W => commands_any raw (1 + p) W hr (by omega) (by omega)
  simp only [en] at A4
  have HA4 := hide A4
  have A5 := fun W => hsrc.trace (1 + p) (by omega) (by omega) _ (by omega) hsc W
  simp only [en] at A5
  have HA5 := hide A5
  have htl := traceB_len its (1 + p) (cmdsP (1 + p) raw.data.toList) (begin_ its)
  have hlb := lastP_bd (traceB its (1 + p) (begin_ its) (cmdsP (1 + p) raw.data.toList))
  have hrl := rep_len its hsrc.fine
  clear A2 A4 A5 hpp en hsrc
  generalize flat (progR ps 8 240) = l at *
  generalize traceB its (1 + p) (begin_ its) (cmdsP (1 + p) raw.data.toList) = T at *
  generalize cmdsP (1 + p) raw.data.toList = s at *
  have A6 := hide (fun W => last_any T W (by omega))
  have A7 := fun u W b h => warned_any (analyseS its) u (lastP T) W b (by omega) h hlb.1 hlb.2
  rw [hsound] at A7
  have HA7 := hide A7
  clear A7 hsound
  generalize lastP T = c at *
  generalize analyseS its = R at *
  have HIN := hide hin
  clear hin hsc hls htl hrl
  go_enter Try.func10, Try.ntmps10
  go_wp2_with (first
    | (go_at_call 35; refine (HA7.out _ _ _ HO5.out).mono ?_; rintro e w' ⟨rfl, hww⟩; obtain rfl := hww.symm; clear hww)
    | (go_at_call 36; refine (A6.out _).mono ?_; rintro e w' ⟨rfl, hww⟩; obtain rfl := hww.symm; clear hww)
    | (go_at_call 33; refine (HA5.out _).mono ?_; rintro e w5 ⟨rfl, hb5⟩; have HO5 := hide (own_below HO4.out hb5); have HB5 := hide (HB4.out.trans (hb5.mono HB4.out.size)); clear hb5)
    | (go_at_call 34; refine (HA4.out _).mono ?_; rintro e w4 ⟨rfl, hb4⟩; have HO4 := hide (own_below HO3.out hb4); have HB4 := hide (HB3.out.trans (hb4.mono HB3.out.size)); clear hb4)
    | (go_at_call 21; refine (A3.out _).mono ?_; rintro e w3 ⟨hb3, ao, cc, rfl, hown⟩; have HO3 := hide hown; have HB3 := hide (HB2.out.trans (hb3.mono HB2.out.size)); clear hb3 hown)
    | (go_at_call 32; refine (HA2.out _).mono ?_; rintro e w' ⟨rfl, hww⟩; obtain rfl := hww.symm; clear hww)
    | (go_at_call 31; refine (A1.out _ HIN1.out).mono ?_; rintro e w2 ⟨rfl, hb2⟩; have HB2 := hide (HB1.out.trans (hb2.mono HB1.out.size)); clear hb2)
    | (go_at_call 30; refine (A0.out).mono ?_; rintro e w1 ⟨rfl, hb1⟩; have HB1 := hide hb1; have HIN1 := hide (HIN.out.below hb1 (Nat.le_refl _)); clear hb1))
  go_ret
  exact ⟨rfl, HB5.out⟩

set_option maxRecDepth 100000 in
theorem sound_lifted (os : Os) (started : os.Started) (H : Type) (enc : TypeId × Value → H) :
    ReturnsInHanded {} Try.checked os 10 .any (Rows.soundSpec.pre6 enc Try.prog Try.f10 Rows.soundRow.domain false) (Rows.soundSpec.post enc Try.prog Try.f10 false true false false) := by
  refine returnsInHanded_of_change (C := Try.checked) Try.ownS started (by kernel_rfl) Try.func10
    (ChangeSpec.witness6 (enc := enc) (C := Try.checked) false ⟨#[], #[.slice none 0 0, .int .i64 0, .string ByteArray.empty], []⟩ 8 (by kernel_rfl) (by kernel_rfl) (by kernel_rfl) (by kernel_rfl)) ?_
  intro W base args ds gs before hval0 hW hcnd _
  have hval : ∀ (j : Nat) t v, Try.f10.params[j]? = some t → args[j]? = some v → Value.okWide Try.prog W .any base t v := hval0
  have hW' := hW
  obtain ⟨p, q, hA0, hV, rfl, hfz, hnd⟩ := hW
  have hA : DataW.TrodAll enc Try.prog W 0 (fun _ => true) true Try.f10.params.toList args.toList ds p := hA0
  rw [Try.params10] at hA hval
  obtain ⟨v0, vs0, d0, ds0, p0, q0, hargs, rfl, rfl, h0, r0⟩ := trodAll_cons hA
  obtain ⟨v1, vs1, d1, ds1, p1, q1, rfl, rfl, rfl, h1, r1⟩ := trodAll_cons r0
  obtain ⟨v2, vs2, d2, ds2, p2, q2, rfl, rfl, rfl, h2, r2⟩ := trodAll_cons r1
  obtain ⟨rfl, rfl, rfl⟩ := trodAll_nil r2
  obtain rfl : args = #[v0, v1, v2] := by cases args; simp_all
  obtain ⟨rfl, rfl⟩ := trodVars_none hV
  obtain ⟨n1, rfl, rfl, rfl, w1⟩ := open_int Try.underlying3 (hval 1 3 v1 rfl rfl) h1
  obtain ⟨a2, rfl, rfl, rfl, w2⟩ := open_string Try.underlying9 (hval 2 9 v2 rfl rfl) h2
  clear hA0 hval0
  simp only [List.append_nil] at hW'
  have hlt : ∀ x ∈ p0, x.block < W.heap.size := fun x hx => by simpa using hW'.lt x (by simp [hx])
  have hn : -9223372036854775808 ≤ n1 ∧ n1 ≤ 9223372036854775807 := range64 w1
  obtain ⟨ps, hps⟩ := parts_of (hval 0 51 v0 rfl rfl) h0 hlt
  refine (sound_walk v0 ps n1 a2 w2 hn.1 hn.2 W hps).mono fun e W' ⟨he, hg⟩ => ?_
  subst he
  refine ⟨_, rfl, _, _, _, [], p0, [], hW', ?_, ?_, ?_, hg.frame _, fun h => by cases h⟩
  · exact trodAll_cons_mk (shut_bool Try.underlying4 _) trodAll_mk0
  · have := trodAll_cons_mk (P := Try.prog) (Below.trod Try.laidOut (by kernel_rfl) (of_decide_eq_true (by kernel_rfl)) h0 hg hlt) (trodAll_cons_mk (shut_int Try.underlying3 w1) (trodAll_cons_mk (shut_string Try.underlying9 w2) trodAll_mk0))
    simp only [List.append_nil] at this
    exact this
  · rfl

theorem sound_holds : Rows.SoundSaid :=
  OpenClaim.holds_of_wide 10 Try.f10 rfl rfl rfl rfl rfl rfl rfl ⟨rfl, rfl, rfl, rfl, rfl⟩ rfl rfl rfl rfl rfl (by kernel_rfl) Try.func10 (by kernel_rfl)
    (of_decide_eq_true (by kernel_rfl)) (by unfold Func.isWrapper; first | (rw [if_pos (by decide +kernel)]; kernel_rfl) | (rw [if_neg (by decide +kernel)]; exact ⟨rfl, rfl⟩))
    (fun os started H enc _ => sound_lifted os started H enc)
#print axioms sound_holds
end Go.Proofs.Ytecmfdkhcffpmaa
