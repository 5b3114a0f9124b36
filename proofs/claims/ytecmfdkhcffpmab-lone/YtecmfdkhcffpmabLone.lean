/- For all raw steps and every raw script, wardenkeep.Lone returns true: one thread on one processor waits for nothing, clashes with nobody, and goes wrong only as is told (P6, P8). No condition. -/
import Derived.Test.YtecmfdkhcffpmabRows
import Derived.Test.YtecmfdkhcffpmabB45
import Derived.Test.YtecmfdkhcffpmabB46
import Derived.Test.YtecmfdkhcffpmabKpN
namespace Go.Proofs.Ytecmfdkhcffpmab
open Go.ChangeShapes Go.WideShapes Go.ChangeAt Go.RowKit
open Go.ChangeMaps (open_string shut_string)
set_option linter.unusedVariables false
open Wd Mc

theorem Try.ownL : ownKnob Try.prog.godebug = none := by kernel_rfl
theorem parts_one {w : World} {v : Value} {zs : List Int} (h : IntsIn w v zs) : PartsIn (w.alloc (.cells #[.bool false, v] 34)) (.slice (some ⟨w.heap.size, 0, none⟩) 1 1) [⟨false, zs⟩] := by
  refine ⟨some ⟨w.heap.size, 0, none⟩, 1, rfl, by simp [maxLen], fun i hi => ?_⟩
  have e : i = 0 := by simp at hi; exact hi
  subst e
  refine ⟨⟨w.heap.size, 0, none⟩, rfl, by simp, ?_, v, ?_, h.below ((Below.refl w.heap.size w).alloc (Nat.le_refl _) _) (Nat.le_refl _)⟩
  · exact World.cell?_alloc_mark w #[.bool false, v] 34 (0, 0) 0
  · exact World.cell?_alloc_mark w #[.bool false, v] 34 (0, 0) 1
set_option maxRecDepth 100000 in
set_option maxHeartbeats 8000000 in
theorem lone_walk (v : Value) (zs : List Int) (raw : ByteArray) (hr : raw.size ≤ maxLen) (w : World) (hin : IntsIn w v zs) :
    Calls Try.prog 5 #[v, .string raw] w fun e w' => e = .returned (.bool true) ∧ Below w.heap.size w w' := by
  obtain ⟨ao0, cap0, hv0⟩ : ∃ ao cap, v = .slice ao zs.length cap := by
    obtain ⟨ao, cap, h, _⟩ := hin
    exact ⟨ao, cap, h⟩
  subst hv0
  have hsrc : Src (flat (progR [⟨false, zs⟩] 1 240)) ((progR [⟨false, zs⟩] 1 240).map itOf) := ⟨readP_prog _ 1 240 (by decide) (by decide) (by decide) (by decide), by have := (progR_ok [⟨false, zs⟩] 1 240 (by decide) (by decide)).2.1; omega⟩
  have hone := one_prog zs
  have A1 := hide (fun u W (h : PartsIn W u [⟨false, zs⟩]) => program_any u [⟨false, zs⟩] 1 240 W h (by decide) (by decide) (by decide))
  generalize (progR [⟨false, zs⟩] 1 240).map itOf = its at *
  generalize flat (progR [⟨false, zs⟩] 1 240) = l at *
  have hls := cmdsP_len 1 raw.data.toList
  have hsc := cmdsP_script 1 (by omega) (by omega) raw.data.toList
  have hsound := sound_plain hsrc.fine 1 (by omega) _ hsc
  have hlone := lone_plain hsrc.fine hone _ hsc
  have hrace := no_race hone
  have A0 := hide (lives_any w)
  have A3 := hide (fun W => hsrc.analyse W)
  have A4 := hide (fun W => commands_any raw 1 W hr (by omega) (by omega))
  have A5 := hide (fun W => hsrc.trace 1 (by omega) (by omega) _ (by omega) hsc W)
  have htl := traceB_len its 1 (cmdsP 1 raw.data.toList) (begin_ its)
  have hlb := lastP_bd (traceB its 1 (begin_ its) (cmdsP 1 raw.data.toList))
  have hrl := rep_len its hsrc.fine
  clear hsrc hone
  generalize traceB its 1 (begin_ its) (cmdsP 1 raw.data.toList) = T at *
  generalize cmdsP 1 raw.data.toList = s at *
  have A6 := hide (fun W => last_any T W (by omega))
  have A7 := fun u W b h => warned_any (analyseS its) u (lastP T) W b (by omega) h hlb.1 hlb.2
  rw [hsound] at A7
  have HA7 := hide A7
  have A8 := fun u W b h => hasR_any (analyseS its) u 7 W b (by omega) h
  rw [hrace] at A8
  have HA8 := hide A8
  have A9 := hide (fun u W b h => hasR_any (analyseS its) u 1 W b (by omega) h)
  have HL1 := hide hlone.1
  have HL2 := hide hlone.2
  have hT : T.length ≤ 40000 := by omega
  clear A7 A8 hsound hrace hlone hsc hls htl
  generalize lastP T = c at *
  generalize analyseS its = R at *
  have s2 := Wd.mkS_size T
  have HIN := hide hin
  clear hin
  go_enter Try.func5, Try.ntmps5
  go_wp2_with (first
    | (go_at_call 13; refine (A3.out _).mono ?_; rintro e w5 ⟨hb5, ao, cc, rfl, hown⟩; have HO5 := hide hown; have HB5 := hide (HB4.out.trans (hb5.mono HB4.out.size)); clear hb5 hown)
    | (go_at_call 12; refine (A5.out _).mono ?_; rintro e w4 ⟨rfl, hb4⟩; have HB4 := hide (HB3.out.trans (hb4.mono HB3.out.size)); clear hb4)
    | (go_at_call 11; refine (A4.out _).mono ?_; rintro e w3 ⟨rfl, hb3⟩; have HB3 := hide (HB2.out.trans (hb3.mono HB2.out.size)); clear hb3)
    | (go_at_call 9; refine (A1.out _ _ (parts_one HIN1.out)).mono ?_; rintro e w2 ⟨rfl, hb2⟩; have HB2 := hide ((HB1.out.alloc HB1.out.size _).trans (hb2.mono (by simp; have := HB1.out.size; omega))); clear hb2)
    | (go_at_call 8; refine (A0.out).mono ?_; rintro e w1 ⟨rfl, hb1⟩; have HB1 := hide hb1; have HIN1 := hide (HIN.out.below hb1 (Nat.le_refl _)); clear hb1))
  go_loop [11] (fun i => ∃ k : Nat, k ≤ T.length ∧ i = .int .i64 k) (fun i => T.length - (intOf i).toNat)
  case atStart => exact ⟨0, by omega, rfl⟩
  case round =>
    obtain ⟨k, hk, rfl⟩ := hrel
    by_cases hlt : k < T.length
    · have hix : (((((Wd.mkS T)[k]'(by rw [s2]; omega)).toNat : Nat)) : Int) = bt T[k] := by rw [mkS_at]; simp [at_, bt, hlt]
      have hlo := HL1.out T[k] (List.getElem_mem hlt)
      generalize bt T[k] = x at *
      have b1 : (x == 58) = false := by simp; exact hlo.n1
      have b2 : (x == 104) = false := by simp; exact hlo.n2
      have b3 : (x == 87) = false := by simp; exact hlo.n3
      have b4 : (x == 82) = false := by simp; exact hlo.n4
      clear hlo
      go_wp2
      go_round
      case rel => exact ⟨k + 1, by omega, by go_num⟩
      case measure => simp [intOf]; omega
    · by_cases hc : c = 68
      · have B9 := A9.out
        rw [HL2.out hc] at B9
        have HB9 := hide B9
        subst hc
        clear B9
        go_wp2_with (first
          | (have hx := HT1.out; go_at_call 14; refine (HB9.out _ _ _ HO5.out).mono ?_; rintro e w' ⟨rfl, hww⟩; obtain rfl := hww.symm; clear hww hx)
          | (go_at_call 16; refine (HA7.out _ _ _ HO5.out).mono ?_; rintro e w' ⟨rfl, hww⟩; obtain rfl := hww.symm; clear hww; have HT1 := hide True.intro)
          | (go_at_call 15; refine (A6.out _).mono ?_; rintro e w' ⟨rfl, hww⟩; obtain rfl := hww.symm; clear hww)
          | (go_at_call 14; refine (HA8.out _ _ _ HO5.out).mono ?_; rintro e w' ⟨rfl, hww⟩; obtain rfl := hww.symm; clear hww))
        go_ret
        exact ⟨rfl, HB5.out⟩
      · have bc : (c == 68) = false := by simp [hc]
        clear hc
        go_wp2_with (first
          | (go_at_call 16; refine (HA7.out _ _ _ HO5.out).mono ?_; rintro e w' ⟨rfl, hww⟩; obtain rfl := hww.symm; clear hww)
          | (go_at_call 15; refine (A6.out _).mono ?_; rintro e w' ⟨rfl, hww⟩; obtain rfl := hww.symm; clear hww)
          | (go_at_call 14; refine (HA8.out _ _ _ HO5.out).mono ?_; rintro e w' ⟨rfl, hww⟩; obtain rfl := hww.symm; clear hww))
        go_ret
        exact ⟨rfl, HB5.out⟩
set_option maxRecDepth 100000 in
theorem lone_lifted (os : Os) (started : os.Started) (H : Type) (enc : TypeId × Value → H) :
    ReturnsInHanded {} Try.checked os 5 .any (Rows.loneSpec.pre6 enc Try.prog Try.f5 Rows.loneRow.domain false) (Rows.loneSpec.post enc Try.prog Try.f5 false true false false) := by
  refine returnsInHanded_of_change (C := Try.checked) Try.ownL started (by kernel_rfl) Try.func5
    (ChangeSpec.witness6 (enc := enc) (C := Try.checked) false ⟨#[], #[.slice none 0 0, .string ByteArray.empty], []⟩ 8 (by kernel_rfl) (by kernel_rfl) (by kernel_rfl) (by kernel_rfl)) ?_
  intro W base args ds gs before hval0 hW hcnd _
  have hval : ∀ (j : Nat) t v, Try.f5.params[j]? = some t → args[j]? = some v → Value.okWide Try.prog W .any base t v := hval0
  have hW' := hW
  obtain ⟨p, q, hA0, hV, rfl, hfz, hnd⟩ := hW
  have hA : DataW.TrodAll enc Try.prog W 0 (fun _ => true) true Try.f5.params.toList args.toList ds p := hA0
  rw [Try.params5] at hA hval
  obtain ⟨v0, vs0, d0, ds0, p0, q0, hargs, rfl, rfl, h0, r0⟩ := trodAll_cons hA
  obtain ⟨v2, vs2, d2, ds2, p2, q2, rfl, rfl, rfl, h2, r2⟩ := trodAll_cons r0
  obtain ⟨rfl, rfl, rfl⟩ := trodAll_nil r2
  obtain rfl : args = #[v0, v2] := by cases args; simp_all
  obtain ⟨rfl, rfl⟩ := trodVars_none hV
  obtain ⟨a2, rfl, rfl, rfl, w2⟩ := open_string Try.underlying9 (hval 1 9 v2 rfl rfl) h2
  clear hA0 hval0
  simp only [List.append_nil] at hW'
  have hlt : ∀ x ∈ p0, x.block < W.heap.size := fun x hx => by simpa using hW'.lt x (by simp [hx])
  obtain ⟨ps, hps⟩ := ints_of (hval 0 32 v0 rfl rfl) h0 hlt
  refine (lone_walk v0 ps a2 w2 W hps).mono fun e W' ⟨he, hg⟩ => ?_
  subst he
  refine ⟨_, rfl, _, _, _, [], p0, [], hW', ?_, ?_, ?_, hg.frame _, fun h => by cases h⟩
  · exact trodAll_cons_mk (shut_bool Try.underlying4 _) trodAll_mk0
  · have := trodAll_cons_mk (P := Try.prog) (Below.trod Try.laidOut (by kernel_rfl) (of_decide_eq_true (by kernel_rfl)) h0 hg hlt) (trodAll_cons_mk (shut_string Try.underlying9 w2) trodAll_mk0)
    simp only [List.append_nil] at this
    exact this
  · rfl

theorem lone_holds : Rows.LoneSaid :=
  OpenClaim.holds_of_wide 5 Try.f5 rfl rfl rfl rfl rfl rfl rfl ⟨rfl, rfl, rfl, rfl, rfl⟩ rfl rfl rfl rfl rfl (by kernel_rfl) Try.func5 (by kernel_rfl)
    (of_decide_eq_true (by kernel_rfl)) (by unfold Func.isWrapper; first | (rw [if_pos (by decide +kernel)]; kernel_rfl) | (rw [if_neg (by decide +kernel)]; exact ⟨rfl, rfl⟩))
    (fun os started H enc _ => lone_lifted os started H enc)
#print axioms lone_holds
end Go.Proofs.Ytecmfdkhcffpmab
