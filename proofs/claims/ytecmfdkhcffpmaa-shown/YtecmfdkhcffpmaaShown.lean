/- For all raw parts, wardenkeep.Shown returns true: each report of an item by itself is shown by Run with what Show gives; Rings and Races are not (P9, P11). No condition. -/
import Derived.Test.YtecmfdkhcffpmaaRows
import Derived.Test.YtecmfdkhcffpmaaB45
import Derived.Test.YtecmfdkhcffpmaaB46
import Derived.Test.YtecmfdkhcffpmaaKwS
import Derived.BigQuiet
import Derived.Deep.QuietTactic
namespace Go.Proofs.Ytecmfdkhcffpmaa
open Go.ChangeShapes Go.WideShapes Go.ChangeAt Go.RowKit
open Go.ChangeMaps (open_string shut_string)
set_option linter.unusedVariables false
open Wd Mc

theorem Try.ownW : ownKnob Try.prog.godebug = none := by kernel_rfl
set_option maxRecDepth 100000 in
set_option maxHeartbeats 8000000 in
theorem shown_walk (v : Value) (ps : List Pt) (w : World) (hin : PartsIn w v ps) :
    Calls Try.prog 11 #[v] w fun e w' => e = .returned (.bool true) ∧ Below w.heap.size w w' := by
  obtain ⟨its, hsrc⟩ := src_prog ps 8 240 (by decide) (by decide) (by decide) (by decide)
  have A0 := hide (lives_any w)
  have A1 := hide (fun W (h : PartsIn W v ps) => program_any v ps 8 240 W h (by decide) (by decide) (by decide))
  have A3 := hide (fun W => hsrc.analyse W)
  have HSRC := hide hsrc
  have hrl := rep_len its hsrc.fine
  have hfine := hide hsrc.fine
  have hll := hsrc.len
  clear hsrc
  generalize flat (progR ps 8 240) = l at *
  have HIN := hide hin
  clear hin
  go_enter Try.func11, Try.ntmps11
  go_wp2_with (first
    | (go_at_call 21; refine (A3.out _).mono ?_; rintro e w3 ⟨hb3, ao, cc, rfl, hown⟩; have HO3 := hide hown; have HB3 := hide (HB2.out.trans (hb3.mono HB2.out.size)); clear hb3 hown)
    | (go_at_call 31; refine (A1.out _ HIN1.out).mono ?_; rintro e w2 ⟨rfl, hb2⟩; have HB2 := hide (HB1.out.trans (hb2.mono HB1.out.size)); clear hb2)
    | (go_at_call 30; refine (A0.out).mono ?_; rintro e w1 ⟨rfl, hb1⟩; have HB1 := hide hb1; have HIN1 := hide (HIN.out.below hb1 (Nat.le_refl _)); clear hb1))
  obtain ⟨R, hR⟩ : ∃ R, analyseS its = R := ⟨_, rfl⟩
  rw [hR] at HO3 hrl ⊢
  have HR := hide hR
  clear hR A0 A1 A3 HIN
  go_loopw [7] (fun a wr => ∃ k : Nat, k ≤ R.length ∧ a = .int .i64 k ∧ Below w3.heap.size w3 wr) (fun a _ => R.length - (intOf a).toNat)
  case atStart => exact ⟨0, by omega, rfl, Below.refl _ _⟩
  case round =>
    obtain ⟨k, hk, rfl, hb⟩ := hrel
    have HB := hide hb
    clear hb
    by_cases hlt : k < R.length
    · obtain ⟨g1, c1, hv1, _, hg1, _, _, hr1⟩ := own_el rpV_len HO3.out (List.getElem?_eq_getElem hlt)
      cases hv1
      have HRC : Hid (∀ W : World, Below w3.heap.size w3 W → W.cell? ⟨g1, k * 3, none⟩ = some (.int .i64 R[k].1) ∧ W.cell? ⟨g1, k * 3 + 1, none⟩ = some (.int .i64 R[k].2.1) ∧ W.cell? ⟨g1, k * 3 + 2, none⟩ = some (.int .i64 R[k].2.2)) := hide (fun W hW => ⟨(hW.cell (by exact hg1)).trans (hr1 0 _ rfl), (hW.cell (by exact hg1)).trans (hr1 1 _ rfl), (hW.cell (by exact hg1)).trans (hr1 2 _ rfl)⟩)
      have hmem := analyse_mem (its := its) (x := R[k]) (by rw [HR.out]; exact List.getElem_mem hlt)
      clear hr1
      generalize R[k] = x at *
      have hki : (k : Int) < (R.length : Int) := by omega
      have hk0 : (0 : Int) ≤ (k : Int) := by omega
      rcases hmem with ⟨K, i, p, q1, q5, hi, rfl, hbad⟩ | ⟨K, lk, hK, rfl⟩
      · simp only at HRC
        obtain ⟨c0, c1', c2⟩ := HRC.out wr HB.out
        have AS := hide (fun W => wshow_in (Wd.mkS l) W its i K p (by rw [Wd.mkS_size]; unfold maxLen; omega) (by rw [mkS_list]; exact HSRC.out.read) hi)
        have HSI := hide (fun e h => shown_in hfine.out q1 hi hbad (e := e) h)
        have hK5 : ¬ (5 : Int) < (K : Int) := by omega
        have hlet : letK K ≠ 0 := by unfold letK; repeat' split
                                     all_goals decide
        clear hbad
        go_wp2_with fail
        go_at_call 25
        refine (AS.out _).mono ?_
        rintro e w4 ⟨hse, hb4⟩
        obtain ⟨sc, rfl, hsc, hscl, hlast⟩ := HSI.out _ hse
        have HB4 := hide (HB.out.trans (hb4.mono HB.out.size))
        have AT := hide (fun W => HSRC.out.trace 1 (by decide) (by decide) sc hscl hsc W)
        have htl := traceB_len its 1 sc (begin_ its)
        obtain ⟨d0, _, _⟩ := HRC.out w4 HB4.out
        have HLS := hide hlast
        have ALt := hide (fun W => letter_any K W q1 q5)
        clear hb4 hse HSI AS hsc hlast
        generalize traceB its 1 (begin_ its) sc = TT at *
        go_wp2_with fail
        go_at_call 33
        refine (AT.out _).mono ?_
        rintro e w5 ⟨rfl, hb5⟩
        have HB5 := hide (HB4.out.trans (hb5.mono HB4.out.size))
        obtain ⟨e0, _, _⟩ := HRC.out w5 HB5.out
        have AL := hide (fun W => last_any TT W (by omega))
        rw [HLS.out] at AL
        have b0 : (letK K == 0) = false := by simp [hlet]
        have b1 : (letK K != letK K) = false := by simp
        clear hb5 AT HLS hlet
        generalize letK K = c at *
        go_wp2_with fail
        go_quiet (first | (go_at_call 36; exact Calls.quiet_of_same (AL.out _)) | (go_at_call 37; exact Calls.quiet_of_same (ALt.out _)))
        go_wp2
        go_round
        case measure => simp [intOf]; omega
        case rel => exact ⟨k + 1, by omega, by go_num, below_drewN HB5.out _⟩
      · simp only at HRC
        obtain ⟨c0, c1', c2⟩ := HRC.out wr HB.out
        have AS := hide (fun W => wshow_out (Wd.mkS l) W its K (-1) lk (by rw [Wd.mkS_size]; unfold maxLen; omega) (by rw [mkS_list]; exact HSRC.out.read) (by omega))
        have hK5 : (5 : Int) < (K : Int) := by omega
        have hem : (Wd.mkS []).toList.isEmpty = true := by rw [mkS_toList]; rfl
        clear hK
        go_wp2_with (first | (go_at_call 25; refine (AS.out _).mono ?_; rintro e w4 ⟨rfl, hb4⟩; have HB4 := hide (HB.out.trans (hb4.mono HB.out.size)); obtain ⟨d0, _, _⟩ := HRC.out w4 HB4.out; clear hb4))
        go_round
        case measure => simp [intOf]; omega
        case rel => exact ⟨k + 1, by omega, by go_num, HB4.out⟩
    · go_wp2
      go_ret
      exact ⟨rfl, HB3.out.trans (HB.out.mono HB3.out.size)⟩
set_option maxRecDepth 100000 in
theorem shown_lifted (os : Os) (started : os.Started) (H : Type) (enc : TypeId × Value → H) :
    ReturnsInHanded {} Try.checked os 11 .any (Rows.shownSpec.pre6 enc Try.prog Try.f11 Rows.shownRow.domain false) (Rows.shownSpec.post enc Try.prog Try.f11 false true false false) := by
  refine returnsInHanded_of_change (C := Try.checked) Try.ownW started (by kernel_rfl) Try.func11
    (ChangeSpec.witness6 (enc := enc) (C := Try.checked) false ⟨#[], #[.slice none 0 0], []⟩ 8 (by kernel_rfl) (by kernel_rfl) (by kernel_rfl) (by kernel_rfl)) ?_
  intro W base args ds gs before hval0 hW hcnd _
  have hval : ∀ (j : Nat) t v, Try.f11.params[j]? = some t → args[j]? = some v → Value.okWide Try.prog W .any base t v := hval0
  have hW' := hW
  obtain ⟨p, q, hA0, hV, rfl, hfz, hnd⟩ := hW
  have hA : DataW.TrodAll enc Try.prog W 0 (fun _ => true) true Try.f11.params.toList args.toList ds p := hA0
  rw [Try.params11] at hA hval
  obtain ⟨v0, vs0, d0, ds0, p0, q0, hargs, rfl, rfl, h0, r0⟩ := trodAll_cons hA
  obtain ⟨rfl, rfl, rfl⟩ := trodAll_nil r0
  obtain rfl : args = #[v0] := by cases args; simp_all
  obtain ⟨rfl, rfl⟩ := trodVars_none hV
  clear hA0 hval0
  simp only [List.append_nil] at hW'
  have hlt : ∀ x ∈ p0, x.block < W.heap.size := fun x hx => by simpa using hW'.lt x (by simp [hx])
  obtain ⟨ps, hps⟩ := parts_of (hval 0 51 v0 rfl rfl) h0 hlt
  refine (shown_walk v0 ps W hps).mono fun e W' ⟨he, hg⟩ => ?_
  subst he
  refine ⟨_, rfl, _, _, _, [], p0, [], hW', ?_, ?_, ?_, hg.frame _, fun h => by cases h⟩
  · exact trodAll_cons_mk (shut_bool Try.underlying4 _) trodAll_mk0
  · have := trodAll_cons_mk (P := Try.prog) (Below.trod Try.laidOut (by kernel_rfl) (of_decide_eq_true (by kernel_rfl)) h0 hg hlt) trodAll_mk0
    simp only [List.append_nil] at this
    exact this
  · rfl

theorem shown_holds : Rows.ShownSaid :=
  OpenClaim.holds_of_wide 11 Try.f11 rfl rfl rfl rfl rfl rfl rfl ⟨rfl, rfl, rfl, rfl, rfl⟩ rfl rfl rfl rfl rfl (by kernel_rfl) Try.func11 (by kernel_rfl)
    (of_decide_eq_true (by kernel_rfl)) (by unfold Func.isWrapper; first | (rw [if_pos (by decide +kernel)]; kernel_rfl) | (rw [if_neg (by decide +kernel)]; exact ⟨rfl, rfl⟩))
    (fun os started H enc _ => shown_lifted os started H enc)
#print axioms shown_holds
end Go.Proofs.Ytecmfdkhcffpmaa
