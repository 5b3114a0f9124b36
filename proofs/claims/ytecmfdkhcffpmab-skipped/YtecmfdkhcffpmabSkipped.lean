/- For all raw parts, processors and scripts, wardenkeep.Skipped returns true: without the commands at which nothing was done the trace is the same but for their bytes (P6). No condition. -/
import Derived.Test.YtecmfdkhcffpmabRows
import Derived.Test.YtecmfdkhcffpmabB45
import Derived.Test.YtecmfdkhcffpmabB46
import Derived.Test.YtecmfdkhcffpmabKwM
import Derived.Test.YtecmfdkhcffpmabKpM
import Derived.BigQuiet
import Derived.Deep.QuietTactic
import Derived.Deep.RegionLaw
import Derived.Deep.AppendLies
namespace Go.Proofs.Ytecmfdkhcffpmab
open Go.ChangeShapes Go.WideShapes Go.ChangeAt Go.RowKit
open Go.ChangeMaps (open_string shut_string)
set_option linter.unusedVariables false
open Wd Mc

theorem Try.ownK : ownKnob Try.prog.godebug = none := by kernel_rfl
theorem bt_bd (c : UInt8) : 0 ≤ bt c ∧ bt c ≤ 255 := by unfold bt; have := c.toNat_lt; omega
set_option maxRecDepth 100000 in
set_option maxHeartbeats 8000000 in
theorem skipped_walk (v : Value) (ps : List Pt) (cpus : Int) (raw : ByteArray) (hr : raw.size ≤ maxLen) (hc0 : -9223372036854775808 ≤ cpus) (hc1 : cpus ≤ 9223372036854775807) (w : World) (hin : PartsIn w v ps) :
    Calls Try.prog 4 #[v, .int .i64 cpus, .string raw] w fun e w' => e = .returned (.bool true) ∧ Below w.heap.size w w' := by
  have hp := pickP_bd cpus 3 (by decide)
  obtain ⟨p, hpp⟩ : ∃ p : Nat, pickP cpus 3 = p := ⟨(pickP cpus 3).toNat, by omega⟩
  have hp3 : p < 3 := by omega
  have en : (((1 + p : Nat)) : Int) = 1 + (p : Int) := by omega
  obtain ⟨its, hsrc⟩ := src_prog ps 8 240 (by decide) (by decide) (by decide) (by decide)
  have hls := cmdsP_len (1 + p) raw.data.toList
  have hsc := cmdsP_script (1 + p) (by omega) (by omega) raw.data.toList
  have A0 := hide (lives_any w)
  have A1 := hide (fun W (h : PartsIn W v ps) => program_any v ps 8 240 W h (by decide) (by decide) (by decide))
  have A2 := fun W => pick_any cpus 3 W hc0 hc1 (by decide) (by decide)
  simp only [hpp] at A2
  have HA2 := hide A2
  have A4 := fun W => commands_any raw (1 + p) W hr (by omega) (by omega)
  simp only [en] at A4
  have HA4 := hide A4
  have A5 := fun W => hsrc.trace (1 + p) (by omega) (by omega) _ (by omega) hsc W
  simp only [en] at A5
  have HA5 := hide A5
  have htl := traceB_len its (1 + p) (cmdsP (1 + p) raw.data.toList) (begin_ its)
  have hrl := restP_len (traceB its (1 + p) (begin_ its) (cmdsP (1 + p) raw.data.toList)) (cmdsP (1 + p) raw.data.toList)
  have A6 := fun W => hsrc.trace (1 + p) (by omega) (by omega) (restP (traceB its (1 + p) (begin_ its) (cmdsP (1 + p) raw.data.toList)) (cmdsP (1 + p) raw.data.toList)) (by omega) (scriptB_rest _ _ _ hsc) W
  simp only [en, traceB_rest hsrc.fine] at A6
  have HA6 := hide A6
  clear A2 A4 A5 A6 hpp en hsrc hsc
  generalize flat (progR ps 8 240) = l at *
  generalize traceB its (1 + p) (begin_ its) (cmdsP (1 + p) raw.data.toList) = T at *
  generalize cmdsP (1 + p) raw.data.toList = s at *
  have hs4 : s.length ≤ 40000 := hls.1
  clear hls
  have hTs : 2 * T.length ≤ s.length := htl
  clear htl
  have s1 := Wd.mkS_size s
  have s2 := Wd.mkS_size T
  have HIN := hide hin
  clear hin
  obtain ⟨i0, hi0, hz0, hz1, hz2⟩ := info_parts Try.infoU8
  go_enter Try.func4, Try.ntmps4
  go_wp2_with (first
    | (go_at_call 12; refine (HA5.out _).mono ?_; rintro e w5 ⟨rfl, hb5⟩; have HB5 := hide (HB4.out.trans (hb5.mono HB4.out.size)); clear hb5; have HT5 := hide True.intro)
    | (go_at_call 11; refine (HA4.out _).mono ?_; rintro e w4 ⟨rfl, hb4⟩; have HB4 := hide (HB2.out.trans (hb4.mono HB2.out.size)); clear hb4)
    | (go_at_call 10; refine (HA2.out _).mono ?_; rintro e w' ⟨rfl, hww⟩; obtain rfl := hww.symm; clear hww)
    | (go_at_call 9; refine (A1.out _ HIN1.out).mono ?_; rintro e w2 ⟨rfl, hb2⟩; have HB2 := hide (HB1.out.trans (hb2.mono HB1.out.size)); clear hb2)
    | (go_at_call 8; refine (A0.out).mono ?_; rintro e w1 ⟨rfl, hb1⟩; have HB1 := hide hb1; have HIN1 := hide (HIN.out.below hb1 (Nat.le_refl _)); clear hb1))
  obtain ⟨B, hB⟩ : ∃ B, w5.heap.size = B := ⟨_, rfl⟩
  have HBB := hide hB
  clear hB
  go_loopw [13, 14, 15] (fun a c i wr => ∃ (k : Nat) (acc want : List UInt8), k ≤ T.length ∧ i = .int .i64 k ∧ acc.length ≤ 2 * k ∧ want.length ≤ k ∧ wr.ownsRow B 5 1 a acc.length (Wd.bytesV acc) ∧ wr.ownsRow B 5 1 c want.length (Wd.bytesV want) ∧ (∀ g, a.ownBlock = some g → c.ownBlock ≠ some g) ∧ acc = restP (T.take k) s ∧ want = (T.take k).filter keptB ∧ Below w5.heap.size w5 wr ∧ B ≤ wr.heap.size) (fun _ _ i _ => T.length - (intOf i).toNat)
  case atStart => exact ⟨0, [], [], by omega, rfl, by simp, by simp, World.ownsRow_nil _ _ _ _, World.ownsRow_nil _ _ _ _, fun g h => (by cases h), by simp [restP], by simp, Below.refl _ _, by rw [HBB.out]; exact Nat.le_refl _⟩
  case round =>
    obtain ⟨k, acc, want, hk, rfl, hal, hwl, hown, hownw, hdis, hacc, hwant, hb, hbs⟩ := hrel
    have HB := hide hb
    have HO := hide hown
    have HW := hide hownw
    have HD := hide hdis
    have HA := hide hacc
    have HN := hide hwant
    clear hb hown hownw hdis hacc hwant
    by_cases hlt : k < T.length
    · have HRS := hide (restP_step k T s hlt (by omega) (by omega))
      have HFS := hide (filter_step k T hlt)
      have hix : (((((Wd.mkS T)[k]'(by rw [s2]; omega)).toNat : Nat)) : Int) = bt T[k] := by rw [mkS_at]; simp [at_, bt, hlt]
      have hiy : (((((Wd.mkS s)[2 * k]'(by rw [s1]; omega)).toNat : Nat)) : Int) = bt s[2 * k] := by rw [mkS_at]; simp [at_, bt, show 2 * k < s.length from by omega]
      have hiz : (((((Wd.mkS s)[2 * k + 1]'(by rw [s1]; omega)).toNat : Nat)) : Int) = bt s[2 * k + 1] := by rw [mkS_at]; simp [at_, bt, show 2 * k + 1 < s.length from by omega]
      generalize T[k] = t at *
      generalize s[2 * k] = y at *
      generalize s[2 * k + 1] = z at *
      by_cases h1 : t = 95
      · have hb1 : bt t = 95 := by rw [h1]; rfl
        have hkp : keptB t = false := by rw [h1]; rfl
        rw [hb1] at hix
        rw [hkp] at HRS HFS
        clear hb1 hkp h1
        go_wp2
        go_round
        case rel => exact ⟨k + 1, acc, want, by omega, by go_num, by omega, by omega, HO.out, HW.out, HD.out, by rw [HRS.out, ← HA.out]; simp, by rw [HFS.out, ← HN.out]; simp, HB.out, hbs⟩
        case measure => simp [intOf]; omega
      by_cases h2 : t = 58
      · have hb1 : bt t = 58 := by rw [h2]; rfl
        have hkp : keptB t = false := by rw [h2]; rfl
        rw [hb1] at hix
        rw [hkp] at HRS HFS
        clear hb1 hkp h1 h2
        go_wp2
        go_round
        case rel => exact ⟨k + 1, acc, want, by omega, by go_num, by omega, by omega, HO.out, HW.out, HD.out, by rw [HRS.out, ← HA.out]; simp, by rw [HFS.out, ← HN.out]; simp, HB.out, hbs⟩
        case measure => simp [intOf]; omega
      · have b1 : (bt t != 95) = true := by simp; exact fun e => h1 (bt_inj (by rw [e]; rfl))
        have b2 : (bt t != 58) = true := by simp; exact fun e => h2 (bt_inj (by rw [e]; rfl))
        have hkp : keptB t = true := by simp [keptB, h1, h2]
        rw [hkp] at HRS HFS
        clear hkp h1 h2
        have ht := bt_bd t
        have hy := bt_bd y
        have hz := bt_bd z
        have HDT : Hid (bt t = bt t) := hide rfl
        go_wp2_with (first | (at_builtin; refine wpList_byteA rfl _ _ rfl B _ want t rfl _ _ rfl ?_ ?_ ?_ ?_ ?_; (exact HW.out.alloc _); (exact cell_one_new _ _ _); (omega); (simp; omega); intro v' w6 hown' hgrow6 hat; have HG := hide hgrow6; have HW6 := hide hown'; have HAT := hide hat; clear hgrow6 hown' hat))
        have HTW := hide (two_rows HO.out HD.out HG.out HAT.out)
        have HO6 := hide HTW.out.1
        have HD6 := hide HTW.out.2
        have HU := hide (grown_min HG.out HW.out)
        have hs6 : B ≤ w6.heap.size := by have := HG.out.size; simp at this; omega
        clear HTW HAT HG
        have hw0 : IntKind.i64.wrap (2 * (k : Int)) = 2 * (k : Int) := by rw [IntKind.wrap_i64]; omega
        have hw1 : IntKind.i64.wrap (2 * (k : Int) + 1) = 2 * (k : Int) + 1 := by rw [IntKind.wrap_i64]; omega
        have hn0 : (2 * (k : Int)).toNat = 2 * k := by omega
        have hn1 : (2 * (k : Int) + 1).toNat = 2 * k + 1 := by omega
        have hl0 : 2 * (k : Int) < (s.length : Int) := by omega
        have hl1 : 2 * (k : Int) + 1 < (s.length : Int) := by omega
        have hp0 : 0 ≤ 2 * (k : Int) := by omega
        have hp1 : 0 ≤ 2 * (k : Int) + 1 := by omega
        go_region_law ((refine step_append_lies _ (by rfl) _ _ _ (by rfl) B 5 i0 _ 1 1 Try.underlying30 hi0 hz0 hz1 hz2 rfl (by omega) u13 acc.length (Wd.bytesV acc) (by rfl) ((HO6.out.alloc _).drew) ⟨w6.heap.size, 0, none⟩ 2 2 [.int .u8 (bt y), .int .u8 (bt z)] (by rfl) (by rfl) (cell_two_new _ _ _ _) (by simp [Value.oneCell']) (by omega) (by unfold maxLen; omega) (by omega) (by simp; omega) (w6.heap.size + 1) (by simp) ?_; intro gg cap w7 hown7 hgrow7 hat7 hlt7; have HG7 := hide hgrow7; have HW7 := hide hown7; have HAT7 := hide hat7; clear hgrow7 hown7 hat7 hlt7))
        all_goals (
          go_wp2
          have HTX := hide (two_rowsD (k := acc.length + 2) (cap := cap) HW6.out HD6.out HG7.out HAT7.out)
          have HV := hide (grown_minD HG7.out HO6.out)
          go_round
          case rel => exact ⟨k + 1, acc ++ [y, z], want ++ [t], by omega, by go_num, by simp; omega, by simp; omega, own_two2 HW7.out, HTX.out.1, HTX.out.2, by rw [HRS.out, ← HA.out]; simp, by rw [HFS.out, ← HN.out]; simp, HB.out.trans ((HU.out.mono (by rw [HBB.out]; omega)).trans (HV.out.mono (by rw [HBB.out]; omega))), by have := HG7.out.size; simp at this; omega⟩
          case measure => simp [intOf]; omega)
    · have HF1 : Hid (acc = restP T s) := hide (by rw [HA.out, List.take_of_length_le (by omega)])
      have HF2 : Hid (want = T.filter keptB) := hide (by rw [HN.out, List.take_of_length_le (by omega)])
      rw [← HF1.out, ← HF2.out] at HA6
      have hcv := conv_own HO.out
      clear HA HN hrl
      go_wp2_with (first
        | (go_at_call 12; refine (HA6.out _).mono ?_; rintro e w8 ⟨rfl, hb8⟩; have HB8 := hide (HB5.out.trans ((HB.out.trans (hb8.mono HB.out.size)).mono HB5.out.size)); have hcv2 := conv_own (own_same HW.out (fun g _ hl => hb8.block g hl)); clear hb8))
      go_ret
      exact ⟨rfl, HB8.out⟩
set_option maxRecDepth 100000 in
theorem skipped_lifted (os : Os) (started : os.Started) (H : Type) (enc : TypeId × Value → H) :
    ReturnsInHanded {} Try.checked os 4 .any (Rows.skippedSpec.pre6 enc Try.prog Try.f4 Rows.skippedRow.domain false) (Rows.skippedSpec.post enc Try.prog Try.f4 false true false false) := by
  refine returnsInHanded_of_change (C := Try.checked) Try.ownK started (by kernel_rfl) Try.func4
    (ChangeSpec.witness6 (enc := enc) (C := Try.checked) false ⟨#[], #[.slice none 0 0, .int .i64 0, .string ByteArray.empty], []⟩ 8 (by kernel_rfl) (by kernel_rfl) (by kernel_rfl) (by kernel_rfl)) ?_
  intro W base args ds gs before hval0 hW hcnd _
  have hval : ∀ (j : Nat) t v, Try.f4.params[j]? = some t → args[j]? = some v → Value.okWide Try.prog W .any base t v := hval0
  have hW' := hW
  obtain ⟨p, q, hA0, hV, rfl, hfz, hnd⟩ := hW
  have hA : DataW.TrodAll enc Try.prog W 0 (fun _ => true) true Try.f4.params.toList args.toList ds p := hA0
  rw [Try.params4] at hA hval
  obtain ⟨v0, vs0, d0, ds0, p0, q0, hargs, rfl, rfl, h0, r0⟩ := trodAll_cons hA
  obtain ⟨v1, vs1, d1, ds1, p1, q1, rfl, rfl, rfl, h1, r1⟩ := trodAll_cons r0
  obtain ⟨v2, vs2, d2, ds2, p2, q2, rfl, rfl, rfl, h2, r2⟩ := trodAll_cons r1
  obtain ⟨rfl, rfl, rfl⟩ := trodAll_nil r2
  obtain rfl : args = #[v0, v1, v2] := by cases args; simp_all
  obtain ⟨rfl, rfl⟩ := trodVars_none hV
  obtain ⟨n1, rfl, rfl, rfl, w1⟩ := open_int Try.underlying3 (hval 1 3 v1 rfl rfl) h1
  obtain ⟨a2, rfl, rfl, rfl, w2⟩ := open_string Try.underlying9 (hval 2 9 v2 rfl rfl) h2
  clear hA0 hval0
  simp only [List.append_nil] at hW'
  have hlt : ∀ x ∈ p0, x.block < W.heap.size := fun x hx => by simpa using hW'.lt x (by simp [hx])
  have hn : -9223372036854775808 ≤ n1 ∧ n1 ≤ 9223372036854775807 := range64 w1
  obtain ⟨ps, hps⟩ := parts_of (hval 0 22 v0 rfl rfl) h0 hlt
  refine (skipped_walk v0 ps n1 a2 w2 hn.1 hn.2 W hps).mono fun e W' ⟨he, hg⟩ => ?_
  subst he
  refine ⟨_, rfl, _, _, _, [], p0, [], hW', ?_, ?_, ?_, hg.frame _, fun h => by cases h⟩
  · exact trodAll_cons_mk (shut_bool Try.underlying4 _) trodAll_mk0
  · have := trodAll_cons_mk (P := Try.prog) (Below.trod Try.laidOut (by kernel_rfl) (of_decide_eq_true (by kernel_rfl)) h0 hg hlt) (trodAll_cons_mk (shut_int Try.underlying3 w1) (trodAll_cons_mk (shut_string Try.underlying9 w2) trodAll_mk0))
    simp only [List.append_nil] at this
    exact this
  · rfl

theorem skipped_holds : Rows.SkippedSaid :=
  OpenClaim.holds_of_wide 4 Try.f4 rfl rfl rfl rfl rfl rfl rfl ⟨rfl, rfl, rfl, rfl, rfl⟩ rfl rfl rfl rfl rfl (by kernel_rfl) Try.func4 (by kernel_rfl)
    (of_decide_eq_true (by kernel_rfl)) (by unfold Func.isWrapper; first | (rw [if_pos (by decide +kernel)]; kernel_rfl) | (rw [if_neg (by decide +kernel)]; exact ⟨rfl, rfl⟩))
    (fun os started H enc _ => skipped_lifted os started H enc)
#print axioms skipped_holds
end Go.Proofs.Ytecmfdkhcffpmab
