/- For all raw parts, orders of the locks, processors and scripts, wardenkeep.Renamed returns true: with other names for the locks the trace is the same, and so are the reports and the edges, by the other names (P6, P8, P10). No condition. -/
import Derived.Test.YtecmfdkhcffpmabRows
import Derived.Test.YtecmfdkhcffpmabB45
import Derived.Test.YtecmfdkhcffpmabKwT
import Derived.Test.YtecmfdkhcffpmabKwO
import Derived.Test.YtecmfdkhcffpmabKwQ
namespace Go.Proofs.Ytecmfdkhcffpmab
open Go.ChangeShapes Go.WideShapes Go.ChangeAt Go.RowKit
open Go.ChangeMaps (open_string shut_string)
set_option linter.unusedVariables false
open Wd Mc

theorem Try.ownR : ownKnob Try.prog.godebug = none := by kernel_rfl
theorem ord_in {w : World} {B : Nat} {ao : Option Addr} {cc v : Nat} (h : w.ownsRow B 3 1 (.slice ao 6 cc) 6 ((ordP v).flatMap inV)) : OrdIn w (.slice ao 6 cc) (ordF v) := by
  have hl := ordP_len v
  rw [show (6 : Nat) = (ordP v).length from hl.symm] at h
  have key : ∀ l, l < 6 → ∃ g cap, (Value.slice ao (ordP v).length cc) = .slice (some ⟨g, 0, none⟩) (ordP v).length cap ∧ g < w.heap.size ∧ w.cell? ⟨g, l, none⟩ = some (.int .i64 (ordF v l : Nat)) := by
    intro l hlt
    have hlt : l < (ordP v).length := by omega
    obtain ⟨g, cap, h1, h2, h3, h4, h5, h6⟩ := own_el inV_len h (List.getElem?_eq_getElem hlt)
    refine ⟨g, cap, h1, h3, ?_⟩
    have := h6 0 _ rfl
    rw [Nat.mul_one, Nat.add_zero] at this
    rw [this]
    unfold ordF
    rw [List.getD_eq_getElem?_getD, List.getElem?_eq_getElem hlt]; rfl
  obtain ⟨g, cap, h1, h2, _⟩ := key 0 (by omega)
  cases h1
  refine ⟨g, _, rfl, h2, fun l hlt => ?_⟩
  obtain ⟨g', cap', h1', _, h3⟩ := key l hlt
  cases h1'
  exact h3
theorem drewN_heap (w : World) (n : Nat) : (w.drewN n).heap = w.heap := rfl
theorem own_drewN {w : World} {B : Nat} {t : TypeId} {n m k : Nat} {v : Value} {xs : List Value} (h : w.ownsRow B t n v m xs) : (w.drewN k).ownsRow B t n v m xs := h
set_option maxRecDepth 100000 in
set_option maxHeartbeats 8000000 in
theorem renamed_walk (v : Value) (ps : List Pt) (names cpus : Int) (raw : ByteArray) (hr : raw.size ≤ maxLen) (hn0 : -9223372036854775808 ≤ names) (hn1 : names ≤ 9223372036854775807) (hc0 : -9223372036854775808 ≤ cpus) (hc1 : cpus ≤ 9223372036854775807) (w : World) (hin : PartsIn w v ps) :
    Calls Try.prog 6 #[v, .int .i64 names, .int .i64 cpus, .string raw] w fun e w' => e = .returned (.bool true) ∧ Below w.heap.size w w' := by
  have hp := pickP_bd cpus 3 (by decide)
  obtain ⟨p, hpp⟩ : ∃ p : Nat, pickP cpus 3 = p := ⟨(pickP cpus 3).toNat, by omega⟩
  have hp3 : p < 3 := by omega
  have en : (((1 + p : Nat)) : Int) = 1 + (p : Int) := by omega
  have AO := fun W => order_any names W hn0 hn1
  generalize (pickP names 720).toNat = o at *
  have hpm := ordP_pm o
  obtain ⟨hw1, hw2, hw3, hw4⟩ := progR_ok ps 8 240 (by decide) (by decide)
  have hsrc : Src (flat (progR ps 8 240)) ((progR ps 8 240).map itOf) := ⟨readP_prog ps 8 240 (by decide) (by decide) (by decide) (by decide), hw2⟩
  have hsrc' : Src ((flat (progR ps 8 240)).map (rn (ordF o))) (rI (ordF o) ((progR ps 8 240).map itOf)) := ⟨readP_ren hpm _ hw1 hw3 hw4 hw2, by rw [List.length_map]; exact hw2⟩
  have hls := cmdsP_len (1 + p) raw.data.toList
  have hsc := cmdsP_script (1 + p) (by omega) (by omega) raw.data.toList
  have A0 := hide (lives_any w)
  have A1 := hide (fun W (h : PartsIn W v ps) => program_any v ps 8 240 W h (by decide) (by decide) (by decide))
  have A2 := fun W => pick_any cpus 3 W hc0 hc1 (by decide) (by decide)
  simp only [hpp] at A2
  have HA2 := hide A2
  have A4 := fun W => commands_any raw (1 + p) W hr (by omega) (by omega)
  simp only [en] at A4
  have HA4 := hide A4
  have A5 := fun W => hsrc.trace (1 + p) (by omega) (by omega) _ (by omega) hsc W
  simp only [en] at A5
  have HA5 := hide A5
  have A6 := fun W => hsrc'.trace (1 + p) (by omega) (by omega) _ (by omega) hsc W
  rw [trace_same hpm hsrc.fine hsrc'.fine (1 + p) (by omega) _ hsc] at A6
  simp only [en] at A6
  have HA6 := hide A6
  have HAO := hide AO
  have HN1 := hide (fun W tv (h : OrdIn W tv (ordF o)) => renamed_any (flat (progR ps 8 240)) tv (ordF o) (ordG o) hpm W (by omega) h)
  have A7 := hide (fun W => hsrc.analyse W)
  have A8 := hide (fun W => hsrc'.analyse W)
  have A9 := hide (fun W => hsrc.edges W)
  have A10 := hide (fun W => hsrc'.edges W)
  have hrl := rep_len _ hsrc.fine
  have hrr := rep_ren_len hpm hsrc.fine hsrc'.fine
  have HRR := hide (fun r (h : r ∈ analyseS ((progR ps 8 240).map itOf)) => rep_ren hpm hsrc.fine hsrc'.fine h)
  have hel := edgeL_len (edgeS ((progR ps 8 240).map itOf)) 6
  have her := edgeL_ren hpm hsrc.fine hsrc'.fine
  have HER := hide (fun r (h : r ∈ edgeL (edgeS ((progR ps 8 240).map itOf)) 6) => edge_ren hpm hsrc.fine hsrc'.fine h)
  clear A2 A4 A5 A6 AO hpp en hsrc hsrc' hw1 hw3 hw4
  generalize traceB ((progR ps 8 240).map itOf) (1 + p) (begin_ ((progR ps 8 240).map itOf)) (cmdsP (1 + p) raw.data.toList) = T at *
  generalize cmdsP (1 + p) raw.data.toList = s at *
  generalize analyseS (rI (ordF o) ((progR ps 8 240).map itOf)) = R' at *
  generalize analyseS ((progR ps 8 240).map itOf) = R at *
  generalize edgeL (edgeS (rI (ordF o) ((progR ps 8 240).map itOf))) 6 = D' at *
  generalize edgeL (edgeS ((progR ps 8 240).map itOf)) 6 = D at *
  generalize hM : (flat (progR ps 8 240)).map (rn (ordF o)) = M at *
  generalize flat (progR ps 8 240) = l at *
  clear hM
  have HPI := hide hpm.a
  have HOI := hide (fun (W : World) (B : Nat) (ao : Option Addr) (cc : Nat) (h : W.ownsRow B 3 1 (.slice ao 6 cc) 6 ((ordP o).flatMap inV)) => ord_in h)
  clear hpm
  have HMP := hide (fun v1 v2 tv W b1 b2 h1 h2 ht => mapped_yes R R' v1 v2 tv (ordF o) W b1 b2 (by omega) hrr h1 h2 ht HPI.out (fun r h => HRR.out r h))
  have hst : ((Wd.mkS T).toList == (Wd.mkS T).toList) = true := by simp
  have hst2 : ((Wd.mkS T).toList != (Wd.mkS T).toList) = false := by simp
  have hdl : (((D.length : Nat) : Int) != ((D'.length : Nat) : Int)) = false := by rw [her]; simp
  have hel2 : D'.length ≤ 100 := by omega
  have HIN := hide hin
  clear hin hsc hrr her
  generalize ordF o = π at *
  go_enter Try.func6, Try.ntmps6
  go_wp2_with fail
  go_at_call 8
  refine (A0.out).mono ?_
  rintro e w1 ⟨rfl, hb1⟩
  have HB1 := hide hb1
  have HIN1 := hide (HIN.out.below hb1 (Nat.le_refl _))
  clear hb1 HIN
  go_wp2_with fail
  go_at_call 17
  refine (HAO.out _).mono ?_
  rintro e w2 ⟨hb2, oa, oc, rfl, hown2⟩
  have HB2 := hide (below_go HB1.out hb2)
  have HOR2 := hide (HOI.out _ _ _ _ hown2)
  have HIN2 := hide (HIN1.out.below hb2 (Nat.le_refl _))
  clear hb2 HB1 HIN1 hown2 HOI
  go_wp2_with fail
  go_at_call 9
  refine (A1.out _ HIN2.out).mono ?_
  rintro e w3 ⟨rfl, hb3⟩
  have HB3 := hide (below_go HB2.out hb3)
  have HOR3 := hide (HOR2.out.below hb3)
  clear hb3 HB2 HIN2 HOR2
  go_wp2_with fail
  go_at_call 18
  refine (HN1.out _ _ HOR3.out).mono ?_
  rintro e w4 ⟨rfl, hb4⟩
  have HB4 := hide (below_go HB3.out hb4)
  have HOR4 := hide (HOR3.out.below hb4)
  clear hb4 HB3 HOR3
  go_wp2_with fail
  go_at_call 10
  refine (HA2.out _).mono ?_
  rintro e w' ⟨rfl, hww⟩
  obtain rfl := hww.symm
  clear hww
  go_wp2_with fail
  go_at_call 11
  refine (HA4.out _).mono ?_
  rintro e w5 ⟨rfl, hb5⟩
  have HB5 := hide (below_go HB4.out hb5)
  have HOR5 := hide (HOR4.out.below hb5)
  clear hb5 HB4 HOR4
  go_wp2_with fail
  go_at_call 12
  refine (HA5.out _).mono ?_
  rintro e w6 ⟨rfl, hb6⟩
  have HB6 := hide (below_go HB5.out hb6)
  have HOR6 := hide (HOR5.out.below hb6)
  clear hb6 HB5 HOR5
  go_wp2_with fail
  go_at_call 12
  refine (HA6.out _).mono ?_
  rintro e w7 ⟨rfl, hb7⟩
  have HB7 := hide (below_go HB6.out hb7)
  have HOR7 := hide (HOR6.out.below hb7)
  clear hb7 HB6 HOR6
  go_wp2_with fail
  go_at_call 13
  refine (A7.out _).mono ?_
  rintro e w8 ⟨hb8, ao8, cc8, rfl, hown8⟩
  have HB8 := hide (below_go HB7.out hb8)
  have HOR8 := hide (HOR7.out.below hb8)
  have HO8 := hide hown8
  clear hb8 hown8 HB7 HOR7
  go_wp2_with fail
  go_at_call 13
  refine (A8.out _).mono ?_
  rintro e w9 ⟨hb9, ao9, cc9, rfl, hown9⟩
  have HB9 := hide (below_go HB8.out hb9)
  have HOR9 := hide (HOR8.out.below hb9)
  have HO9 := hide hown9
  have HO8' := hide (own_same HO8.out (fun g _ hl => hb9.block g hl))
  clear hb9 hown9 HB8 HO8 HOR8
  go_wp2_with fail
  go_at_call 19
  refine (HMP.out _ _ _ _ _ _ HO8'.out HO9.out HOR9.out).mono ?_
  rintro e w10 ⟨rfl, hb10⟩
  have HB10 := hide (below_go HB9.out hb10)
  have HOR10 := hide (HOR9.out.below hb10)
  clear hb10 HB9 HO8' HO9 HOR9
  go_wp2_with fail
  go_at_call 20
  refine (A9.out _).mono ?_
  rintro e w11 ⟨hb11, ao11, cc11, rfl, hown11⟩
  have HB11 := hide (below_go HB10.out hb11)
  have HOR11 := hide (HOR10.out.below hb11)
  have HO11 := hide hown11
  clear hb11 hown11 HB10 HOR10
  go_wp2_with fail
  go_at_call 20
  refine (A10.out _).mono ?_
  rintro e w12 ⟨hb12, ao12, cc12, rfl, hown12⟩
  have HB12 := hide (below_go HB11.out hb12)
  have HOR12 := hide (HOR11.out.below hb12)
  have HO12 := hide hown12
  have HO11' := hide (own_same HO11.out (fun g _ hl => hb12.block g hl))
  clear hb12 hown12 HB11 HO11 HOR11
  have HLK := hide (fun (W : World) a b (hb : Below w12.heap.size w12 W) (hm : (a, b) ∈ D') => linked_yes D' _ a b W _ (by omega) (own_same HO12.out (fun g _ hl => hb.block g hl)) hm)
  obtain ⟨gt, ct, hgv, hgt, htc⟩ := HOR12.out
  cases hgv
  have HTC := hide htc
  clear htc HOR12 HO12
  go_wp2
  go_loopw [28] (fun a wr => ∃ k : Nat, k ≤ D.length ∧ a = .int .i64 k ∧ Below w12.heap.size w12 wr) (fun a _ => D.length - (intOf a).toNat)
  case atStart => exact ⟨0, Nat.zero_le _, rfl, Below.refl _ _⟩
  case round =>
    obtain ⟨k, hk, rfl, hbe⟩ := hrel
    have HB := hide hbe
    clear hbe
    by_cases hlt : k < D.length
    · obtain ⟨g1, c1, hv1, _, hg1, _, _, hr1⟩ := own_el edV_len HO11'.out (List.getElem?_eq_getElem hlt)
      cases hv1
      have d0 := (HB.out.cell (p := ⟨g1, k * 2, none⟩) hg1).trans (hr1 0 _ rfl)
      have d1 := (HB.out.cell (p := ⟨g1, k * 2 + 1, none⟩) hg1).trans (hr1 1 _ rfl)
      obtain ⟨a, b, ha6, hb6, hab, hmem⟩ := HER.out D[k] (List.getElem_mem hlt)
      clear hr1
      generalize D[k] = r at *
      subst hab
      have hka : wr.cell? ⟨gt, a, none⟩ = some (.int .i64 (π a : Nat)) := by rw [HB.out.cell hgt]; exact HTC.out a ha6
      have hkb : wr.cell? ⟨gt, b, none⟩ = some (.int .i64 (π b : Nat)) := by rw [HB.out.cell hgt]; exact HTC.out b hb6
      have HL := hide (fun n : Nat => HLK.out (wr.drewN n) _ _ (below_drewN HB.out n) hmem)
      clear hmem
      generalize π a = x at *
      generalize π b = y at *
      have hki : (k : Int) < (D.length : Int) := by omega
      have hk0 : (0 : Int) ≤ (k : Int) := by omega
      have ha0 : (0 : Int) ≤ (a : Int) := by omega
      have ha7 : (a : Int) < 6 := by omega
      have hb0 : (0 : Int) ≤ (b : Int) := by omega
      have hb7 : (b : Int) < 6 := by omega
      go_wp2_with fail
      go_quiet (first | (go_at_call 21; exact Calls.quiet_of_same (HL.out _)))
      go_wp2
      exact ⟨⟨k + 1, by omega, by go_num, below_drewN HB.out _⟩, by simp [intOf]; omega⟩
    · go_wp2
      go_ret
      exact ⟨rfl, HB12.out.trans (HB.out.mono HB12.out.size)⟩
set_option maxRecDepth 100000 in
theorem renamed_lifted (os : Os) (started : os.Started) (H : Type) (enc : TypeId × Value → H) :
    ReturnsInHanded {} Try.checked os 6 .any (Rows.renamedSpec.pre6 enc Try.prog Try.f6 Rows.renamedRow.domain false) (Rows.renamedSpec.post enc Try.prog Try.f6 false true false false) := by
  refine returnsInHanded_of_change (C := Try.checked) Try.ownR started (by kernel_rfl) Try.func6
    (ChangeSpec.witness6 (enc := enc) (C := Try.checked) false ⟨#[], #[.slice none 0 0, .int .i64 0, .int .i64 0, .string ByteArray.empty], []⟩ 8 (by kernel_rfl) (by kernel_rfl) (by kernel_rfl) (by kernel_rfl)) ?_
  intro W base args ds gs before hval0 hW hcnd _
  have hval : ∀ (j : Nat) t v, Try.f6.params[j]? = some t → args[j]? = some v → Value.okWide Try.prog W .any base t v := hval0
  have hW' := hW
  obtain ⟨p, q, hA0, hV, rfl, hfz, hnd⟩ := hW
  have hA : DataW.TrodAll enc Try.prog W 0 (fun _ => true) true Try.f6.params.toList args.toList ds p := hA0
  rw [Try.params6] at hA hval
  obtain ⟨v0, vs0, d0, ds0, p0, q0, hargs, rfl, rfl, h0, r0⟩ := trodAll_cons hA
  obtain ⟨v1, vs1, d1, ds1, p1, q1, rfl, rfl, rfl, h1, r1⟩ := trodAll_cons r0
  obtain ⟨v2, vs2, d2, ds2, p2, q2, rfl, rfl, rfl, h2, r2⟩ := trodAll_cons r1
  obtain ⟨v3, vs3, d3, ds3, p3, q3, rfl, rfl, rfl, h3, r3⟩ := trodAll_cons r2
  obtain ⟨rfl, rfl, rfl⟩ := trodAll_nil r3
  obtain rfl : args = #[v0, v1, v2, v3] := by cases args; simp_all
  obtain ⟨rfl, rfl⟩ := trodVars_none hV
  obtain ⟨n1, rfl, rfl, rfl, w1⟩ := open_int Try.underlying3 (hval 1 3 v1 rfl rfl) h1
  obtain ⟨n2, rfl, rfl, rfl, w2⟩ := open_int Try.underlying3 (hval 2 3 v2 rfl rfl) h2
  obtain ⟨a3, rfl, rfl, rfl, w3⟩ := open_string Try.underlying9 (hval 3 9 v3 rfl rfl) h3
  clear hA0 hval0
  simp only [List.append_nil] at hW'
  have hlt : ∀ x ∈ p0, x.block < W.heap.size := fun x hx => by simpa using hW'.lt x (by simp [hx])
  have hn : -9223372036854775808 ≤ n1 ∧ n1 ≤ 9223372036854775807 := range64 w1
  have hm : -9223372036854775808 ≤ n2 ∧ n2 ≤ 9223372036854775807 := range64 w2
  obtain ⟨ps, hps⟩ := parts_of (hval 0 22 v0 rfl rfl) h0 hlt
  refine (renamed_walk v0 ps n1 n2 a3 w3 hn.1 hn.2 hm.1 hm.2 W hps).mono fun e W' ⟨he, hg⟩ => ?_
  subst he
  refine ⟨_, rfl, _, _, _, [], p0, [], hW', ?_, ?_, ?_, hg.frame _, fun h => by cases h⟩
  · exact trodAll_cons_mk (shut_bool Try.underlying4 _) trodAll_mk0
  · have := trodAll_cons_mk (P := Try.prog) (Below.trod Try.laidOut (by kernel_rfl) (of_decide_eq_true (by kernel_rfl)) h0 hg hlt) (trodAll_cons_mk (shut_int Try.underlying3 w1) (trodAll_cons_mk (shut_int Try.underlying3 w2) (trodAll_cons_mk (shut_string Try.underlying9 w3) trodAll_mk0)))
    simp only [List.append_nil] at this
    exact this
  · rfl

theorem renamed_holds : Rows.RenamedSaid :=
  OpenClaim.holds_of_wide 6 Try.f6 rfl rfl rfl rfl rfl rfl rfl ⟨rfl, rfl, rfl, rfl, rfl⟩ rfl rfl rfl rfl rfl (by kernel_rfl) Try.func6 (by kernel_rfl)
    (of_decide_eq_true (by kernel_rfl)) (by unfold Func.isWrapper; first | (rw [if_pos (by decide +kernel)]; kernel_rfl) | (rw [if_neg (by decide +kernel)]; exact ⟨rfl, rfl⟩))
    (fun os started H enc _ => renamed_lifted os started H enc)
#print axioms renamed_holds
end Go.Proofs.Ytecmfdkhcffpmab
