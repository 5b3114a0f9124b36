/- For every text, every report and every number, wardenlaw.Finds returns true: what Show answers, of any report and of the k-th that there is, is what the document asks: by its machine the script ends so, there (P9). No condition. -/
import Derived.Test.YtecmfdkhcffpmaaRows
import Derived.Test.YtecmfdkhcffpmaaB52
import Derived.Test.YtecmfdkhcffpmaaB54
import Derived.ProofKit
import Derived.OpenShut
import Derived.ShutString
import Derived.Carry
import Derived.Deep.Strs
namespace Go.Proofs.Ytecmfdkhcffpmaa
open Go.ChangeShapes Go.WideShapes Go.ChangeAt Go.RowKit
open Go.ChangeMaps (open_string shut_string)
set_option linter.unusedVariables false
set_option linter.unusedSimpArgs false
open Mc

theorem Try.ownF : ownKnob Try.prog.godebug = none := by kernel_rfl
theorem Try.laidOutF : laidOutB Try.prog = true := by kernel_rfl
theorem rangeF {n : Int} (h : (Lit.int .i64 n).wf = true) : -9223372036854775808 ≤ n ∧ n ≤ 9223372036854775807 := by
  simp [Lit.wf, IntKind.min, IntKind.max, IntKind.bits, IntKind.signed] at h
  omega
theorem in_no {its : List Wd.It} {K I P : Int} (h : ∀ i : Nat, I = i → i < its.length → ∀ p : Nat, P = p → ∀ k : Nat, K = k → 1 ≤ k → ¬ BadAt (isH its i) (bodyOf its i) k p) : inB (analyseS its) K I P = false := by
  cases hq : inB (analyseS its) K I P
  · rfl
  · exfalso
    obtain ⟨hm, h5⟩ := (inB_iff _ _ _ _).1 hq
    rcases analyse_mem hm with ⟨k, i, p, q1, q5, hi, hx, hb⟩ | ⟨k, l, hk, hx⟩
    · simp only [Prod.mk.injEq] at hx
      exact h i hx.2.1 hi p hx.2.2 k hx.1 q1 hb
    · simp only [Prod.mk.injEq] at hx
      have := hx.1
      omega
theorem wshow_good (s : ByteArray) (w : World) (its : List Wd.It) (K I P : Int) (hs : s.size ≤ maxLen) (hread : Wd.readP s.data.toList = .ok its) :
    Calls Try.prog 25 #[.string s, .agg #[.int .i64 K, .int .i64 I, .int .i64 P]] w fun e w' => (∃ sc ee, e = .returned (.tuple #[.string (Wd.mkS sc), .int .i64 ee]) ∧ GoodS its K I P sc ee) ∧ Below w.heap.size w w' := by
  have hf := fine_of hread
  by_cases hI : 0 ≤ I ∧ I < its.length
  · obtain ⟨i, rfl⟩ : ∃ i : Nat, I = i := ⟨I.toNat, by omega⟩
    have hi : i < its.length := by omega
    refine (wshow_in s w its i K P hs hread hi).mono ?_
    rintro e w' ⟨⟨L, hF, h | h⟩, hb⟩
    · obtain ⟨j, r, a1, a2, a3, a4, rfl⟩ := h
      refine ⟨⟨_, _, rfl, Or.inr ⟨?_, rfl, ?_⟩⟩, hb⟩
      · rw [inB_iff]
        have hkb := kd_bd (isH its i) (bodyOf its i) r.st
        obtain ⟨k, hk⟩ : ∃ k : Nat, K = k := ⟨K.toNat, by omega⟩
        subst hk
        refine ⟨?_, by omega⟩
        rw [← a4]
        have hR : Rch (isH its i) (bodyOf its i) r.st := (hF.all _).2 ⟨r, List.mem_of_getElem? a1, rfl⟩
        exact solo_mem (by omega) (by omega) hi (hR.place (hf.gb hi)) ⟨r.h, r.off, hR, a2⟩
      · have hn : faultP (isH its i) (bodyOf its i) r.p r.h r.off ≠ 0 := by
          intro e
          have hkk : kindP (faultP (isH its i) (bodyOf its i) r.p r.h r.off) = K := a2
          rw [e] at hkk; exact a3 hkk.symm
        obtain ⟨_, c2, c3⟩ := show_plain hf hi hF a1 hn
        exact ⟨c3, c2, ends_plain hf hi hF a1 a2 a3 a4⟩
    · obtain ⟨h1, rfl⟩ := h
      refine ⟨⟨_, _, rfl, Or.inl ⟨in_no fun i' e1 hi' p e2 k e3 q1 hb' => ?_, rfl, rfl⟩⟩, hb⟩
      have e1' : i' = i := by omega
      subst e1'
      obtain ⟨hh, off, hr, hk⟩ := hb'
      obtain ⟨r, hr1, hr2⟩ := (hF.all _).1 hr
      have e4 : r.p = p := by have := congrArg (fun s : St3 => s.1) hr2; simpa [Rc.st] using this
      refine h1 r hr1 ⟨?_, ?_, by rw [e4, e2]⟩
      · rw [hr2, hk]; omega
      · rw [hr2, hk, e3]
  · refine (wshow_out s w its K I P hs hread hI).mono ?_
    rintro e w' ⟨rfl, hb⟩
    refine ⟨⟨_, _, rfl, Or.inl ⟨in_no fun i e1 hi p _ k _ _ _ => hI ⟨by omega, by omega⟩, rfl, rfl⟩⟩, hb⟩
set_option maxRecDepth 100000 in
set_option maxHeartbeats 8000000 in
theorem finds_no (s : ByteArray) (K I P k : Int) (hs : s.size ≤ maxLen) (w : World) (x : Int × Int) (hread : Wd.readP s.data.toList = .error x) :
    Calls Try.prog 8 #[.string s, .agg #[.int .i64 K, .int .i64 I, .int .i64 P], .int .i64 k] w fun e w' => e = .returned (.bool true) ∧ Below w.heap.size w w' := by
  have A1 := hide (fun W => wshow_err s W x K I P hs hread)
  have A2 := hide (fun W => dshown_err s W x K I P hs hread)
  have A3 := fun W => danalyse_any s W hs
  rw [hread] at A3
  have HA3 := hide A3
  clear A3 hread
  have HW0 := hide (Row.new w #[.int .i64 K, .int .i64 I, .int .i64 P] 41)
  have HB0 := hide (below_one w (.cells #[.int .i64 K, .int .i64 I, .int .i64 P] 41))
  go_enter Try.func8, Try.ntmps8
  by_cases hk : k < 0
  · go_wp2_with (first
      | (go_at_call 22; refine (HA3.out _).mono ?_; rintro e w3 ⟨hb3, rfl⟩; have HB3 := hide (below_go HB2.out hb3); clear hb3)
      | (go_at_call 26; refine (A2.out _).mono ?_; rintro e w2 ⟨rfl, hb2⟩; have HB2 := hide (below_go HB1.out hb2); clear hb2)
      | (go_at_call 25; refine (A1.out _).mono ?_; rintro e w1 ⟨rfl, hb1⟩; have HB1 := hide (below_go HB0.out hb1); have HW1 := hide (HW0.out.below hb1); have y0 : w1.cell? ⟨w.heap.size, 0, none⟩ = some (.int .i64 K) := HW1.out.cell 0 rfl; have y1 : w1.cell? ⟨w.heap.size, 1, none⟩ = some (.int .i64 I) := HW1.out.cell 1 rfl; have y2 : w1.cell? ⟨w.heap.size, 2, none⟩ = some (.int .i64 P) := HW1.out.cell 2 rfl; clear hb1))
    go_ret
    exact ⟨rfl, HB3.out⟩
  · go_wp2_with (first
      | (go_at_call 22; refine (HA3.out _).mono ?_; rintro e w3 ⟨hb3, rfl⟩; have HB3 := hide (below_go HB2.out hb3); clear hb3)
      | (go_at_call 26; refine (A2.out _).mono ?_; rintro e w2 ⟨rfl, hb2⟩; have HB2 := hide (below_go HB1.out hb2); clear hb2)
      | (go_at_call 25; refine (A1.out _).mono ?_; rintro e w1 ⟨rfl, hb1⟩; have HB1 := hide (below_go HB0.out hb1); have HW1 := hide (HW0.out.below hb1); have y0 : w1.cell? ⟨w.heap.size, 0, none⟩ = some (.int .i64 K) := HW1.out.cell 0 rfl; have y1 : w1.cell? ⟨w.heap.size, 1, none⟩ = some (.int .i64 I) := HW1.out.cell 1 rfl; have y2 : w1.cell? ⟨w.heap.size, 2, none⟩ = some (.int .i64 P) := HW1.out.cell 2 rfl; clear hb1))
    go_ret
    exact ⟨rfl, HB3.out⟩
set_option maxRecDepth 100000 in
set_option maxHeartbeats 8000000 in
theorem finds_yes (s : ByteArray) (K I P k : Int) (hs : s.size ≤ maxLen) (w : World) (its : List Wd.It) (hread : Wd.readP s.data.toList = .ok its) :
    Calls Try.prog 8 #[.string s, .agg #[.int .i64 K, .int .i64 I, .int .i64 P], .int .i64 k] w fun e w' => e = .returned (.bool true) ∧ Below w.heap.size w w' := by
  have A1 := hide (fun W K I P => wshow_good s W its K I P hs hread)
  have A2 := hide (fun W K I P sc ee h => dshown_ok s W its K I P sc ee hs hread h)
  have A3 := fun W => danalyse_any s W hs
  rw [hread] at A3
  have HA3 := hide A3
  have hrl := rep_lenD its (fine_of hread)
  clear A3 hread
  have HW0 := hide (Row.new w #[.int .i64 K, .int .i64 I, .int .i64 P] 41)
  have HB0 := hide (below_one w (.cells #[.int .i64 K, .int .i64 I, .int .i64 P] 41))
  go_enter Try.func8, Try.ntmps8
  go_wp2_with fail
  go_at_call 25
  refine (A1.out _ _ _ _).mono ?_
  rintro e w1 ⟨⟨sc, ee, rfl, hgood⟩, hb1⟩
  have HB1 := hide (below_go HB0.out hb1)
  have HW1 := hide (HW0.out.below hb1)
  have y0 : w1.cell? ⟨w.heap.size, 0, none⟩ = some (.int .i64 K) := HW1.out.cell 0 rfl
  have y1 : w1.cell? ⟨w.heap.size, 1, none⟩ = some (.int .i64 I) := HW1.out.cell 1 rfl
  have y2 : w1.cell? ⟨w.heap.size, 2, none⟩ = some (.int .i64 P) := HW1.out.cell 2 rfl
  have HGD := hide hgood
  clear hb1 hgood
  go_wp2_with fail
  go_at_call 26
  refine (A2.out _ _ _ _ _ _ HGD.out).mono ?_
  rintro e w2 ⟨rfl, hb2⟩
  have HB2 := hide (below_go HB1.out hb2)
  clear hb2 y0 y1 y2 HGD HW0 HW1 HB0 HB1
  go_wp2_with fail
  go_at_call 22
  refine (HA3.out _).mono ?_
  rintro e w3 ⟨hb3, ao, cc, rfl, hown⟩
  have HB3 := hide (below_go HB2.out hb3)
  generalize analyseS its = R at *
  have HO3 := hide hown
  clear hb3 hown HB2 HA3
  by_cases hk : k < 0
  · go_wp2
    go_ret
    exact ⟨rfl, HB3.out⟩
  by_cases hkl : k < (R.length : Int)
  case neg =>
    go_wp2
    go_ret
    exact ⟨rfl, HB3.out⟩
  obtain ⟨j, rfl⟩ : ∃ j : Nat, k = j := ⟨k.toNat, by omega⟩
  have hlt : j < R.length := by omega
  obtain ⟨g1, c1, hv1, _, hg1, _, _, hr1⟩ := own_el rpV_len HO3.out (List.getElem?_eq_getElem hlt)
  cases hv1
  have HRC : Hid (∀ W : World, Below w3.heap.size w3 W → W.cell? ⟨g1, j * 3, none⟩ = some (.int .i64 R[j].1) ∧ W.cell? ⟨g1, j * 3 + 1, none⟩ = some (.int .i64 R[j].2.1) ∧ W.cell? ⟨g1, j * 3 + 2, none⟩ = some (.int .i64 R[j].2.2)) := hide (fun W hW => ⟨(hW.cell (by exact hg1)).trans (hr1 0 _ rfl), (hW.cell (by exact hg1)).trans (hr1 1 _ rfl), (hW.cell (by exact hg1)).trans (hr1 2 _ rfl)⟩)
  clear hr1
  generalize R[j].1 = x at *
  generalize R[j].2.1 = y at *
  generalize R[j].2.2 = z at *
  obtain ⟨d0, d1, d2⟩ := HRC.out w3 (Below.refl _ _)
  have hk0 : (0 : Int) ≤ (j : Int) := by omega
  go_wp2_with fail
  go_at_call 25
  refine (A1.out _ _ _ _).mono ?_
  rintro e w4 ⟨⟨sc4, ee4, rfl, hgood4⟩, hb4⟩
  have HB4 := hide (below_go HB3.out hb4)
  obtain ⟨e0, e1, e2⟩ := HRC.out w4 hb4
  have HGD := hide hgood4
  clear hb4 hgood4
  go_wp2_with fail
  go_at_call 26
  refine (A2.out _ _ _ _ _ _ HGD.out).mono ?_
  rintro e w5 ⟨rfl, hb5⟩
  have HB5 := hide (below_go HB4.out hb5)
  clear hb5
  go_wp2
  go_ret
  exact ⟨rfl, HB5.out⟩
theorem finds_walk (s : ByteArray) (K I P k : Int) (hs : s.size ≤ maxLen) (w : World) :
    Calls Try.prog 8 #[.string s, .agg #[.int .i64 K, .int .i64 I, .int .i64 P], .int .i64 k] w fun e w' => e = .returned (.bool true) ∧ Below w.heap.size w w' := by
  cases hr : Wd.readP s.data.toList with
  | error x => exact finds_no s K I P k hs w x hr
  | ok its => exact finds_yes s K I P k hs w its hr
theorem Try.cellsRepF : Try.prog.cellsOf 41 = 3 := by kernel_rfl
theorem Try.cellsIntF : Try.prog.cellsOf 3 = 1 := by kernel_rfl
set_option maxRecDepth 100000 in
theorem rep_of {H : Type} {enc : TypeId × Value → H} {W : World} {base : Nat} {v : Value} {d : DataW H} {p : List MemPlace} (hv : Value.okWide Try.prog W .any base 41 v) (h : DataW.Trod enc Try.prog W 0 (fun _ => true) true 41 v d p) : ∃ K I P : Int, v = .agg #[.int .i64 K, .int .i64 I, .int .i64 P] := by
  obtain ⟨cs, rfl, hcs⟩ := okWide_struct Try.underlying41 hv
  obtain ⟨fuel, hf⟩ := h
  have hf : DataW.trod enc Try.prog W 0 (fun _ => true) true fuel 41 cs.toList = some (d, p) := hf
  rw [Try.cellsRepF] at hcs
  obtain ⟨y0, y1, y2, n, _, hl, t0, t1, t2⟩ := Go.Deep.trod_struct3 Try.underlying41 hf
  obtain ⟨k0, e0, _⟩ := DataW.trod_int Try.underlying3 t0
  obtain ⟨k1, e1, _⟩ := DataW.trod_int Try.underlying3 t1
  obtain ⟨k2, e2, _⟩ := DataW.trod_int Try.underlying3 t2
  simp only [Try.cellsIntF] at e0 e1 e2
  obtain ⟨l⟩ := cs
  match l, hcs with
  | [a, b, c], _ =>
    simp at e0 e1 e2
    exact ⟨k0, k1, k2, by rw [e0, e1, e2]⟩
set_option maxRecDepth 100000 in
theorem finds_lifted (os : Os) (started : os.Started) (H : Type) (enc : TypeId × Value → H) :
    ReturnsInHanded {} Try.checked os 8 .any (Rows.findsSpec.pre6 enc Try.prog Try.f8 Rows.findsRow.domain false) (Rows.findsSpec.post enc Try.prog Try.f8 false true false false) := by
  refine returnsInHanded_of_change (C := Try.checked) Try.ownF started (by kernel_rfl) Try.func8
    (ChangeSpec.witness6 (enc := enc) (C := Try.checked) false ⟨#[], #[.string ByteArray.empty, .agg #[.int .i64 0, .int .i64 0, .int .i64 0], .int .i64 0], []⟩ 8 (by kernel_rfl) (by kernel_rfl) (by kernel_rfl) (by kernel_rfl)) ?_
  intro W base args ds gs before hval0 hW hcnd _
  have hval : ∀ (j : Nat) t v, Try.f8.params[j]? = some t → args[j]? = some v → Value.okWide Try.prog W .any base t v := hval0
  have hW' := hW
  obtain ⟨p, q, hA0, hV, rfl, hfz, hnd⟩ := hW
  have hA : DataW.TrodAll enc Try.prog W 0 (fun _ => true) true Try.f8.params.toList args.toList ds p := hA0
  rw [Try.params8] at hA hval
  obtain ⟨v0, vs0, d0, ds0, p0, q0, hargs, rfl, rfl, h0, r0⟩ := trodAll_cons hA
  obtain ⟨v1, vs1, d1, ds1, p1, q1, rfl, rfl, rfl, h1, r1⟩ := trodAll_cons r0
  obtain ⟨v2, vs2, d2, ds2, p2, q2, rfl, rfl, rfl, h2, r2⟩ := trodAll_cons r1
  obtain ⟨rfl, rfl, rfl⟩ := trodAll_nil r2
  obtain rfl : args = #[v0, v1, v2] := by cases args; simp_all
  obtain ⟨rfl, rfl⟩ := trodVars_none hV
  obtain ⟨a0, rfl, rfl, rfl, w0⟩ := open_string Try.underlying9 (hval 0 9 v0 rfl rfl) h0
  obtain ⟨n2, rfl, rfl, rfl, w2⟩ := open_int Try.underlying3 (hval 2 3 v2 rfl rfl) h2
  clear hA0 hval0
  simp only [List.append_nil] at hW'
  have hlt : ∀ x ∈ p1, x.block < W.heap.size := fun x hx => by simpa using hW'.lt x (by simp [hx])
  obtain ⟨K, I, P, rfl⟩ := rep_of (hval 1 41 v1 rfl rfl) h1
  refine (finds_walk a0 K I P n2 w0 W).mono fun e W' ⟨he, hg⟩ => ?_
  subst he
  refine ⟨_, rfl, _, _, _, [], p1, [], hW', ?_, ?_, ?_, hg.frame _, fun h => by cases h⟩
  · exact trodAll_cons_mk (shut_bool Try.underlying4 _) trodAll_mk0
  · have := trodAll_cons_mk (P := Try.prog) (shut_string Try.underlying9 w0) (trodAll_cons_mk (Below.trod Try.laidOutF (by kernel_rfl) (of_decide_eq_true (by kernel_rfl)) h1 hg hlt) (trodAll_cons_mk (shut_int Try.underlying3 w2) trodAll_mk0))
    simp only [List.nil_append, List.append_nil] at this
    exact this
  · rfl

theorem finds_holds : Rows.FindsSaid :=
  OpenClaim.holds_of_wide 8 Try.f8 rfl rfl rfl rfl rfl rfl rfl ⟨rfl, rfl, rfl, rfl, rfl⟩ rfl rfl rfl rfl rfl (by kernel_rfl) Try.func8 (by kernel_rfl)
    (of_decide_eq_true (by kernel_rfl)) (by unfold Func.isWrapper; first | (rw [if_pos (by decide +kernel)]; kernel_rfl) | (rw [if_neg (by decide +kernel)]; exact ⟨rfl, rfl⟩))
    (fun os started H enc _ => finds_lifted os started H enc)
#print axioms finds_holds
end Go.Proofs.Ytecmfdkhcffpmaa
