/- For all raw parts and raw numbers, wardenkeep.Told returns true: behind any program stand items with which something goes wrong, in ten ways: there is that report (P8, P10). No condition. -/
import Derived.Test.YtecmfdkhcffpmaaRows
import Derived.Test.YtecmfdkhcffpmaaB45
import Derived.Test.YtecmfdkhcffpmaaB46
import Derived.Test.YtecmfdkhcffpmaaKwN
namespace Go.Proofs.Ytecmfdkhcffpmaa
open Go.ChangeShapes Go.WideShapes Go.ChangeAt Go.RowKit
open Go.ChangeMaps (open_string shut_string)
set_option linter.unusedVariables false
open Wd Mc

theorem Try.ownT : ownKnob Try.prog.godebug = none := by kernel_rfl
theorem src_told (ps : List Pt) {d a b k : Nat} (ha : a < 6) (hb : b < 6) (hk : k < 4) : Src (flat (progR ps 6 200) ++ flat (harmI d a b k)) ((progR ps 6 200 ++ harmI d a b k).map itOf) := by
  obtain ⟨h1, h2, h3, h4⟩ := progR_ok ps 6 200 (by decide) (by decide)
  have hl := harm_len d a b k
  rw [← flat_app]
  have hlen : (flat (progR ps 6 200 ++ harmI d a b k)).length ≤ 240 := by rw [flat_app, List.length_append]; omega
  refine ⟨readP_woven _ (fun x hx => ?_) (by rw [List.length_append]; omega) (by rw [List.length_append]; omega) hlen, hlen⟩
  rcases List.mem_append.1 hx with hx | hx
  · exact h1 x hx
  · exact harm_wv ha hb hk x hx
set_option maxRecDepth 100000 in
set_option maxHeartbeats 8000000 in
theorem told_walk (v : Value) (ps : List Pt) (d x y c : Int) (hd0 : -9223372036854775808 ≤ d) (hd1 : d ≤ 9223372036854775807) (hx0 : -9223372036854775808 ≤ x) (hx1 : x ≤ 9223372036854775807) (hy0 : -9223372036854775808 ≤ y) (hy1 : y ≤ 9223372036854775807) (hc0 : -9223372036854775808 ≤ c) (hc1 : c ≤ 9223372036854775807) (w : World) (hin : PartsIn w v ps) :
    Calls Try.prog 13 #[v, .int .i64 d, .int .i64 x, .int .i64 y, .int .i64 c] w fun e w' => e = .returned (.bool true) ∧ Below w.heap.size w w' := by
  have pd := pickP_bd d 10 (by decide)
  have px := pickP_bd x 6 (by decide)
  have py := pickP_bd y 5 (by decide)
  have pc := pickP_bd c 4 (by decide)
  obtain ⟨D, hD⟩ : ∃ n : Nat, pickP d 10 = n := ⟨(pickP d 10).toNat, by omega⟩
  obtain ⟨a, ha⟩ : ∃ n : Nat, pickP x 6 = n := ⟨(pickP x 6).toNat, by omega⟩
  obtain ⟨e, he⟩ : ∃ n : Nat, pickP y 5 = n := ⟨(pickP y 5).toNat, by omega⟩
  obtain ⟨k, hk⟩ : ∃ n : Nat, pickP c 4 = n := ⟨(pickP c 4).toNat, by omega⟩
  have AD := fun W => pick_any d 10 W hd0 hd1 (by decide) (by decide)
  have AX := fun W => pick_any x 6 W hx0 hx1 (by decide) (by decide)
  have AY := fun W => pick_any y 5 W hy0 hy1 (by decide) (by decide)
  have AC := fun W => pick_any c 4 W hc0 hc1 (by decide) (by decide)
  simp only [hD] at AD
  simp only [ha] at AX
  simp only [he] at AY
  simp only [hk] at AC
  have HAD := hide AD
  have HAX := hide AX
  have HAY := hide AY
  have HAC := hide AC
  have hD10 : D < 10 := by omega
  have ha6 : a < 6 := by omega
  have he5 : e < 5 := by omega
  have hk4 : k < 4 := by omega
  clear AD AX AY AC hD ha he hk pd px py pc
  obtain ⟨b, hb⟩ : ∃ b : Nat, (a + 1 + e) % 6 = b := ⟨_, rfl⟩
  have hb6 : b < 6 := by omega
  have hab : a ≠ b := by omega
  have m1 : ((a : Int) + 1 + (e : Int)) % 6 = b := by omega
  have m2 : ((a : Int) + 1 + (e : Int)).tmod 6 = b := by rw [Int.tmod_eq_emod_of_nonneg (by omega)]; exact m1
  clear hb
  obtain ⟨its1, hs1⟩ := src_prog ps 6 200 (by decide) (by decide) (by decide) (by decide)
  have hs2 := src_told ps (d := D) (a := a) (b := b) (k := k) ha6 hb6 hk4
  have hmem := harm_told (progR ps 6 200) (d := D) (a := a) (b := b) (k := k) hD10 ha6 hb6 hk4 hab
  have hlen1 : its1.length = (progR ps 6 200).length := by
    have e1 := hs1.read
    rw [readP_prog ps 6 200 (by decide) (by decide) (by decide) (by decide)] at e1
    cases e1; simp
  rw [← hlen1] at hmem
  have hrl := rep_len _ hs2.fine
  have hl1 := hs1.len
  have hl2 : (flat (harmI D a b k)).length ≤ 22 := (harm_len D a b k).2
  have A0 := hide (lives_any w)
  have A1 := hide (fun W (h : PartsIn W v ps) => program_any v ps 6 200 W h (by decide) (by decide) (by decide))
  have AU := hide (fun W => hs1.unfold W)
  have AA := hide (fun W => hs2.analyse W)
  have AO1 := hide (fun W => one_int (97 + (a : Int)) W (by omega) (by omega))
  have AO2 := hide (fun W => one_int (97 + (b : Int)) W (by omega) (by omega))
  have AO3 := hide (fun W => one_int (48 + (k : Int)) W (by omega) (by omega))
  have AH := hide (fun W => harm_any D a b k W hD10)
  rw [show (97 + (a : Int)).toNat = 97 + a from by omega, show b8 (97 + a) = lkB a from rfl] at AO1
  rw [show (97 + (b : Int)).toNat = 97 + b from by omega, show b8 (97 + b) = lkB b from rfl] at AO2
  rw [show (48 + (k : Int)).toNat = 48 + k from by omega, show b8 (48 + k) = clB k from rfl] at AO3
  clear hs1 hs2 hlen1
  generalize flat (progR ps 6 200) = l at *
  generalize flat (harmI D a b k) = t at *
  generalize analyseS ((progR ps 6 200 ++ harmI D a b k).map itOf) = R at *
  have hD7 : harmK D = 6 ∨ harmK D = 7 ∨ (harmK D ≠ 6 ∧ harmK D ≠ 7 ∧ harmK D < 6) := by
    unfold harmK
    repeat' split
    all_goals omega
  have HMEM := hide hmem
  clear hmem
  generalize lkB a = xb at *
  generalize lkB b = yb at *
  generalize clB k = cb at *
  generalize harmP D = P at *
  generalize harmK D = K at *
  have HIN := hide hin
  clear hin
  have AM := hide (fun u i p W b h hm => among_yes R u (K : Int) i p W b (by omega) h hm)
  rcases hD7 with rfl | rfl | ⟨k1, k2, k3⟩
  · have hm : (6, -1, (a : Int)) ∈ R := HMEM.out
    have HM := hide hm
    clear hm
    clear HMEM
    go_enter Try.func13, Try.ntmps13
    go_wp2_with (first
      | (refine wpList_cat rfl 9 9 _ _ rfl _ _ rfl rfl ?_ ?_; (omega))
      | (go_at_call 42; refine (AM.out _ _ _ _ _ HO7.out HM.out).mono ?_; rintro e w' ⟨rfl, hww⟩; obtain rfl := hww.symm; clear hww)
      | (go_at_call 21; refine (AA.out _).mono ?_; rintro e w7 ⟨hb7, ao, cc, rfl, hown⟩; have HO7 := hide hown; have HB7 := hide (HB6.out.trans (hb7.mono HB6.out.size)); clear hb7 hown)
      | (go_at_call 40; refine (AH.out _).mono ?_; rintro e w' ⟨rfl, hww⟩; obtain rfl := hww.symm; clear hww)
      | (have hq := HB5.out; go_at_call 41; refine (AO3.out _).mono ?_; rintro e w6 ⟨rfl, hb6⟩; have HB6 := hide (HB5.out.trans (hb6.mono HB5.out.size)); clear hb6 hq)
      | (have hq := HB4.out; go_at_call 41; refine (AO2.out _).mono ?_; rintro e w5 ⟨rfl, hb5⟩; have HB5 := hide (HB4.out.trans (hb5.mono HB4.out.size)); clear hb5 hq)
      | (go_at_call 41; refine (AO1.out _).mono ?_; rintro e w4 ⟨rfl, hb4⟩; have HB4 := hide (HB3.out.trans (hb4.mono HB3.out.size)); clear hb4)
      | (have hq := HT3.out; go_at_call 32; refine (HAD.out _).mono ?_; rintro e w' ⟨rfl, hww⟩; obtain rfl := hww.symm; clear hww hq)
      | (have hq := HT2.out; go_at_call 32; refine (HAC.out _).mono ?_; rintro e w' ⟨rfl, hww⟩; obtain rfl := hww.symm; clear hww hq; have HT3 := hide True.intro)
      | (have hq := HT1.out; go_at_call 32; refine (HAY.out _).mono ?_; rintro e w' ⟨rfl, hww⟩; obtain rfl := hww.symm; clear hww hq; have HT2 := hide True.intro)
      | (go_at_call 32; refine (HAX.out _).mono ?_; rintro e w' ⟨rfl, hww⟩; obtain rfl := hww.symm; clear hww; have HT1 := hide True.intro)
      | (go_at_call 17; refine (AU.out _).mono ?_; rintro e w3 ⟨hb3, ao3, cc3, rfl⟩; have HB3 := hide (HB2.out.trans (hb3.mono HB2.out.size)); clear hb3)
      | (go_at_call 31; refine (A1.out _ HIN1.out).mono ?_; rintro e w2 ⟨rfl, hb2⟩; have HB2 := hide (HB1.out.trans (hb2.mono HB1.out.size)); clear hb2)
      | (go_at_call 30; refine (A0.out).mono ?_; rintro e w1 ⟨rfl, hb1⟩; have HB1 := hide hb1; have HIN1 := hide (HIN.out.below hb1 (Nat.le_refl _)); clear hb1))
    go_ret
    exact ⟨rfl, HB7.out⟩
  · have hm : (7, -1, (k : Int)) ∈ R := HMEM.out
    have HM := hide hm
    clear hm
    clear HMEM
    go_enter Try.func13, Try.ntmps13
    go_wp2_with (first
      | (refine wpList_cat rfl 9 9 _ _ rfl _ _ rfl rfl ?_ ?_; (omega))
      | (go_at_call 42; refine (AM.out _ _ _ _ _ HO7.out HM.out).mono ?_; rintro e w' ⟨rfl, hww⟩; obtain rfl := hww.symm; clear hww)
      | (go_at_call 21; refine (AA.out _).mono ?_; rintro e w7 ⟨hb7, ao, cc, rfl, hown⟩; have HO7 := hide hown; have HB7 := hide (HB6.out.trans (hb7.mono HB6.out.size)); clear hb7 hown)
      | (go_at_call 40; refine (AH.out _).mono ?_; rintro e w' ⟨rfl, hww⟩; obtain rfl := hww.symm; clear hww)
      | (have hq := HB5.out; go_at_call 41; refine (AO3.out _).mono ?_; rintro e w6 ⟨rfl, hb6⟩; have HB6 := hide (HB5.out.trans (hb6.mono HB5.out.size)); clear hb6 hq)
      | (have hq := HB4.out; go_at_call 41; refine (AO2.out _).mono ?_; rintro e w5 ⟨rfl, hb5⟩; have HB5 := hide (HB4.out.trans (hb5.mono HB4.out.size)); clear hb5 hq)
      | (go_at_call 41; refine (AO1.out _).mono ?_; rintro e w4 ⟨rfl, hb4⟩; have HB4 := hide (HB3.out.trans (hb4.mono HB3.out.size)); clear hb4)
      | (have hq := HT3.out; go_at_call 32; refine (HAD.out _).mono ?_; rintro e w' ⟨rfl, hww⟩; obtain rfl := hww.symm; clear hww hq)
      | (have hq := HT2.out; go_at_call 32; refine (HAC.out _).mono ?_; rintro e w' ⟨rfl, hww⟩; obtain rfl := hww.symm; clear hww hq; have HT3 := hide True.intro)
      | (have hq := HT1.out; go_at_call 32; refine (HAY.out _).mono ?_; rintro e w' ⟨rfl, hww⟩; obtain rfl := hww.symm; clear hww hq; have HT2 := hide True.intro)
      | (go_at_call 32; refine (HAX.out _).mono ?_; rintro e w' ⟨rfl, hww⟩; obtain rfl := hww.symm; clear hww; have HT1 := hide True.intro)
      | (go_at_call 17; refine (AU.out _).mono ?_; rintro e w3 ⟨hb3, ao3, cc3, rfl⟩; have HB3 := hide (HB2.out.trans (hb3.mono HB2.out.size)); clear hb3)
      | (go_at_call 31; refine (A1.out _ HIN1.out).mono ?_; rintro e w2 ⟨rfl, hb2⟩; have HB2 := hide (HB1.out.trans (hb2.mono HB1.out.size)); clear hb2)
      | (go_at_call 30; refine (A0.out).mono ?_; rintro e w1 ⟨rfl, hb1⟩; have HB1 := hide hb1; have HIN1 := hide (HIN.out.below hb1 (Nat.le_refl _)); clear hb1))
    go_ret
    exact ⟨rfl, HB7.out⟩
  · have hm : ((K : Int), (its1.length : Int), P) ∈ R := by
      have := HMEM.out
      rw [if_neg k1, if_neg k2] at this
      exact this
    have HM := hide hm
    have b1 : ((K : Int) == 6) = false := by simp; omega
    have b2 : ((K : Int) == 7) = false := by simp; omega
    clear hm k1 k2
    clear HMEM
    go_enter Try.func13, Try.ntmps13
    go_wp2_with (first
      | (refine wpList_cat rfl 9 9 _ _ rfl _ _ rfl rfl ?_ ?_; (omega))
      | (go_at_call 42; refine (AM.out _ _ _ _ _ HO7.out HM.out).mono ?_; rintro e w' ⟨rfl, hww⟩; obtain rfl := hww.symm; clear hww)
      | (go_at_call 21; refine (AA.out _).mono ?_; rintro e w7 ⟨hb7, ao, cc, rfl, hown⟩; have HO7 := hide hown; have HB7 := hide (HB6.out.trans (hb7.mono HB6.out.size)); clear hb7 hown)
      | (go_at_call 40; refine (AH.out _).mono ?_; rintro e w' ⟨rfl, hww⟩; obtain rfl := hww.symm; clear hww)
      | (have hq := HB5.out; go_at_call 41; refine (AO3.out _).mono ?_; rintro e w6 ⟨rfl, hb6⟩; have HB6 := hide (HB5.out.trans (hb6.mono HB5.out.size)); clear hb6 hq)
      | (have hq := HB4.out; go_at_call 41; refine (AO2.out _).mono ?_; rintro e w5 ⟨rfl, hb5⟩; have HB5 := hide (HB4.out.trans (hb5.mono HB4.out.size)); clear hb5 hq)
      | (go_at_call 41; refine (AO1.out _).mono ?_; rintro e w4 ⟨rfl, hb4⟩; have HB4 := hide (HB3.out.trans (hb4.mono HB3.out.size)); clear hb4)
      | (have hq := HT3.out; go_at_call 32; refine (HAD.out _).mono ?_; rintro e w' ⟨rfl, hww⟩; obtain rfl := hww.symm; clear hww hq)
      | (have hq := HT2.out; go_at_call 32; refine (HAC.out _).mono ?_; rintro e w' ⟨rfl, hww⟩; obtain rfl := hww.symm; clear hww hq; have HT3 := hide True.intro)
      | (have hq := HT1.out; go_at_call 32; refine (HAY.out _).mono ?_; rintro e w' ⟨rfl, hww⟩; obtain rfl := hww.symm; clear hww hq; have HT2 := hide True.intro)
      | (go_at_call 32; refine (HAX.out _).mono ?_; rintro e w' ⟨rfl, hww⟩; obtain rfl := hww.symm; clear hww; have HT1 := hide True.intro)
      | (go_at_call 17; refine (AU.out _).mono ?_; rintro e w3 ⟨hb3, ao3, cc3, rfl⟩; have HB3 := hide (HB2.out.trans (hb3.mono HB2.out.size)); clear hb3)
      | (go_at_call 31; refine (A1.out _ HIN1.out).mono ?_; rintro e w2 ⟨rfl, hb2⟩; have HB2 := hide (HB1.out.trans (hb2.mono HB1.out.size)); clear hb2)
      | (go_at_call 30; refine (A0.out).mono ?_; rintro e w1 ⟨rfl, hb1⟩; have HB1 := hide hb1; have HIN1 := hide (HIN.out.below hb1 (Nat.le_refl _)); clear hb1))
    go_ret
    exact ⟨rfl, HB7.out⟩
set_option maxRecDepth 100000 in
theorem told_lifted (os : Os) (started : os.Started) (H : Type) (enc : TypeId × Value → H) :
    ReturnsInHanded {} Try.checked os 13 .any (Rows.toldSpec.pre6 enc Try.prog Try.f13 Rows.toldRow.domain false) (Rows.toldSpec.post enc Try.prog Try.f13 false true false false) := by
  refine returnsInHanded_of_change (C := Try.checked) Try.ownT started (by kernel_rfl) Try.func13
    (ChangeSpec.witness6 (enc := enc) (C := Try.checked) false ⟨#[], #[.slice none 0 0, .int .i64 0, .int .i64 0, .int .i64 0, .int .i64 0], []⟩ 8 (by kernel_rfl) (by kernel_rfl) (by kernel_rfl) (by kernel_rfl)) ?_
  intro W base args ds gs before hval0 hW hcnd _
  have hval : ∀ (j : Nat) t v, Try.f13.params[j]? = some t → args[j]? = some v → Value.okWide Try.prog W .any base t v := hval0
  have hW' := hW
  obtain ⟨p, q, hA0, hV, rfl, hfz, hnd⟩ := hW
  have hA : DataW.TrodAll enc Try.prog W 0 (fun _ => true) true Try.f13.params.toList args.toList ds p := hA0
  rw [Try.params13] at hA hval
  obtain ⟨v0, vs0, d0, ds0, p0, q0, hargs, rfl, rfl, h0, r0⟩ := trodAll_cons hA
  obtain ⟨v1, vs1, d1, ds1, p1, q1, rfl, rfl, rfl, h1, r1⟩ := trodAll_cons r0
  obtain ⟨v2, vs2, d2, ds2, p2, q2, rfl, rfl, rfl, h2, r2⟩ := trodAll_cons r1
  obtain ⟨v3, vs3, d3, ds3, p3, q3, rfl, rfl, rfl, h3, r3⟩ := trodAll_cons r2
  obtain ⟨v4, vs4, d4, ds4, p4, q4, rfl, rfl, rfl, h4, r4⟩ := trodAll_cons r3
  obtain ⟨rfl, rfl, rfl⟩ := trodAll_nil r4
  obtain rfl : args = #[v0, v1, v2, v3, v4] := by cases args; simp_all
  obtain ⟨rfl, rfl⟩ := trodVars_none hV
  obtain ⟨n1, rfl, rfl, rfl, w1⟩ := open_int Try.underlying3 (hval 1 3 v1 rfl rfl) h1
  obtain ⟨n2, rfl, rfl, rfl, w2⟩ := open_int Try.underlying3 (hval 2 3 v2 rfl rfl) h2
  obtain ⟨n3, rfl, rfl, rfl, w3⟩ := open_int Try.underlying3 (hval 3 3 v3 rfl rfl) h3
  obtain ⟨n4, rfl, rfl, rfl, w4⟩ := open_int Try.underlying3 (hval 4 3 v4 rfl rfl) h4
  clear hA0 hval0
  simp only [List.append_nil] at hW'
  have hlt : ∀ x ∈ p0, x.block < W.heap.size := fun x hx => by simpa using hW'.lt x (by simp [hx])
  have hn1 : -9223372036854775808 ≤ n1 ∧ n1 ≤ 9223372036854775807 := range64 w1
  have hn2 : -9223372036854775808 ≤ n2 ∧ n2 ≤ 9223372036854775807 := range64 w2
  have hn3 : -9223372036854775808 ≤ n3 ∧ n3 ≤ 9223372036854775807 := range64 w3
  have hn4 : -9223372036854775808 ≤ n4 ∧ n4 ≤ 9223372036854775807 := range64 w4
  obtain ⟨ps, hps⟩ := parts_of (hval 0 51 v0 rfl rfl) h0 hlt
  refine (told_walk v0 ps n1 n2 n3 n4 hn1.1 hn1.2 hn2.1 hn2.2 hn3.1 hn3.2 hn4.1 hn4.2 W hps).mono fun e W' ⟨he, hg⟩ => ?_
  subst he
  refine ⟨_, rfl, _, _, _, [], p0, [], hW', ?_, ?_, ?_, hg.frame _, fun h => by cases h⟩
  · exact trodAll_cons_mk (shut_bool Try.underlying4 _) trodAll_mk0
  · have := trodAll_cons_mk (P := Try.prog) (Below.trod Try.laidOut (by kernel_rfl) (of_decide_eq_true (by kernel_rfl)) h0 hg hlt) (trodAll_cons_mk (shut_int Try.underlying3 w1) (trodAll_cons_mk (shut_int Try.underlying3 w2) (trodAll_cons_mk (shut_int Try.underlying3 w3) (trodAll_cons_mk (shut_int Try.underlying3 w4) trodAll_mk0))))
    simp only [List.append_nil] at this
    exact this
  · rfl

theorem told_holds : Rows.ToldSaid :=
  OpenClaim.holds_of_wide 13 Try.f13 rfl rfl rfl rfl rfl rfl rfl ⟨rfl, rfl, rfl, rfl, rfl⟩ rfl rfl rfl rfl rfl (by kernel_rfl) Try.func13 (by kernel_rfl)
    (of_decide_eq_true (by kernel_rfl)) (by unfold Func.isWrapper; first | (rw [if_pos (by decide +kernel)]; kernel_rfl) | (rw [if_neg (by decide +kernel)]; exact ⟨rfl, rfl⟩))
    (fun os started H enc _ => told_lifted os started H enc)
#print axioms told_holds
end Go.Proofs.Ytecmfdkhcffpmaa
