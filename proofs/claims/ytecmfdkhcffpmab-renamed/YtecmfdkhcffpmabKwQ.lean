/- Contracts: a source with other names for its locks; is there an edge; the reports by the other names. -/
import Derived.Test.YtecmfdkhcffpmabKwN
import Derived.Test.YtecmfdkhcffpmabKpQ
namespace Go.Proofs.Ytecmfdkhcffpmab
open Go.RowKit
set_option linter.unusedSimpArgs false
set_option linter.unusedVariables false
set_option maxHeartbeats 8000000
open Wd Mc

set_option maxRecDepth 100000 in
theorem linked_yes (D : List (Int × Int)) (v : Value) (c i : Int) (w : World) (b : Nat) (hl : D.length ≤ 100000) (h1 : w.ownsRow b 50 2 v D.length (D.flatMap edV)) (hm : (c, i) ∈ D) :
    Calls Try.prog 21 #[v, .int .i64 c, .int .i64 i] w fun e w' => e = .returned (.bool true) ∧ w' = w := by
  have HO1 := hide h1
  obtain ⟨ao, cap1, rfl⟩ := own_v h1
  clear h1
  obtain ⟨j, hj, hRj⟩ := List.getElem_of_mem hm
  have HRJ := hide hRj
  clear hRj hm
  go_enter Try.func21, Try.ntmps21
  go_wp2
  go_loop [7] (fun a => ∃ k : Nat, k ≤ j ∧ a = .int .i64 k) (fun a => D.length - (intOf a).toNat)
  case atStart => exact ⟨0, Nat.zero_le _, rfl⟩
  case round =>
    obtain ⟨k, hk, rfl⟩ := hrel
    have hlt : k < D.length := by omega
    obtain ⟨g1, c1, hv1, _, hg1, _, _, hr1⟩ := own_el edV_len HO1.out (List.getElem?_eq_getElem hlt)
    cases hv1
    have d0 : w.cell? ⟨g1, k * 2, none⟩ = some (.int .i64 D[k].1) := hr1 0 _ rfl
    have d1 : w.cell? ⟨g1, k * 2 + 1, none⟩ = some (.int .i64 D[k].2) := hr1 1 _ rfl
    have HNE : Hid (¬ (D[k].1 = c ∧ D[k].2 = i) → k + 1 ≤ j) := hide (fun hn => by
      by_cases e : k = j
      · subst e; exfalso; apply hn; rw [HRJ.out]; exact ⟨rfl, rfl⟩
      · omega)
    clear hr1
    generalize D[k].1 = x at *
    generalize D[k].2 = y at *
    have hki : (k : Int) < (D.length : Int) := by omega
    have hk0 : (0 : Int) ≤ (k : Int) := by omega
    cases b1 : (x == c)
    · have hx : k + 1 ≤ j := HNE.out (fun h => by rw [h.1] at b1; simp at b1)
      go_wp2
      go_round
      case rel => exact ⟨k + 1, hx, by go_num⟩
      case measure => simp [intOf]; omega
    cases b2 : (y == i)
    · have hx : k + 1 ≤ j := HNE.out (fun h => by rw [h.2] at b2; simp at b2)
      go_wp2
      go_round
      case rel => exact ⟨k + 1, hx, by go_num⟩
      case measure => simp [intOf]; omega
    · go_wp2
      go_ret
      exact ⟨rfl, rfl⟩
/-- Six numbers in memory, as the order gives them. -/
def OrdIn (w : World) (v : Value) (π : Nat → Nat) : Prop := ∃ g cap, v = .slice (some ⟨g, 0, none⟩) 6 cap ∧ g < w.heap.size ∧ ∀ l, l < 6 → w.cell? ⟨g, l, none⟩ = some (.int .i64 (π l : Nat))
theorem OrdIn.below {w w' : World} {v : Value} {π : Nat → Nat} (h : OrdIn w v π) (hb : Below w.heap.size w w') : OrdIn w' v π := by
  obtain ⟨g, cap, h1, h2, h3⟩ := h
  exact ⟨g, cap, h1, Nat.lt_of_lt_of_le h2 hb.size, fun l hl => by rw [hb.cell h2]; exact h3 l hl⟩
set_option maxRecDepth 100000 in
theorem renamed_any (src : List UInt8) (v : Value) (π ρ : Nat → Nat) (hp : Pm π ρ) (w : World) (hl : src.length ≤ 1000) (hv : OrdIn w v π) :
    Calls Try.prog 18 #[.string (Wd.mkS src), v] w fun e w' => e = .returned (.string (Wd.mkS (src.map (rn π)))) ∧ Below w.heap.size w w' := by
  obtain ⟨g, cap, rfl, hg, hcell⟩ := hv
  have HC := hide hcell
  clear hcell
  have hsz := Wd.mkS_size src
  have HP := hide hp
  clear hp
  have AO := hide (fun (c : Int) (W : World) (h0 : 0 ≤ c) (h1 : c ≤ 255) => one_int c W h0 h1)
  go_enter Try.func18, Try.ntmps18
  go_wp2
  go_loopw [5, 6] (fun out i wr => ∃ (k : Nat) (r : List UInt8), k ≤ src.length ∧ i = .int .i64 k ∧ out = .string (Wd.mkS r) ∧ r = (src.take k).map (rn π) ∧ Below w.heap.size w wr) (fun _ i _ => src.length - (intOf i).toNat)
  case atStart => exact ⟨0, [], by omega, rfl, rfl, by simp, Below.refl _ _⟩
  case round =>
    obtain ⟨k, r, hk, rfl, rfl, hr, hb⟩ := hrel
    have HB := hide hb
    have HR := hide hr
    have hrl : r.length = k := by rw [hr]; simp; omega
    clear hb hr
    have s1 := Wd.mkS_size r
    by_cases hlt : k < src.length
    · have hix : (((((Wd.mkS src)[k]'(by rw [hsz]; omega)).toNat : Nat)) : Int) = bt src[k] := by rw [mkS_at]; simp [at_, bt, hlt]
      have HS : Hid ((src.take (k + 1)).map (rn π) = r ++ [rn π src[k]]) := hide (by rw [HR.out, show src.take (k + 1) = src.take k ++ [src[k]] from (by simp), List.map_append]; rfl)
      have hc0 : 0 ≤ bt src[k] ∧ bt src[k] ≤ 255 := by unfold bt; have := (src[k]).toNat_lt; omega
      have HBT : Hid (bt (rn π src[k]) = rnI π (bt src[k])) := hide (rn_bt HP.out _)
      have hkl : (k : Int) < (src.length : Int) := by omega
      have hk0 : (0 : Int) ≤ (k : Int) := by omega
      generalize src[k] = c at *
      generalize hx : bt c = x at *
      have HX := hide hx
      clear hx
      by_cases h1 : 97 ≤ x
      · by_cases h2 : x ≤ 102
        · obtain ⟨l, hl6⟩ : ∃ l : Nat, x - 97 = l := ⟨(x - 97).toNat, by omega⟩
          have hl5 : l < 6 := by omega
          have hcl : wr.cell? ⟨g, l, none⟩ = some (.int .i64 (π l : Nat)) := by rw [HB.out.cell hg]; exact HC.out l hl5
          have hpl := HP.out.a l hl5
          have HE : Hid (b8 (97 + π l) = rn π c) := hide (by
            have h := HBT.out
            rw [(rnI_lk HP.out h1 h2).1, hl6, Int.toNat_natCast] at h
            refine bt_inj ?_
            rw [bt_b8 (by omega), h]; omega)
          generalize π l = y at *
          have hy0 : (0 : Int) ≤ (y : Int) := by omega
          have hl0 : (0 : Int) ≤ (l : Int) := by omega
          have hl7 : (l : Int) < 6 := by omega
          have hex : x = 97 + (l : Int) := by omega
          subst hex
          clear hl6
          go_wp2_with fail
          go_at_call 33
          refine (AO.out (97 + (y : Int)) _ (by omega) (by omega)).mono ?_
          rintro e w5 ⟨rfl, hb5⟩
          have HB5 := hide (below_go HB.out hb5)
          clear hb5
          rw [show ((97 : Int) + (y : Int)).toNat = 97 + y by omega]
          go_wp2_with (first | (refine wpList_cat rfl 9 9 _ _ rfl _ _ rfl rfl ?_ ?_; (simp; omega)))
          go_round
          case rel => exact ⟨k + 1, _, by omega, by go_num, rfl, by rw [HS.out, HE.out], HB5.out⟩
          case measure => simp [intOf]; omega
        · have hq : 0 ≤ x := by omega
          have HE : Hid (b8 x.toNat = rn π c) := hide (by
            have h := HBT.out
            rw [rnI_id (by omega), ← HX.out] at h
            refine bt_inj ?_
            rw [bt_b8 (by have := HX.out; omega), h]
            have := HX.out; omega)
          go_wp2_with fail
          go_at_call 33
          refine (AO.out x _ (by omega) (by omega)).mono ?_
          rintro e w5 ⟨rfl, hb5⟩
          have HB5 := hide (below_go HB.out hb5)
          clear hb5
          go_wp2_with (first | (refine wpList_cat rfl 9 9 _ _ rfl _ _ rfl rfl ?_ ?_; (simp; omega)))
          go_round
          case rel => exact ⟨k + 1, _, by omega, by go_num, rfl, by rw [HS.out, HE.out], HB5.out⟩
          case measure => simp [intOf]; omega
      · have hq : 0 ≤ x := by omega
        have HE : Hid (b8 x.toNat = rn π c) := hide (by
          have h := HBT.out
          rw [rnI_id (by omega), ← HX.out] at h
          refine bt_inj ?_
          rw [bt_b8 (by have := HX.out; omega), h]
          have := HX.out; omega)
        go_wp2_with fail
        go_at_call 33
        refine (AO.out x _ (by omega) (by omega)).mono ?_
        rintro e w5 ⟨rfl, hb5⟩
        have HB5 := hide (below_go HB.out hb5)
        clear hb5
        go_wp2_with (first | (refine wpList_cat rfl 9 9 _ _ rfl _ _ rfl rfl ?_ ?_; (simp; omega)))
        go_round
        case rel => exact ⟨k + 1, _, by omega, by go_num, rfl, by rw [HS.out, HE.out], HB5.out⟩
        case measure => simp [intOf]; omega
    · have e : k = src.length := by omega
      subst e
      go_wp2
      go_ret
      exact ⟨ret_strB (by rw [HR.out, List.take_length]), HB.out⟩
set_option maxRecDepth 100000 in
theorem mapped_yes (R R' : List Rp) (v1 v2 tv : Value) (π : Nat → Nat) (w : World) (b1 b2 : Nat) (hl : R.length ≤ 100000) (hll : R'.length = R.length) (h1 : w.ownsRow b1 75 3 v1 R.length (R.flatMap rpV)) (h2 : w.ownsRow b2 75 3 v2 R'.length (R'.flatMap rpV)) (ht : OrdIn w tv π) (hpi : ∀ l, l < 6 → π l < 6)
    (hm : ∀ r ∈ R, (r.1 ≠ 6 ∧ r ∈ R') ∨ (∃ l : Nat, l < 6 ∧ r = (6, -1, (l : Int)) ∧ ((6 : Int), (-1 : Int), (π l : Int)) ∈ R')) :
    Calls Try.prog 19 #[v1, v2, tv] w fun e w' => e = .returned (.bool true) ∧ Below w.heap.size w w' := by
  have HO1 := hide h1
  have HM := hide hm
  have AM := hide (fun (W : World) (hb : Below w.heap.size w W) (c i p : Int) (hx : (c, i, p) ∈ R') => among_yes R' v2 c i p W b2 (by omega) (own_same h2 (fun g _ hl => hb.block g hl)) hx)
  obtain ⟨ao, cap1, rfl⟩ := own_v h1
  rw [hll] at h2
  obtain ⟨bo, cap2, rfl⟩ := own_v h2
  obtain ⟨gt, ct, rfl, hgt, htc⟩ := ht
  have HTC := hide htc
  clear h1 h2 hm htc hll
  have hne : (((R.length : Nat) : Int) != ((R.length : Nat) : Int)) = false := by simp
  go_enter Try.func19, Try.ntmps19
  go_wp2
  go_loopw [7] (fun a wr => ∃ k : Nat, k ≤ R.length ∧ a = .int .i64 k ∧ Below w.heap.size w wr) (fun a _ => R.length - (intOf a).toNat)
  case atStart => exact ⟨0, Nat.zero_le _, rfl, Below.refl _ _⟩
  case round =>
    obtain ⟨k, hk, rfl, hbe⟩ := hrel
    have HB := hide hbe
    have hsz := hbe.size
    clear hbe
    by_cases hlt : k < R.length
    · obtain ⟨g1, c1, hv1, _, hg1, _, _, hr1⟩ := own_el rpV_len HO1.out (List.getElem?_eq_getElem hlt)
      cases hv1
      have d0 := (HB.out.cell (p := ⟨g1, k * 3, none⟩) hg1).trans (hr1 0 _ rfl)
      have d1 := (HB.out.cell (p := ⟨g1, k * 3 + 1, none⟩) hg1).trans (hr1 1 _ rfl)
      have d2 := (HB.out.cell (p := ⟨g1, k * 3 + 2, none⟩) hg1).trans (hr1 2 _ rfl)
      have hm := HM.out R[k] (List.getElem_mem hlt)
      clear hr1
      generalize R[k] = r at *
      have hki : (k : Int) < (R.length : Int) := by omega
      have hk0 : (0 : Int) ≤ (k : Int) := by omega
      rcases hm with ⟨hm1, hm2⟩ | ⟨l, hl6, rfl, hm2⟩
      · have b0 : (r.1 == 6) = false := by simpa using hm1
        have HM2 : Hid ((r.1, r.2.1, r.2.2) ∈ R') := hide hm2
        clear hm1 hm2
        generalize r.1 = x at *
        generalize r.2.1 = y at *
        generalize r.2.2 = z at *
        go_wp2_with fail
        go_at_call 34
        refine (AM.out _ (HB.out.alloc hsz _) _ _ _ HM2.out).mono ?_
        rintro e w' ⟨rfl, hww⟩
        obtain rfl := hww.symm
        clear hww
        go_wp2
        exact ⟨⟨k + 1, by omega, by go_num, HB.out.alloc hsz _⟩, by simp [intOf]; omega⟩
      · have HM2 : Hid (((6 : Int), (-1 : Int), (π l : Int)) ∈ R') := hide hm2
        have hcl : wr.cell? ⟨gt, l, none⟩ = some (.int .i64 (π l : Nat)) := by rw [HB.out.cell hgt]; exact HTC.out l hl6
        have hpl := hpi l hl6
        have hcl2 : (wr.alloc (.cells #[.int .i64 6, .int .i64 (-1), .int .i64 (l : Int)] 75)).cell? ⟨gt, l, none⟩ = some (.int .i64 (π l : Nat)) := by rw [(HB.out.alloc hsz _).cell hgt]; exact HTC.out l hl6
        clear hm2 hcl
        generalize π l = q at *
        have hl0 : (0 : Int) ≤ (l : Int) := by omega
        have hl7 : (l : Int) < 6 := by omega
        go_wp2_with fail
        go_at_call 34
        refine (AM.out _ (by first | exact HB.out.alloc hsz _ | exact (HB.out.alloc hsz _).setCell hsz _) _ _ _ HM2.out).mono ?_
        rintro e w' ⟨rfl, hww⟩
        obtain rfl := hww.symm
        clear hww
        go_wp2
        exact ⟨⟨k + 1, by omega, by go_num, by first | exact HB.out.alloc hsz _ | exact (HB.out.alloc hsz _).setCell hsz _⟩, by simp [intOf]; omega⟩
    · go_wp2
      go_ret
      exact ⟨rfl, HB.out⟩
end Go.Proofs.Ytecmfdkhcffpmab
