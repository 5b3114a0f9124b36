/- Contract of the document's 'Check'. -/
import Derived.Test.YtecmfdkhcffpmaaRefH
namespace Go.Proofs.Ytecmfdkhcffpmaa
open Go.RowKit
set_option linter.unusedSimpArgs false
set_option linter.unusedVariables false
set_option maxHeartbeats 400000

theorem own_shape {w : World} {base : Nat} {e : TypeId} {v : Value} {n : Nat} {xs : List Value} (h : w.ownsRow base e 1 v n xs) :
    ∃ ao cap, v = .slice ao n cap ∧ n ≤ cap ∧ cap ≤ maxLen ∧ xs.length = n ∧ (∀ j u, xs[j]? = some u → ∃ g, ao = some ⟨g, 0, none⟩ ∧ w.cell? ⟨g, j, none⟩ = some u ∧ base ≤ g ∧ g < w.heap.size) := by
  obtain ⟨hl, h2⟩ := h
  rcases h2 with ⟨rfl, rfl⟩ | ⟨g, cap, cur, rfl, hg, hh, hn, hm, hs, ht⟩
  · refine ⟨none, 0, rfl, by omega, by unfold maxLen; omega, by simpa using hl, ?_⟩
    intro j u hj
    have hx : xs = [] := by simpa using hl
    subst hx
    simp at hj
  · refine ⟨some ⟨g, 0, none⟩, cap, rfl, hn, hm, by simpa using hl, ?_⟩
    intro j u hj
    refine ⟨g, rfl, ?_, hg, row_lt hh⟩
    rw [cell_of_row w g j cur e (0, 0) hh]
    have hj' : j < xs.length := (List.getElem?_eq_some_iff.1 hj).1
    have hjn : j < n := by have : xs.length = n := by simpa using hl
                           omega
    rw [← ht] at hj
    simp [hjn] at hj
    exact hj

theorem ret_two {a b c d : Int} (h1 : a = c) (h2 : b = d) : Ending.returned (.tuple #[.int .i64 a, .int .i64 b]) = .returned (.tuple #[.int .i64 c, .int .i64 d]) := by rw [h1, h2]

set_option maxRecDepth 100000 in
set_option maxHeartbeats 2000000 in
theorem checkR_any (s : ByteArray) (w : World) (hs : s.size ≤ maxLen) :
    Calls Try.prog 15 #[.string s] w fun e w' => e = .returned (.tuple #[.int .i64 (Wd.checkR s.data.toList).1, .int .i64 (Wd.checkR s.data.toList).2]) ∧ Below w.heap.size w w' := by
  unfold maxLen at hs
  by_cases hbig : 240 < s.size
  · have HC := hide (Wd.checkR_long (l := s.data.toList) (by rw [Wd.len_str]; exact hbig))
    go_enter Try.func15, Try.ntmps15
    go_wp2
    go_ret2
    exact ⟨by rw [HC.out]; rfl, Below.refl _ _⟩
  · have hl : ¬ 240 < s.data.toList.length := by rw [Wd.len_str]; exact hbig
    have HL := hide hl
    clear hl
    go_enter Try.func15, Try.ntmps15
    go_wp2_with fail
    refine (place_any s _ (by omega)).mono ?_
    cases hp : Wd.place s.data.toList with
    | some i =>
      rintro e w1 ⟨rfl, hb1⟩
      have HB1 := hide hb1
      have HC := hide (Wd.checkR_text HL.out hp)
      clear hb1 hp
      simp only [Wd.toInt]
      go_wp2_with fail
      go_ret2
      exact ⟨by rw [HC.out]; rfl, HB1.out⟩
    | none =>
      rintro e w1 ⟨rfl, hb1⟩
      have HB1 := hide hb1
      have HP1 := hide hp
      clear hb1 hp
      simp only [Wd.toInt]
      go_wp2_with fail
      refine (misnamed_any s _ (by omega)).mono ?_
      cases hp : Wd.misnamed s.data.toList with
      | some i =>
        rintro e w2 ⟨rfl, rfl⟩
        have HC := hide (Wd.checkR_name HL.out HP1.out hp)
        clear hp
        simp only [Wd.toInt]
        go_wp2_with fail
        go_ret2
        exact ⟨by rw [HC.out]; rfl, HB1.out⟩
      | none =>
        rintro e w2 ⟨rfl, rfl⟩
        have HP2 := hide hp
        clear hp
        simp only [Wd.toInt]
        go_wp2_with fail
        refine (round_any s _ (by omega)).mono ?_
        cases hp : Wd.round s.data.toList with
        | true =>
          rintro e w3 ⟨rfl, hb3⟩
          have HB3 := hide hb3
          have HC := hide (Wd.checkR_round HL.out HP1.out HP2.out hp)
          clear hb3 hp
          go_wp2_with fail
          go_ret2
          exact ⟨by rw [HC.out]; rfl, HB1.out.trans (HB3.out.mono HB1.out.size)⟩
        | false =>
          rintro e w3 ⟨rfl, hb3⟩
          have HB3 := hide (HB1.out.trans (hb3.mono HB1.out.size))
          have HP3 := hide hp
          clear hb3 HB1 hp
          go_wp2_with fail
          refine (sizes_any s _ (by omega)).mono ?_
          rintro e w4 ⟨rfl, hb4⟩
          have HB4 := hide (HB3.out.trans (hb4.mono HB3.out.size))
          clear hb4 HB3
          go_wp2_with (refine wpList_store_row rfl 75 _ _ rfl _ _ rfl rfl 75 _ (heap_alloc_last _ _) Try.i33 rfl (Wd.arr8_one _) ?_)
          rw [World.setRow_alloc_new]
          go_wp2_with fail
          have a1 := hide (heap_alloc_last w4 (.cells (Wd.arr8 (Wd.sizesN s.data.toList 8)) 75))
          have a2 : Hid (Below w.heap.size w (w4.alloc (.cells (Wd.arr8 (Wd.sizesN s.data.toList 8)) 75))) := HB4.out.alloc HB4.out.size _
          generalize w4.alloc (.cells (Wd.arr8 (Wd.sizesN s.data.toList 8)) 75) = W at *
          generalize w4.heap.size = N at *
          clear HB4
          refine (starts_any s _ (by omega)).mono ?_
          rintro e w5 ⟨v, rfl, hown, hb5⟩
          obtain ⟨ao, cap, rfl, hnc, hcap, hlen, hcell⟩ := own_shape hown
          have A1 := hide (below_row hb5 a1.out)
          have A2 := hide (a2.out.trans (hb5.mono a2.out.size))
          have HCL := hide hcell
          have hln := Wd.startsTo_len s.data.toList s.data.toList.length
          rw [show Wd.startsTo s.data.toList s.data.toList.length = Wd.starts s.data.toList from rfl, Wd.len_str] at hln
          have HBR := hide (show Wd.bigR s.data.toList = Wd.first _ _ from rfl)
          unfold maxLen at hcap
          clear a1 a2 hown hb5 hcell hlen
          generalize hn : (Wd.starts s.data.toList).length = n at *
          have HN := hide hn
          clear hn
          go_wp2_with fail
          go_loopw [8] (fun a wr => ∃ k : Nat, k ≤ n ∧ a = .int .i64 k ∧ Below w5.heap.size w5 wr ∧ (∀ j, j < k → decide (300 < Wd.size (Wd.body s.data.toList ((Wd.starts s.data.toList).getD j 0)) (Wd.sizesN s.data.toList 8)) = false)) (fun a _ => n - (intOf a).toNat)
          case atStart => exact ⟨0, by omega, rfl, Below.refl _ _, fun j hj => by omega⟩
          case round =>
            obtain ⟨k, hk, rfl, hbe, hno⟩ := hrel
            have HB := hide hbe
            have HNO := hide hno
            clear hbe hno
            by_cases hkl : k < n
            · have hget : (Wd.starts s.data.toList)[k]? = some ((Wd.starts s.data.toList).getD k 0) := by
                rw [List.getD_eq_getElem?_getD, List.getElem?_eq_getElem (by rw [HN.out]; exact hkl)]; rfl
              obtain ⟨g, rfl, hc1, hg1, hg2⟩ := HCL.out k (.int .i64 (((Wd.starts s.data.toList).getD k 0 : Nat) : Int)) (by simp only [Wd.intsV, List.getElem?_map, hget]; rfl)
              have hst : (Wd.starts s.data.toList).getD k 0 + 2 ≤ s.size := by
                have := Wd.starts_mem (List.mem_of_getElem? hget)
                rw [Wd.len_str] at this; omega
              generalize hx : (Wd.starts s.data.toList).getD k 0 = x at *
              have HX := hide hx
              have c1 := (HB.out.cell (p := ⟨g, k, none⟩) hg2).trans hc1
              have HO := hide (below_row HB.out A1.out)
              clear hx hc1 hget
              go_wp2_with fail
              refine (body_any s x _ (by omega) hst).mono ?_
              rintro e w6 ⟨t, rfl, ht, hts, rfl⟩
              have HT := hide ht
              clear ht
              go_wp2_with (refine wpList_load_row rfl 75 _ rfl _ rfl 75 _ (0, 0) _ HO.out Try.underlying75 rfl Try.i33 ?_)
              refine (size_any t _ _ (by omega) (Wd.sizesN_bd _ 8)).mono ?_
              rw [HT.out]
              rintro e w7 ⟨rfl, hb7⟩
              have HB7 := hide (HB.out.trans (hb7.mono HB.out.size))
              clear hb7 c1
              generalize hz : Wd.size (Wd.body s.data.toList x) (Wd.sizesN s.data.toList 8) = z
              have HZ := hide hz
              clear hz
              by_cases hg : 300 < z
              · go_wp2_with fail
                go_ret2
                refine ⟨?_, A2.out.trans (HB7.out.mono A2.out.size)⟩
                have hb : Wd.bigR s.data.toList = some k := by
                  rw [Wd.bigR]
                  exact Wd.first_yes (by rw [HN.out]; exact hkl) (by rw [HX.out, HZ.out]; exact decide_eq_true hg) HNO.out
                rw [Wd.checkR_big HL.out HP1.out HP2.out HP3.out hb]; rfl
              · go_wp2_with fail
                go_roundw
                case rel => exact ⟨k + 1, by omega, by go_num, HB7.out, fun j hj => by
                  by_cases e : j = k
                  · subst e; rw [HX.out, HZ.out]; exact decide_eq_false (by omega)
                  · exact HNO.out j (by omega)⟩
                case measure => simp [intOf]; omega
            · go_wp2_with fail
              go_ret2
              refine ⟨?_, A2.out.trans (HB.out.mono A2.out.size)⟩
              have hb : Wd.bigR s.data.toList = none := by
                rw [Wd.bigR]
                exact Wd.first_no (fun j hj => HNO.out j (by rw [HN.out] at hj; omega))
              rw [Wd.checkR_ok HL.out HP1.out HP2.out HP3.out hb]; rfl
end Go.Proofs.Ytecmfdkhcffpmaa
