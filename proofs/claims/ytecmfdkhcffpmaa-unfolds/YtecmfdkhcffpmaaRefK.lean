/- Contract of the document's 'Unfold'. -/
import Derived.Test.YtecmfdkhcffpmaaRefJ
import Derived.Test.YtecmfdkhcffpmaaUnf2
import Derived.Test.YtecmfdkhcffpmaaSrcK
namespace Go.Proofs.Ytecmfdkhcffpmaa
open Go.RowKit
set_option linter.unusedSimpArgs false
set_option linter.unusedVariables false
set_option maxHeartbeats 800000

theorem refUnfold_no (s : ByteArray) (w : World) (hs : s.size ≤ maxLen) (hne : (Wd.checkR s.data.toList).1 ≠ 0) :
    Calls Try.prog 16 #[.string s] w fun e w' => e = .returned (.tuple #[.slice none 0 0, .int .i64 (Wd.checkR s.data.toList).1]) ∧ Below w.heap.size w w' := by
  have HX := hide (checkR_any s w hs)
  have hn : ((Wd.checkR s.data.toList).1 != 0) = true := by rw [bne_iff_ne]; exact hne
  clear hne
  generalize (Wd.checkR s.data.toList).1 = a at *
  generalize (Wd.checkR s.data.toList).2 = b at *
  go_enter Try.func16, Try.ntmps16
  go_wp2_with (go_at_call 15; refine HX.out.mono ?_; rintro e w' ⟨rfl, hb⟩)
  go_ret2
  exact ⟨rfl, hb⟩

set_option maxRecDepth 100000 in
set_option maxHeartbeats 2000000 in
theorem refUnfold_ok (s : ByteArray) (w : World) (hs : s.size ≤ 240) (hok : (Wd.checkR s.data.toList).1 = 0) (hL : ∀ i ∈ Wd.starts s.data.toList, ∀ p, p ≤ 8 → (Wd.passN s.data.toList (Wd.sizesN s.data.toList 8) (Wd.body s.data.toList i) p).length ≤ 100000) :
    Calls Try.prog 16 #[.string s] w fun e w' => ∃ v, e = .returned (.tuple #[v, .int .i64 0]) ∧ w'.ownsRow w.heap.size 31 2 v (Wd.unfoldR s.data.toList).length (Wd.itsV (Wd.unfoldR s.data.toList)) ∧ Below w.heap.size w w' := by
  have HX := checkR_any s w (by unfold maxLen; omega)
  rw [hok] at HX
  have HXX := hide HX
  have HL := hide hL
  clear HX hL hok
  generalize (Wd.checkR s.data.toList).2 = b at *
  obtain ⟨i0, hi, hz0, hz1, hz2⟩ := info_parts Try.info31
  have HUR : Hid (Wd.unfoldR s.data.toList = (Wd.starts s.data.toList).map (Wd.itemR s.data.toList)) := rfl
  go_enter Try.func16, Try.ntmps16
  go_wp2_with fail
  refine HXX.out.mono ?_
  rintro e w3 ⟨rfl, hb3⟩
  have HB3 := hide hb3
  clear hb3 HXX
  go_wp2_with fail
  refine (sizes_any s _ (by omega)).mono ?_
  rintro e w4 ⟨rfl, hb4⟩
  have HB4 := hide (HB3.out.trans (hb4.mono HB3.out.size))
  clear hb4 HB3
  go_wp2_with (refine wpList_store_row rfl 75 _ _ rfl _ _ rfl rfl 75 _ (heap_alloc_last _ _) Try.i33 rfl (Wd.arr8_one _) ?_)
  rw [World.setRow_alloc_new]
  go_wp2_with fail
  have a1 := hide (heap_alloc_last w4 (.cells (Wd.arr8 (Wd.sizesN s.data.toList 8)) 75))
  have a2 : Hid (Below w.heap.size w (w4.alloc (.cells (Wd.arr8 (Wd.sizesN s.data.toList 8)) 75))) := HB4.out.alloc HB4.out.size _
  generalize w4.alloc (.cells (Wd.arr8 (Wd.sizesN s.data.toList 8)) 75) = W at *
  generalize w4.heap.size = N at *
  clear HB4
  refine (starts_any s _ (by omega)).mono ?_
  rintro e w5 ⟨v, rfl, hown, hb5⟩
  obtain ⟨ao, cap, rfl, hnc, hcap, hlen, hcell⟩ := own_shape hown
  have A1 := hide (below_row hb5 a1.out)
  have A2 := hide (a2.out.trans (hb5.mono a2.out.size))
  have HCL := hide hcell
  have hln := Wd.startsTo_len s.data.toList s.data.toList.length
  rw [show Wd.startsTo s.data.toList s.data.toList.length = Wd.starts s.data.toList from rfl, Wd.len_str] at hln
  unfold maxLen at hcap
  clear a1 a2 hown hb5 hcell hlen
  generalize hn : (Wd.starts s.data.toList).length = n at *
  have HN := hide hn
  clear hn
  go_wp2_with fail
  go_loopw [8, 9] (fun a b wr => ∃ k : Nat, k ≤ n ∧ b = .int .i64 k ∧ Below w5.heap.size w5 wr ∧ wr.ownsRow w5.heap.size 31 2 a ((Wd.unfoldR s.data.toList).take k).length (Wd.itsV ((Wd.unfoldR s.data.toList).take k))) (fun _ b _ => n - (intOf b).toNat)
  case atStart => exact ⟨0, by omega, rfl, Below.refl _ _, World.ownsRow_nil _ _ _ _⟩
  case round =>
    obtain ⟨k, hk, rfl, hbe, hO⟩ := hrel
    have HB := hide hbe
    have HO := hide hO
    clear hbe hO
    by_cases hkl : k < n
    · have hget : (Wd.starts s.data.toList)[k]? = some ((Wd.starts s.data.toList).getD k 0) := by
        rw [List.getD_eq_getElem?_getD, List.getElem?_eq_getElem (by rw [HN.out]; exact hkl)]; rfl
      obtain ⟨g, rfl, hc1, hg1, hg2⟩ := HCL.out k (.int .i64 (((Wd.starts s.data.toList).getD k 0 : Nat) : Int)) (by simp only [Wd.intsV, List.getElem?_map, hget]; rfl)
      have hmem := List.mem_of_getElem? hget
      have hst : (Wd.starts s.data.toList).getD k 0 + 2 ≤ s.size := by
        have := Wd.starts_mem hmem
        rw [Wd.len_str] at this; omega
      have HLx := hide (HL.out _ hmem)
      have HTK : Hid ((Wd.unfoldR s.data.toList).take (k + 1) = (Wd.unfoldR s.data.toList).take k ++ [Wd.itemR s.data.toList ((Wd.starts s.data.toList).getD k 0)]) := by
        apply hide
        rw [List.take_add_one, HUR.out, List.getElem?_map, hget]; rfl
      have htl : ((Wd.unfoldR s.data.toList).take k).length ≤ 240 := by
        rw [HUR.out]; simp; omega
      generalize hx : (Wd.starts s.data.toList).getD k 0 = x at *
      have c1 := (HB.out.cell (p := ⟨g, k, none⟩) hg2).trans hc1
      have HO1 := hide (below_row HB.out A1.out)
      have hxs : x < s.size := by omega
      have HAT := hide (Wd.at_str s x hxs)
      have b0 := Wd.at_lo s.data.toList x
      have b1 := Wd.at_hi s.data.toList x
      rw [← HAT.out] at b0 b1
      clear hx hc1 hget hmem
      go_wp2_with fail
      refine (body_any s x _ (by omega) hst).mono ?_
      rintro e w6 ⟨t, rfl, ht, hts, rfl⟩
      have HT := hide ht
      clear ht
      go_wp2_with (refine wpList_load_row rfl 75 _ rfl _ rfl 75 _ (0, 0) _ HO1.out Try.underlying75 rfl Try.i33 ?_)
      refine (unfolded_any s t _ _ (by omega) (Wd.sizesN_bd _ 8) (Wd.sizesN_head _) (by rw [HT.out]; exact HLx.out)).mono ?_
      rintro e w7 ⟨u, rfl, hu, hb7⟩
      have HU := hide hu
      have HB7 := hide (HB.out.trans (hb7.mono HB.out.size))
      have c2 := (HB7.out.cell (p := ⟨g, k, none⟩) hg2).trans (((HB.out.cell (p := ⟨g, k, none⟩) hg2).symm.trans c1))
      have HO7 := hide (own_below HO.out hb7)
      have c2' : ∀ o, (w7.alloc o).cell? ⟨g, k, none⟩ = some (.int .i64 (x : Int)) := fun o => by rw [World.cell?_alloc_past _ _ _ (World.block_lt_of_cell? w7 _ c2)]; exact c2
      clear hu hb7 c1
      go_wp2_with (at_builtin; refine wpList_append_own _ rfl _ _ 26 rfl w5.heap.size 31 i0 (.agg #[.bool false, .string ByteArray.empty]) 2 24 Try.underlying26 hi hz0 hz1 hz2 rfl (by decide) _ _ _ rfl (HO7.out.alloc _) ⟨_, 0, none⟩ 1 1 [.bool (((s[x].toNat : Nat) : Int) == 104), .string u] rfl rfl (cell_two_new _ _ _ _) (fun y hy => by simp at hy; rcases hy with rfl | rfl <;> rfl) (by unfold maxLen; omega) (by omega) (by have := HB7.out.size; simp; omega) ?_; intro v' w8 hown' hgrow3 hnil3; have HG := hide hgrow3; have HW := hide hown'; clear hgrow3 hown' hnil3)
      refine ⟨⟨k + 1, by omega, by go_num, (HB7.out.alloc HB7.out.size _).grown HG.out (by have := HB7.out.size; simp; omega) (fun q hq => (HO7.out.lt q hq).1), ?_⟩, by simp [intOf]; omega⟩
      rw [HTK.out, Wd.itsV_snoc, List.length_append]
      have e1 : Wd.itV (Wd.itemR s.data.toList x) = [.bool (((s[x].toNat : Nat) : Int) == 104), .string u] := by
        simp only [Wd.itV, Wd.itemR, ← HAT.out, ← HT.out, ← HU.out, Wd.mkS_of]
      rw [e1]
      exact HW.out
    · go_wp2_with fail
      go_ret2
      refine ⟨_, rfl, ?_, A2.out.trans (HB.out.mono A2.out.size)⟩
      obtain rfl : k = n := by omega
      have e : (Wd.unfoldR s.data.toList).take k = Wd.unfoldR s.data.toList := List.take_of_length_le (by rw [HUR.out]; simp [HN.out])
      have := HO.out
      rw [e] at this
      exact own_mono this A2.out.size
end Go.Proofs.Ytecmfdkhcffpmaa
