/- Contract of the document's 'sizes': how long the functions' bodies are, unfolded. -/
import Derived.Test.YtecmfdkhcffpmaaRefE
import Derived.Deep.WholeRow
import Derived.Laws.CopyOwn
namespace Go.Proofs.Ytecmfdkhcffpmaa
open Go.RowKit
set_option linter.unusedSimpArgs false
set_option linter.unusedVariables false
set_option maxHeartbeats 400000

theorem Try.i33 : (Try.prog.info? 75).map (·.size) = some 8 := by kernel_rfl

/-- A block of cells that may be written: its cells and its marks. -/
theorem row_cell {w : World} {g j : Nat} {cs : Array Value} {t : TypeId} {v : Value} (hg : w.heap[g]? = some (.cells cs t (0, 0))) (h : cs[j]? = some v) : w.cell? ⟨g, j, none⟩ = some v := by
  rw [cell_of_row w g j cs t (0, 0) hg]; exact h
theorem row_lt {w : World} {g : Nat} {o : Obj} (hg : w.heap[g]? = some o) : g < w.heap.size := (Array.getElem?_eq_some_iff.1 hg).1
theorem below_row {w w' : World} (hb : Below w.heap.size w w') {g : Nat} {o : Obj} (hg : w.heap[g]? = some o) : w'.heap[g]? = some o := by
  rw [hb.block g (row_lt hg)]; exact hg

set_option maxHeartbeats 1000000 in
theorem sizes_any (s : ByteArray) (w : World) (hs : s.size ≤ 10000) :
    Calls Try.prog 47 #[.string s] w fun e w' => e = .returned (.agg (Wd.arr8 (Wd.sizesN s.data.toList 8))) ∧ Below w.heap.size w w' := by
  go_enter Try.func47, Try.ntmps47
  go_wp2
  go_loopw [4] (fun a wr => ∃ (k : Nat), k ≤ 8 ∧ a = .int .i64 k ∧ wr.heap[w.heap.size]? = some (.cells (Wd.arr8 (fun _ => 0)) 75 (0, 0)) ∧ wr.heap[w.heap.size + 1]? = some (.cells (Wd.arr8 (Wd.sizesN s.data.toList k)) 75 (0, 0)) ∧ Below w.heap.size w wr) (fun a _ => 8 - (intOf a).toNat)
  case atStart =>
    refine ⟨0, by omega, rfl, heap_alloc2_old _ _ _, heap_alloc2_new _ _ _, ((Below.refl _ _).alloc (Nat.le_refl _) _).alloc (by simp) _⟩
  case round =>
    obtain ⟨k, hk, rfl, hA, hO, hbe⟩ := hrel
    by_cases hlt : k < 8
    · have HA := hide hA
      have HO := hide hO
      have HB := hide hbe
      clear hA hO hbe
      go_wp2_with (first | (refine wpList_load_row rfl 75 _ rfl _ rfl 75 _ (0, 0) _ HO.out Try.underlying75 rfl Try.i33 ?_) | (refine wpList_store_row rfl 75 _ _ rfl _ _ rfl rfl 75 _ (heap_alloc_last _ _) Try.i33 rfl (Wd.arr8_one _) ?_))
      rw [World.setRow_alloc_new]
      go_wp2_with fail
      have a1 : (wr.alloc (.cells (Wd.arr8 (Wd.sizesN s.data.toList k)) 75)).heap[w.heap.size]? = some (.cells (Wd.arr8 (fun _ => 0)) 75 (0, 0)) := by
        rw [heap_alloc_old _ _ (row_lt HA.out)]; exact HA.out
      have a2 : (wr.alloc (.cells (Wd.arr8 (Wd.sizesN s.data.toList k)) 75)).heap[w.heap.size + 1]? = some (.cells (Wd.arr8 (Wd.sizesN s.data.toList k)) 75 (0, 0)) := by
        rw [heap_alloc_old _ _ (row_lt HO.out)]; exact HO.out
      have a3 := heap_alloc_last wr (.cells (Wd.arr8 (Wd.sizesN s.data.toList k)) 75)
      have a4 : Below w.heap.size w (wr.alloc (.cells (Wd.arr8 (Wd.sizesN s.data.toList k)) 75)) := HB.out.alloc HB.out.size _
      have a5 : w.heap.size + 1 < wr.heap.size := row_lt HO.out
      generalize wr.alloc (.cells (Wd.arr8 (Wd.sizesN s.data.toList k)) 75) = W at *
      generalize wr.heap.size = N at *
      go_loopw [6] (fun a wx => ∃ (f : Nat), f ≤ 8 ∧ a = .int .i64 f ∧ wx.heap[w.heap.size]? = some (.cells (Wd.arr8 (fun _ => 0)) 75 (0, 0)) ∧ wx.heap[w.heap.size + 1]? = some (.cells (Wd.arr8 (Wd.sizesN s.data.toList k)) 75 (0, 0)) ∧ wx.heap[N]? = some (.cells (Wd.arr8 (fun j => if j < f then Wd.sizesN s.data.toList (k + 1) j else Wd.sizesN s.data.toList k j)) 75 (0, 0)) ∧ Below w.heap.size w wx) (fun a _ => 8 - (intOf a).toNat)
      case atStart =>
        exact ⟨0, by omega, rfl, a1, a2, by rw [a3]; rfl, a4⟩
      case round =>
        clear HA HO HB a1 a2 a3 a4
        obtain ⟨f, hf, rfl, hA, hO, hN, hbe⟩ := hrel
        have HA := hide hA
        have HO := hide hO
        have HN := hide hN
        have HB := hide hbe
        clear hA hO hN hbe
        by_cases hfl : f < 8
        · cases hq : Wd.head s.data.toList (65 + (f : Int)) with
          | none =>
            have Q : Hid (Wd.toInt (Wd.head s.data.toList (65 + (f : Int))) = -1) := by rw [hq]; rfl
            have Q2 : Hid (Wd.sizesN s.data.toList (k + 1) f = Wd.sizesN s.data.toList k f) := by
              apply hide; simp [Wd.sizesN, Wd.sizesStep, hq]
            clear hq
            go_wp2_with (go_at_call 77; refine (head_any _ _ _ (by omega) (by omega) (by omega)).mono ?_; rw [Q.out]; rintro e w' ⟨rfl, rfl⟩)
            go_roundw
            case rel =>
              refine ⟨f + 1, by omega, by go_num, HA.out, HO.out, ?_, HB.out⟩
              rw [HN.out]
              congr 2
              apply Wd.arr8_congr
              intro j hj
              by_cases e : j = f
              · subst e; simp [Q2.out]
              · by_cases e2 : j < f
                · simp [e2, show j < f + 1 by omega]
                · simp [e2, show ¬ j < f + 1 by omega]
            case measure => simp [intOf]; omega
          | some i =>
            have Q : Hid (Wd.toInt (Wd.head s.data.toList (65 + (f : Int))) = (i : Int)) := by rw [hq]; rfl
            have Q2 : Hid (Wd.sizesN s.data.toList (k + 1) f = Wd.size (Wd.body s.data.toList i) (Wd.sizesN s.data.toList k)) := by
              apply hide; simp [Wd.sizesN, Wd.sizesStep, hq]
            have hi : i + 2 ≤ s.size := by have := (Wd.head_some hq).1; rw [Wd.len_str] at this; omega
            clear hq
            go_wp2_with (go_at_call 77; refine (head_any _ _ _ (by omega) (by omega) (by omega)).mono ?_; rw [Q.out]; rintro e w' ⟨rfl, rfl⟩)
            refine (body_any s i _ (by omega) hi).mono ?_
            rintro e w1 ⟨t, rfl, ht, hts, rfl⟩
            have HT := hide ht
            clear ht
            go_wp2_with (first | (refine wpList_load_row rfl 75 _ rfl _ rfl 75 _ (0, 0) _ HO.out Try.underlying75 rfl Try.i33 ?_))
            refine (size_any t _ _ (by omega) (Wd.sizesN_bd _ k)).mono ?_
            rw [HT.out, ← Q2.out]
            rintro e w2 ⟨rfl, hb2⟩
            have c1 := row_cell (below_row hb2 HN.out) (Wd.arr8_at _ f hfl)
            have c2 := frozen_of_row w2 N f _ _ (below_row hb2 HN.out)
            have HB2 := hide hb2
            clear hb2
            go_wp2_with fail
            go_roundw
            case rel =>
              have hNl := row_lt HO.out
              refine ⟨f + 1, by omega, by go_num, ?_, ?_, ?_, ?_⟩
              · rw [heap_setCell_other _ _ _ _ (by simp; omega)]; exact below_row HB2.out HA.out
              · rw [heap_setCell_other _ _ _ _ (by simp; omega)]; exact below_row HB2.out HO.out
              · rw [heap_setCell_same _ _ _ _ _ _ (below_row HB2.out HN.out), Wd.arr8_set _ _ _ hfl]
                congr 2
                apply Wd.arr8_congr
                intro j hj
                by_cases e : j = f
                · subst e; simp
                · by_cases e2 : j < f
                  · simp [e, e2, show j < f + 1 by omega]
                  · simp [e, e2, show ¬ j < f + 1 by omega]
              · exact (HB.out.trans (HB2.out.mono HB.out.size)).setCell (by simp; omega) _
            case measure => simp [intOf]; omega
        · go_wp2_with (first | (refine wpList_load_row rfl 75 _ rfl _ rfl 75 _ (0, 0) _ HN.out Try.underlying75 rfl Try.i33 ?_) | (refine wpList_store_row rfl 75 _ _ rfl _ _ rfl rfl 75 _ HO.out Try.i33 rfl (Wd.arr8_one _) ?_))
          refine ⟨⟨k + 1, by omega, by go_num, ?_, ?_, ?_⟩, by simp [intOf]; omega⟩
          · rw [setRow_other _ _ _ _ (by omega)]; exact HA.out
          · rw [setRow_heap _ _ _ _ _ _ HO.out]
            congr 2
            apply Wd.arr8_congr
            intro j hj
            simp [show j < f by omega]
          · exact below_setRow HB.out (by omega) _
    · have HA := hide hA
      have HO := hide hO
      have HB := hide hbe
      clear hA hO hbe
      obtain rfl : k = 8 := by omega
      go_wp2_with (first | (refine wpList_load_row rfl 75 _ rfl _ rfl 75 _ (0, 0) _ HO.out Try.underlying75 rfl Try.i33 ?_) | (refine wpList_store_row rfl 75 _ _ rfl _ _ rfl rfl 75 _ HA.out Try.i33 rfl (Wd.arr8_one _) ?_))
      exact bodyPost_ret (v := .agg (Wd.arr8 (Wd.sizesN s.data.toList 8))) (results_cell_row Try.results47 _ _ w.heap.size 75 _ (0, 0) _ rfl (setRow_heap _ _ _ _ _ _ HA.out) Try.underlying75 rfl Try.i33) rfl ⟨rfl, below_setRow HB.out (Nat.le_refl _) _⟩
end Go.Proofs.Ytecmfdkhcffpmaa
