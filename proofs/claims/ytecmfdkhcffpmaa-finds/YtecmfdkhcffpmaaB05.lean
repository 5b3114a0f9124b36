/- Pure2, RefE, RefF, MacC. -/
import Derived.Test.YtecmfdkhcffpmaaB01
import Derived.Laws.Tables
import Derived.Laws.Rows
import Derived.Test.YtecmfdkhcffpmaaB04
import Derived.Deep.WholeRow
import Derived.Laws.CopyOwn
import Derived.Test.YtecmfdkhcffpmaaB02
import Derived.Test.YtecmfdkhcffpmaaB03
import Derived.Deep.MidRow
/- The plain functions, more: how long bodies are, unfolded; which names stand where. -/
namespace Go.Proofs.Ytecmfdkhcffpmaa
open Go.RowKit
namespace Wd
/-- How long a body is, unfolded, by the functions' lengths; more than 300 all the same. -/
def plus (of : Nat → Int) (n c : Int) : Int := if up c = true then n + of (c - 65).toNat else n + 1
def sizeFrom (of : Nat → Int) : List UInt8 → Int → Int
  | [], n => n
  | c :: r, n => if 300 < plus of n (bt c) then 301 else sizeFrom of r (plus of n (bt c))
def size (l : List UInt8) (of : Nat → Int) : Int := sizeFrom of l 0
theorem sizeFrom_step (of : Nat → Int) (s : ByteArray) (k : Nat) (n : Int) (h : k < s.size) : sizeFrom of (s.data.toList.drop k) n =
    if 300 < plus of n ((s[k].toNat : Nat) : Int) then 301 else sizeFrom of (s.data.toList.drop (k + 1)) (plus of n ((s[k].toNat : Nat) : Int)) := by
  rw [drop_cons s k h]; rfl
theorem sizeFrom_end (of : Nat → Int) (s : ByteArray) (k : Nat) (n : Int) (h : s.size ≤ k) : sizeFrom of (s.data.toList.drop k) n = n := by
  rw [List.drop_of_length_le (by rw [len_str]; exact h)]; rfl
theorem plus_lo (of : Nat → Int) (h0 : ∀ j, 0 ≤ of j) (n c : Int) (hn : 0 ≤ n) : 0 ≤ plus of n c := by
  have := h0 (c - 65).toNat
  unfold plus; split <;> omega
theorem sizeFrom_bd (of : Nat → Int) (h0 : ∀ j, 0 ≤ of j) (l : List UInt8) (n : Int) (hn : 0 ≤ n) (hn' : n ≤ 301) : 0 ≤ sizeFrom of l n ∧ sizeFrom of l n ≤ 301 := by
  induction l generalizing n with
  | nil => exact ⟨hn, hn'⟩
  | cons c r ih =>
    unfold sizeFrom
    have := plus_lo of h0 n (bt c) hn
    split
    · omega
    · exact ih _ this (by omega)
theorem size_bd (of : Nat → Int) (h0 : ∀ j, 0 ≤ of j) (l : List UInt8) : 0 ≤ size l of ∧ size l of ≤ 301 := sizeFrom_bd of h0 l 0 (by omega) (by omega)
theorem head_some {l : List UInt8} {c : Int} {i : Nat} (h : head l c = some i) : i + 1 < l.length ∧ at_ l i = c := by
  unfold head first at h
  have := List.find?_some h
  simp [headP, heads] at this
  exact ⟨this.1.1, this.2⟩
/-- The functions' lengths, one round more. -/
def sizesStep (l : List UInt8) (of : Nat → Int) (f : Nat) : Int :=
  match head l (65 + (f : Int)) with
  | some i => size (body l i) of
  | none => of f
def sizesN (l : List UInt8) : Nat → Nat → Int
  | 0 => fun _ => 0
  | k + 1 => fun f => sizesStep l (sizesN l k) f
theorem sizesN_bd (l : List UInt8) (k f : Nat) : 0 ≤ sizesN l k f ∧ sizesN l k f ≤ 301 := by
  induction k generalizing f with
  | zero => exact ⟨by simp [sizesN], by simp [sizesN]⟩
  | succ k ih =>
    simp only [sizesN, sizesStep]
    split
    · exact size_bd _ (fun j => (ih j).1) _
    · exact ih f
/-- Eight numbers in memory. -/
def arr8 (of : Nat → Int) : Array Value := #[.int .i64 (of 0), .int .i64 (of 1), .int .i64 (of 2), .int .i64 (of 3), .int .i64 (of 4), .int .i64 (of 5), .int .i64 (of 6), .int .i64 (of 7)]
theorem arr8_at (of : Nat → Int) (j : Nat) (h : j < 8) : (arr8 of)[j]? = some (.int .i64 (of j)) := by
  match j, h with
  | 0, _ | 1, _ | 2, _ | 3, _ | 4, _ | 5, _ | 6, _ | 7, _ => rfl
theorem arr8_set (of : Nat → Int) (f : Nat) (v : Int) (h : f < 8) : (arr8 of).setIfInBounds f (.int .i64 v) = arr8 (fun j => if j = f then v else of j) := by
  match f, h with
  | 0, _ | 1, _ | 2, _ | 3, _ | 4, _ | 5, _ | 6, _ | 7, _ => simp [arr8]
theorem arr8_congr {a b : Nat → Int} (h : ∀ j, j < 8 → a j = b j) : arr8 a = arr8 b := by
  simp [arr8, h]
theorem arr8_one (of : Nat → Int) : (arr8 of).all (·.oneCell') = true := by simp [arr8, Value.oneCell']
end Wd
end Go.Proofs.Ytecmfdkhcffpmaa
/- Contracts of the document's 'size', 'sizes', 'starts'. -/
namespace Go.Proofs.Ytecmfdkhcffpmaa
open Go.RowKit
set_option linter.unusedSimpArgs false
set_option linter.unusedVariables false
set_option maxHeartbeats 400000

set_option maxHeartbeats 1000000 in
theorem size_any (s : ByteArray) (of : Nat → Int) (w : World) (hs : s.size ≤ 10000) (ho : ∀ j, 0 ≤ of j ∧ of j ≤ 301) :
    Calls Try.prog 50 #[.string s, .agg (Wd.arr8 of)] w fun e w' => e = .returned (.int .i64 (Wd.size s.data.toList of)) ∧ Below w.heap.size w w' := by
  unfold Wd.arr8
  go_enter Try.func50, Try.ntmps50
  go_wp2
  go_loopw [5, 6] (fun a b wr => ∃ (k : Nat) (n : Int), k ≤ s.size ∧ a = .int .i64 n ∧ b = .int .i64 k ∧ 0 ≤ n ∧ n ≤ 300 ∧ Wd.size s.data.toList of = Wd.sizeFrom of (s.data.toList.drop k) n ∧ (∀ j, j < 8 → wr.cell? ⟨w.heap.size, j, none⟩ = some (.int .i64 (of j))) ∧ Below w.heap.size w wr) (fun _ b _ => s.size - (intOf b).toNat)
  case atStart =>
    refine ⟨0, 0, Nat.zero_le _, rfl, rfl, by omega, by omega, rfl, ?_, (Below.refl _ _).alloc (Nat.le_refl _) _⟩
    intro j hj
    match j, hj with
    | 0, _ | 1, _ | 2, _ | 3, _ | 4, _ | 5, _ | 6, _ | 7, _ => simp
  case round =>
    obtain ⟨k, n, hk, rfl, rfl, hn0, hn1, hp, hcell, hbe⟩ := hrel
    have HP := hide hp
    have HB := hide hbe
    clear hp hbe
    by_cases hlt : k < s.size
    · have HS := hide (Wd.sizeFrom_step of s k n hlt)
      have b0 := Wd.at_lo s.data.toList k
      have b1 := Wd.at_hi s.data.toList k
      rw [← Wd.at_str s k hlt] at b0 b1
      cases hu : Wd.up ((s[k].toNat : Nat) : Int)
      · have hpl : Wd.plus of n ((s[k].toNat : Nat) : Int) = n + 1 := by simp [Wd.plus, hu]
        rw [hpl] at HS
        clear hpl
        have HC := hide hcell
        have HO := hide ho
        clear hcell ho
        by_cases hg : 300 < n + 1
        · go_wp2_with (go_at_call 73; refine (upper_any _ _ b0 b1).mono ?_; rintro e w' ⟨rfl, rfl⟩)
          go_ret
          exact ⟨ret_int (by rw [HP.out, HS.out, if_pos hg]), HB.out⟩
        · go_wp2_with (go_at_call 73; refine (upper_any _ _ b0 b1).mono ?_; rintro e w' ⟨rfl, rfl⟩)
          go_roundw
          case rel => exact ⟨k + 1, n + 1, by omega, rfl, by go_num, by omega, by omega, by rw [HP.out, HS.out, if_neg (by omega)], HC.out, HB.out⟩
          case measure => simp [intOf]; omega
      · have hu' := hu
        simp [Wd.up] at hu'
        have ho' := ho (s[k].toNat - 65)
        have hc' := hcell (s[k].toNat - 65) (by omega)
        have hpl : Wd.plus of n ((s[k].toNat : Nat) : Int) = n + of (s[k].toNat - 65) := by
          simp only [Wd.plus, hu, if_true]; rw [show (((s[k].toNat : Nat) : Int) - 65).toNat = s[k].toNat - 65 from by omega]
        rw [hpl] at HS
        clear hpl
        have HC := hide hcell
        have HO := hide ho
        clear hcell ho
        by_cases hg : 300 < n + of (s[k].toNat - 65)
        · go_wp2_with (go_at_call 73; refine (upper_any _ _ b0 b1).mono ?_; rintro e w' ⟨rfl, rfl⟩)
          go_ret
          exact ⟨ret_int (by rw [HP.out, HS.out, if_pos hg]), HB.out⟩
        · go_wp2_with (go_at_call 73; refine (upper_any _ _ b0 b1).mono ?_; rintro e w' ⟨rfl, rfl⟩)
          go_roundw
          case rel => exact ⟨k + 1, n + of (s[k].toNat - 65), by omega, rfl, by go_num, by omega, by omega, by rw [HP.out, HS.out, if_neg (by omega)], HC.out, HB.out⟩
          case measure => simp [intOf]; omega
    · have HC := hide hcell
      clear hcell
      go_wp2
      go_ret
      exact ⟨ret_int (by rw [HP.out, Wd.sizeFrom_end of s k n (by omega)]), HB.out⟩
end Go.Proofs.Ytecmfdkhcffpmaa
/- Contract of the document's 'sizes': how long the functions' bodies are, unfolded. -/
namespace Go.Proofs.Ytecmfdkhcffpmaa
open Go.RowKit
set_option linter.unusedSimpArgs false
set_option linter.unusedVariables false
set_option maxHeartbeats 400000

theorem Try.i33 : (Try.prog.info? 75).map (·.size) = some 8 := by kernel_rfl

/-- A block of cells that may be written: its cells and its marks. -/
theorem row_cell {w : World} {g j : Nat} {cs : Array Value} {t : TypeId} {v : Value} (hg : w.heap[g]? = some (.cells cs t (0, 0))) (h : cs[j]? = some v) : w.cell? ⟨g, j, none⟩ = some v := by
  rw [cell_of_row w g j cs t (0, 0) hg]; exact h
theorem row_lt {w : World} {g : Nat} {o : Obj} (hg : w.heap[g]? = some o) : g < w.heap.size := (Array.getElem?_eq_some_iff.1 hg).1
theorem below_row {w w' : World} (hb : Below w.heap.size w w') {g : Nat} {o : Obj} (hg : w.heap[g]? = some o) : w'.heap[g]? = some o := by
  rw [hb.block g (row_lt hg)]; exact hg

set_option maxHeartbeats 1000000 in
theorem sizes_any (s : ByteArray) (w : World) (hs : s.size ≤ 10000) :
    Calls Try.prog 47 #[.string s] w fun e w' => e = .returned (.agg (Wd.arr8 (Wd.sizesN s.data.toList 8))) ∧ Below w.heap.size w w' := by
  go_enter Try.func47, Try.ntmps47
  go_wp2
  go_loopw [4] (fun a wr => ∃ (k : Nat), k ≤ 8 ∧ a = .int .i64 k ∧ wr.heap[w.heap.size]? = some (.cells (Wd.arr8 (fun _ => 0)) 75 (0, 0)) ∧ wr.heap[w.heap.size + 1]? = some (.cells (Wd.arr8 (Wd.sizesN s.data.toList k)) 75 (0, 0)) ∧ Below w.heap.size w wr) (fun a _ => 8 - (intOf a).toNat)
  case atStart =>
    refine ⟨0, by omega, rfl, heap_alloc2_old _ _ _, heap_alloc2_new _ _ _, ((Below.refl _ _).alloc (Nat.le_refl _) _).alloc (by simp) _⟩
  case round =>
    obtain ⟨k, hk, rfl, hA, hO, hbe⟩ := hrel
    by_cases hlt : k < 8
    · have HA := hide hA
      have HO := hide hO
      have HB := hide hbe
      clear hA hO hbe
      go_wp2_with (first | (refine wpList_load_row rfl 75 _ rfl _ rfl 75 _ (0, 0) _ HO.out Try.underlying75 rfl Try.i33 ?_) | (refine wpList_store_row rfl 75 _ _ rfl _ _ rfl rfl 75 _ (heap_alloc_last _ _) Try.i33 rfl (Wd.arr8_one _) ?_))
      rw [World.setRow_alloc_new]
      go_wp2_with fail
      have a1 : (wr.alloc (.cells (Wd.arr8 (Wd.sizesN s.data.toList k)) 75)).heap[w.heap.size]? = some (.cells (Wd.arr8 (fun _ => 0)) 75 (0, 0)) := by
        rw [heap_alloc_old _ _ (row_lt HA.out)]; exact HA.out
      have a2 : (wr.alloc (.cells (Wd.arr8 (Wd.sizesN s.data.toList k)) 75)).heap[w.heap.size + 1]? = some (.cells (Wd.arr8 (Wd.sizesN s.data.toList k)) 75 (0, 0)) := by
        rw [heap_alloc_old _ _ (row_lt HO.out)]; exact HO.out
      have a3 := heap_alloc_last wr (.cells (Wd.arr8 (Wd.sizesN s.data.toList k)) 75)
      have a4 : Below w.heap.size w (wr.alloc (.cells (Wd.arr8 (Wd.sizesN s.data.toList k)) 75)) := HB.out.alloc HB.out.size _
      have a5 : w.heap.size + 1 < wr.heap.size := row_lt HO.out
      generalize wr.alloc (.cells (Wd.arr8 (Wd.sizesN s.data.toList k)) 75) = W at *
      generalize wr.heap.size = N at *
      go_loopw [6] (fun a wx => ∃ (f : Nat), f ≤ 8 ∧ a = .int .i64 f ∧ wx.heap[w.heap.size]? = some (.cells (Wd.arr8 (fun _ => 0)) 75 (0, 0)) ∧ wx.heap[w.heap.size + 1]? = some (.cells (Wd.arr8 (Wd.sizesN s.data.toList k)) 75 (0, 0)) ∧ wx.heap[N]? = some (.cells (Wd.arr8 (fun j => if j < f then Wd.sizesN s.data.toList (k + 1) j else Wd.sizesN s.data.toList k j)) 75 (0, 0)) ∧ Below w.heap.size w wx) (fun a _ => 8 - (intOf a).toNat)
      case atStart =>
        exact ⟨0, by omega, rfl, a1, a2, by rw [a3]; rfl, a4⟩
      case round =>
        clear HA HO HB a1 a2 a3 a4
        obtain ⟨f, hf, rfl, hA, hO, hN, hbe⟩ := hrel
        have HA := hide hA
        have HO := hide hO
        have HN := hide hN
        have HB := hide hbe
        clear hA hO hN hbe
        by_cases hfl : f < 8
        · cases hq : Wd.head s.data.toList (65 + (f : Int)) with
          | none =>
            have Q : Hid (Wd.toInt (Wd.head s.data.toList (65 + (f : Int))) = -1) := by rw [hq]; rfl
            have Q2 : Hid (Wd.sizesN s.data.toList (k + 1) f = Wd.sizesN s.data.toList k f) := by
              apply hide; simp [Wd.sizesN, Wd.sizesStep, hq]
            clear hq
            go_wp2_with (go_at_call 77; refine (head_any _ _ _ (by omega) (by omega) (by omega)).mono ?_; rw [Q.out]; rintro e w' ⟨rfl, rfl⟩)
            go_roundw
            case rel =>
              refine ⟨f + 1, by omega, by go_num, HA.out, HO.out, ?_, HB.out⟩
              rw [HN.out]
              congr 2
              apply Wd.arr8_congr
              intro j hj
              by_cases e : j = f
              · subst e; simp [Q2.out]
              · by_cases e2 : j < f
                · simp [e2, show j < f + 1 by omega]
                · simp [e2, show ¬ j < f + 1 by omega]
            case measure => simp [intOf]; omega
          | some i =>
            have Q : Hid (Wd.toInt (Wd.head s.data.toList (65 + (f : Int))) = (i : Int)) := by rw [hq]; rfl
            have Q2 : Hid (Wd.sizesN s.data.toList (k + 1) f = Wd.size (Wd.body s.data.toList i) (Wd.sizesN s.data.toList k)) := by
              apply hide; simp [Wd.sizesN, Wd.sizesStep, hq]
            have hi : i + 2 ≤ s.size := by have := (Wd.head_some hq).1; rw [Wd.len_str] at this; omega
            clear hq
            go_wp2_with (go_at_call 77; refine (head_any _ _ _ (by omega) (by omega) (by omega)).mono ?_; rw [Q.out]; rintro e w' ⟨rfl, rfl⟩)
            refine (body_any s i _ (by omega) hi).mono ?_
            rintro e w1 ⟨t, rfl, ht, hts, rfl⟩
            have HT := hide ht
            clear ht
            go_wp2_with (first | (refine wpList_load_row rfl 75 _ rfl _ rfl 75 _ (0, 0) _ HO.out Try.underlying75 rfl Try.i33 ?_))
            refine (size_any t _ _ (by omega) (Wd.sizesN_bd _ k)).mono ?_
            rw [HT.out, ← Q2.out]
            rintro e w2 ⟨rfl, hb2⟩
            have c1 := row_cell (below_row hb2 HN.out) (Wd.arr8_at _ f hfl)
            have c2 := frozen_of_row w2 N f _ _ (below_row hb2 HN.out)
            have HB2 := hide hb2
            clear hb2
            go_wp2_with fail
            go_roundw
            case rel =>
              have hNl := row_lt HO.out
              refine ⟨f + 1, by omega, by go_num, ?_, ?_, ?_, ?_⟩
              · rw [heap_setCell_other _ _ _ _ (by simp; omega)]; exact below_row HB2.out HA.out
              · rw [heap_setCell_other _ _ _ _ (by simp; omega)]; exact below_row HB2.out HO.out
              · rw [heap_setCell_same _ _ _ _ _ _ (below_row HB2.out HN.out), Wd.arr8_set _ _ _ hfl]
                congr 2
                apply Wd.arr8_congr
                intro j hj
                by_cases e : j = f
                · subst e; simp
                · by_cases e2 : j < f
                  · simp [e, e2, show j < f + 1 by omega]
                  · simp [e, e2, show ¬ j < f + 1 by omega]
              · exact (HB.out.trans (HB2.out.mono HB.out.size)).setCell (by simp; omega) _
            case measure => simp [intOf]; omega
        · go_wp2_with (first | (refine wpList_load_row rfl 75 _ rfl _ rfl 75 _ (0, 0) _ HN.out Try.underlying75 rfl Try.i33 ?_) | (refine wpList_store_row rfl 75 _ _ rfl _ _ rfl rfl 75 _ HO.out Try.i33 rfl (Wd.arr8_one _) ?_))
          refine ⟨⟨k + 1, by omega, by go_num, ?_, ?_, ?_⟩, by simp [intOf]; omega⟩
          · rw [setRow_other _ _ _ _ (by omega)]; exact HA.out
          · rw [setRow_heap _ _ _ _ _ _ HO.out]
            congr 2
            apply Wd.arr8_congr
            intro j hj
            simp [show j < f by omega]
          · exact below_setRow HB.out (by omega) _
    · have HA := hide hA
      have HO := hide hO
      have HB := hide hbe
      clear hA hO hbe
      obtain rfl : k = 8 := by omega
      go_wp2_with (first | (refine wpList_load_row rfl 75 _ rfl _ rfl 75 _ (0, 0) _ HO.out Try.underlying75 rfl Try.i33 ?_) | (refine wpList_store_row rfl 75 _ _ rfl _ _ rfl rfl 75 _ HA.out Try.i33 rfl (Wd.arr8_one _) ?_))
      exact bodyPost_ret (v := .agg (Wd.arr8 (Wd.sizesN s.data.toList 8))) (results_cell_row Try.results47 _ _ w.heap.size 75 _ (0, 0) _ rfl (setRow_heap _ _ _ _ _ _ HA.out) Try.underlying75 rfl Try.i33) rfl ⟨rfl, below_setRow HB.out (Nat.le_refl _) _⟩
end Go.Proofs.Ytecmfdkhcffpmaa
/- The document's machine in memory; contracts of its readers. -/
namespace Go.Proofs.Ytecmfdkhcffpmaa
open Go.RowKit
set_option linter.unusedSimpArgs false
set_option linter.unusedVariables false
set_option maxHeartbeats 800000
open Mc

/-- The first n cells of block g. -/
def Blk (w : World) (g n : Nat) (f : Nat → Value) : Prop := ∃ cs t, w.heap[g]? = some (.cells cs t (0, 0)) ∧ ∀ i, i < n → cs[i]? = some (f i)
theorem Blk.lt {w : World} {g n : Nat} {f : Nat → Value} (h : Blk w g n f) : g < w.heap.size := by
  obtain ⟨cs, t, h1, h2⟩ := h; exact row_lt h1
theorem Blk.cell {w : World} {g n : Nat} {f : Nat → Value} (h : Blk w g n f) (i : Nat) (hi : i < n) : w.cell? ⟨g, i, none⟩ = some (f i) := by
  obtain ⟨cs, t, h1, h2⟩ := h; exact row_cell h1 (h2 i hi)
theorem Blk.frozen {w : World} {g n : Nat} {f : Nat → Value} (h : Blk w g n f) (i : Nat) : w.frozen? ⟨g, i, none⟩ = false := by
  obtain ⟨cs, t, h1, h2⟩ := h; exact frozen_of_row w g i cs t h1
theorem Blk.same {w w' : World} {g n : Nat} {f : Nat → Value} (h : Blk w g n f) (he : w'.heap[g]? = w.heap[g]?) : Blk w' g n f := by
  obtain ⟨cs, t, h1, h2⟩ := h; exact ⟨cs, t, he.trans h1, h2⟩
theorem Blk.below {w w' : World} {g n : Nat} {f : Nat → Value} (h : Blk w g n f) (hb : Below w.heap.size w w') : Blk w' g n f := h.same (hb.block g h.lt)
theorem Blk.alloc {w : World} {g n : Nat} {f : Nat → Value} (h : Blk w g n f) (o : Obj) : Blk (w.alloc o) g n f := h.same (Below.heap_alloc w o g h.lt)
theorem Blk.congr {w : World} {g n : Nat} {f f' : Nat → Value} (h : Blk w g n f) (he : ∀ i, i < n → f i = f' i) : Blk w g n f' := by
  obtain ⟨cs, t, h1, h2⟩ := h; exact ⟨cs, t, h1, fun i hi => by rw [h2 i hi, he i hi]⟩
theorem Blk.set {w : World} {g n : Nat} {f : Nat → Value} (h : Blk w g n f) (i : Nat) (v : Value) : Blk (w.setCell ⟨g, i, none⟩ v) g n (fun j => if j = i then v else f j) := by
  obtain ⟨cs, t, h1, h2⟩ := h
  refine ⟨_, t, heap_setCell_same _ _ _ _ _ _ h1, fun j hj => ?_⟩
  have h3 := h2 j hj
  have hlt : j < cs.size := (Array.getElem?_eq_some_iff.1 h3).1
  by_cases e : j = i
  · subst e; simp [Array.getElem?_setIfInBounds, hlt]
  · simp [Array.getElem?_setIfInBounds, e, Ne.symm e, h3]
theorem heap_setCells_other (g : Nat) : ∀ (vs : List Value) (o : Nat) (w : World) (k : Nat), k ≠ g → (w.setCells g o vs).heap[k]? = w.heap[k]?
  | [], _, _, _, _ => rfl
  | v :: r, o, w, k, h => by
    rw [World.setCells, heap_setCells_other g r (o + 1) _ k h]
    exact heap_setCell_other w ⟨g, o, none⟩ k v h
theorem Below.setCells {B : Nat} {a : World} (g : Nat) (hg : B ≤ g) : ∀ (vs : List Value) (o : Nat) (w : World), Below B a w → Below B a (w.setCells g o vs)
  | [], _, _, h => h
  | v :: r, o, w, h => by
    rw [World.setCells]; exact Below.setCells g hg r (o + 1) _ (h.setCell (p := ⟨g, o, none⟩) hg v)
theorem Blk.sets {g n : Nat} : ∀ (vs : List Value) (o : Nat) (w : World) (f : Nat → Value), Blk w g n f → Blk (w.setCells g o vs) g n (fun j => if o ≤ j then (vs[j - o]?).getD (f j) else f j)
  | [], o, w, f, h => by
    refine h.congr fun i hi => ?_
    simp
  | v :: r, o, w, f, h => by
    rw [World.setCells]
    refine (Blk.sets r (o + 1) _ _ (h.set o v)).congr fun i hi => ?_
    by_cases e : i = o
    · subst e; rw [if_neg (by omega)]; simp
    · by_cases e2 : o ≤ i
      · have e3 : i - o = (i - (o + 1)) + 1 := by omega
        rw [if_pos (by omega), if_pos e2, if_neg e, e3, List.getElem?_cons_succ]
      · rw [if_neg (by omega), if_neg e2, if_neg e]
theorem Blk.range {w : World} {g n : Nat} {f : Nat → Value} (h : Blk w g n f) (o : Nat) (vs : List Value) (hn : o + vs.length ≤ n) (hv : ∀ j (hj : j < vs.length), vs[j] = f (o + j)) : w.rangeAt g o vs := by
  intro j v hj
  obtain ⟨hl, rfl⟩ := List.getElem?_eq_some_iff.1 hj
  rw [h.cell (o + j) (by omega), hv j hl]
theorem Blk.there {w : World} {g n : Nat} {f : Nat → Value} (h : Blk w g n f) (o m : Nat) (hn : o + m ≤ n) : w.there g o m := fun j hj => ⟨by rw [h.cell (o + j) (by omega)]; rfl, h.frozen _⟩

def frV (f : Fr) : List Value := [.bool f.there, .int .i64 (f.item : Int), .int .i64 (f.pos : Int), .int .i64 (f.held : Int)]
def cpF (x : Cp) : Nat → Value
  | 0 => .bool x.t.there
  | 1 => .int .i64 (x.t.item : Int)
  | 2 => .int .i64 (x.t.pos : Int)
  | 3 => .int .i64 (x.t.held : Int)
  | 4 => .bool x.h.there
  | 5 => .int .i64 (x.h.item : Int)
  | 6 => .int .i64 (x.h.pos : Int)
  | 7 => .int .i64 (x.h.held : Int)
  | _ => .bool x.off
def cpsF (S : Ma) (i : Nat) : Value := cpF (S.cp (i / 9)) (i % 9)
def itF (its : List Wd.It) (i : Nat) : Value := if i % 2 = 0 then .bool (isH its (i / 2)) else .string (Wd.mkS (bodyOf its (i / 2)))
theorem cpsF_at (S : Ma) (c j : Nat) (hj : j < 9) : cpsF S (c * 9 + j) = cpF (S.cp c) j := by
  unfold cpsF
  rw [show (c * 9 + j) / 9 = c by omega, show (c * 9 + j) % 9 = j by omega]
/-- Where the machine's parts lie. -/
structure Ad where
  ai : Option Addr
  ci : Nat
  g1 : Nat
  c1 : Nat
  a2 : Option Addr
  c2 : Nat
  g3 : Nat
  c3 : Nat
structure DM (w : World) (N b : Nat) (A : Ad) (its : List Wd.It) (n : Nat) (S : Ma) : Prop where
  root : Blk w b 4 (fun i => if i = 0 then .slice A.ai its.length A.ci else if i = 1 then .slice (some ⟨A.g1, 0, none⟩) n A.c1 else if i = 2 then .slice A.a2 its.length A.c2 else .slice (some ⟨A.g3, 0, none⟩) its.length A.c3)
  items : 0 < its.length → ∃ g, A.ai = some ⟨g, 0, none⟩ ∧ Blk w g (its.length * 2) (itF its) ∧ g ≠ b ∧ g ≠ A.g1 ∧ g ≠ A.g3
  cpus : Blk w A.g1 (n * 9) (cpsF S)
  ready : 0 < its.length → ∃ g, A.a2 = some ⟨g, 0, none⟩ ∧ Blk w g its.length (fun i => .bool (S.rd i)) ∧ g ≠ b ∧ g ≠ A.g1 ∧ g ≠ A.g3 ∧ N ≤ g ∧ A.ai ≠ some ⟨g, 0, none⟩
  at_ : Blk w A.g3 its.length (fun i => .int .i64 (S.pl i : Int))
  ne : b ≠ A.g1 ∧ b ≠ A.g3 ∧ A.g1 ≠ A.g3 ∧ N ≤ b ∧ N ≤ A.g1 ∧ N ≤ A.g3
  caps : its.length ≤ A.ci ∧ A.ci ≤ maxLen ∧ n ≤ A.c1 ∧ A.c1 ≤ maxLen ∧ its.length ≤ A.c2 ∧ A.c2 ≤ maxLen ∧ its.length ≤ A.c3 ∧ A.c3 ≤ maxLen
  a2 : A.a2 ≠ some ⟨b, 0, none⟩ ∧ A.a2 ≠ some ⟨A.g1, 0, none⟩ ∧ A.a2 ≠ some ⟨A.g3, 0, none⟩ ∧ ∀ g, A.a2 = some ⟨g, 0, none⟩ → N ≤ g
theorem DM.below {w w' : World} {N b : Nat} {A : Ad} {its : List Wd.It} {n : Nat} {S : Ma} (h : DM w N b A its n S) (hb : Below w.heap.size w w') : DM w' N b A its n S :=
  ⟨h.root.below hb, fun hl => (h.items hl).imp fun g hg => ⟨hg.1, hg.2.1.below hb, hg.2.2⟩, h.cpus.below hb, fun hl => (h.ready hl).imp fun g hg => ⟨hg.1, hg.2.1.below hb, hg.2.2⟩, h.at_.below hb, h.ne, h.caps, h.a2⟩
theorem DM.alloc {w : World} {N b : Nat} {A : Ad} {its : List Wd.It} {n : Nat} {S : Ma} (h : DM w N b A its n S) (o : Obj) : DM (w.alloc o) N b A its n S := h.below ((Below.refl _ _).alloc (Nat.le_refl _) o)
theorem DM.cpAt {w : World} {N b : Nat} {A : Ad} {its : List Wd.It} {n : Nat} {S : Ma} (h : DM w N b A its n S) (c j : Nat) (hc : c < n) (hj : j < 9) : w.cell? ⟨A.g1, c * 9 + j, none⟩ = some (cpF (S.cp c) j) := by
  rw [h.cpus.cell (c * 9 + j) (by omega), cpsF_at S c j hj]
theorem DM.rangeT {w : World} {N b : Nat} {A : Ad} {its : List Wd.It} {n : Nat} {S : Ma} (h : DM w N b A its n S) (c : Nat) (hc : c < n) : w.rangeAt A.g1 (c * 9) (frV (S.cp c).t) := by
  refine h.cpus.range _ _ (by simp [frV]; omega) fun j hj => ?_
  simp [frV] at hj
  rw [cpsF_at S c j (by omega)]
  rcases j with _ | _ | _ | _ | j <;> first | rfl | omega
theorem DM.rangeH {w : World} {N b : Nat} {A : Ad} {its : List Wd.It} {n : Nat} {S : Ma} (h : DM w N b A its n S) (c : Nat) (hc : c < n) : w.rangeAt A.g1 (c * 9 + 4) (frV (S.cp c).h) := by
  refine h.cpus.range _ _ (by simp [frV]; omega) fun j hj => ?_
  simp [frV] at hj
  rw [Nat.add_assoc, cpsF_at S c (4 + j) (by omega)]
  rcases j with _ | _ | _ | _ | j <;> first | rfl | omega
theorem Try.iFrame : (Try.prog.info? 131).map (·.size) = some 4 := by kernel_rfl
theorem Try.uFrame : ∃ d, Try.prog.underlying 131 = some d ∧ d.isRow = true := ⟨_, Try.underlying131, rfl⟩

theorem frV_one (f : Fr) : (frV f).toArray.all (·.oneCell') = true := by simp [frV, Value.oneCell']
set_option maxRecDepth 100000 in
theorem works_any (w : World) (N b : Nat) (A : Ad) (its : List Wd.It) (n : Nat) (S : Ma) (c : Nat) (h : DM w N b A its n S) (hc : c < n) (hn : n ≤ 3) :
    Calls Try.prog 102 #[.pointer (some ⟨b, 0, none⟩), .int .i64 c] w fun e w' => e = .returned (.agg (frV (works S c)).toArray) ∧ Below w.heap.size w w' := by
  have r1 : ∀ o, (w.alloc o).cell? ⟨b, 1, none⟩ = some (.slice (some ⟨A.g1, 0, none⟩) n A.c1) := fun o => (h.alloc o).root.cell 1 (by omega)
  have q4 : ∀ o, (w.alloc o).cell? ⟨A.g1, c * 9 + 4, none⟩ = some (.bool (S.cp c).h.there) := fun o => (h.alloc o).cpAt c 4 hc (by omega)
  have RT := hide (fun o => (h.alloc o).rangeT c hc)
  have RH := hide (fun o => (h.alloc o).rangeH c hc)
  obtain ⟨ud, hu, hd⟩ := Try.uFrame
  have HU := hide hu
  have HD := hide hd
  have CA := h.caps
  unfold maxLen at CA
  cases ht : (S.cp c).h.there
  · rw [ht] at q4
    have e : works S c = (S.cp c).t := by simp [works, ht]
    rw [e]
    clear e h hu hd
    go_enter Try.func102, Try.ntmps102
    go_wp2_with (first | (refine wpList_load_mid rfl _ _ rfl _ _ rfl _ ud (RT.out _) HU.out HD.out Try.iFrame ?_) | (refine wpList_store_row rfl 131 _ _ rfl _ _ rfl rfl 131 _ (heap_alloc_last _ _) Try.iFrame rfl (frV_one _) ?_; rw [World.setRow_alloc_new]))
    exact bodyPost_ret (v := .agg (frV (S.cp c).t).toArray) (results_cell_row Try.results102 _ _ w.heap.size 131 _ (0, 0) _ rfl (heap_alloc_last _ _) Try.underlying131 rfl Try.iFrame) rfl ⟨rfl, (Below.refl _ _).alloc (Nat.le_refl _) _⟩
  · rw [ht] at q4
    have e : works S c = (S.cp c).h := by simp [works, ht]
    rw [e]
    clear e h hu hd
    go_enter Try.func102, Try.ntmps102
    go_wp2_with (first | (refine wpList_load_mid rfl _ _ rfl _ _ rfl _ ud (RH.out _) HU.out HD.out Try.iFrame ?_) | (refine wpList_store_row rfl 131 _ _ rfl _ _ rfl rfl 131 _ (heap_alloc_last _ _) Try.iFrame rfl (frV_one _) ?_; rw [World.setRow_alloc_new]))
    exact bodyPost_ret (v := .agg (frV (S.cp c).h).toArray) (results_cell_row Try.results102 _ _ w.heap.size 131 _ (0, 0) _ rfl (heap_alloc_last _ _) Try.underlying131 rfl Try.iFrame) rfl ⟨rfl, (Below.refl _ _).alloc (Nat.le_refl _) _⟩
end Go.Proofs.Ytecmfdkhcffpmaa
