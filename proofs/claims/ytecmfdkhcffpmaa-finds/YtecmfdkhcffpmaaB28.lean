/- RefK, MacS, RowK, PureM5. -/
import Derived.Test.YtecmfdkhcffpmaaB26
import Derived.Test.YtecmfdkhcffpmaaB21
import Derived.Test.YtecmfdkhcffpmaaB27
import Derived.Test.YtecmfdkhcffpmaaB18
import Derived.Test.YtecmfdkhcffpmaaB25
import Derived.Test.YtecmfdkhcffpmaaB23
import Derived.Test.YtecmfdkhcffpmaaB24
import Derived.Laws.BytesArg
import Derived.Laws.IdiomStrings
import Derived.Test.YtecmfdkhcffpmaaB06
/- Contract of the document's 'Unfold'. -/
namespace Go.Proofs.Ytecmfdkhcffpmaa
open Go.RowKit
set_option linter.unusedSimpArgs false
set_option linter.unusedVariables false
set_option maxHeartbeats 800000

theorem refUnfold_no (s : ByteArray) (w : World) (hs : s.size ≤ maxLen) (hne : (Wd.checkR s.data.toList).1 ≠ 0) :
    Calls Try.prog 16 #[.string s] w fun e w' => e = .returned (.tuple #[.slice none 0 0, .int .i64 (Wd.checkR s.data.toList).1]) ∧ Below w.heap.size w w' := by
  have HX := hide (checkR_any s w hs)
  have hn : ((Wd.checkR s.data.toList).1 != 0) = true := by rw [bne_iff_ne]; exact hne
  clear hne
  generalize (Wd.checkR s.data.toList).1 = a at *
  generalize (Wd.checkR s.data.toList).2 = b at *
  go_enter Try.func16, Try.ntmps16
  go_wp2_with (go_at_call 15; refine HX.out.mono ?_; rintro e w' ⟨rfl, hb⟩)
  go_ret2
  exact ⟨rfl, hb⟩

set_option maxRecDepth 100000 in
set_option maxHeartbeats 2000000 in
theorem refUnfold_ok (s : ByteArray) (w : World) (hs : s.size ≤ 240) (hok : (Wd.checkR s.data.toList).1 = 0) (hL : ∀ i ∈ Wd.starts s.data.toList, ∀ p, p ≤ 8 → (Wd.passN s.data.toList (Wd.sizesN s.data.toList 8) (Wd.body s.data.toList i) p).length ≤ 100000) :
    Calls Try.prog 16 #[.string s] w fun e w' => ∃ v, e = .returned (.tuple #[v, .int .i64 0]) ∧ w'.ownsRow w.heap.size 31 2 v (Wd.unfoldR s.data.toList).length (Wd.itsV (Wd.unfoldR s.data.toList)) ∧ Below w.heap.size w w' := by
  have HX := checkR_any s w (by unfold maxLen; omega)
  rw [hok] at HX
  have HXX := hide HX
  have HL := hide hL
  clear HX hL hok
  generalize (Wd.checkR s.data.toList).2 = b at *
  obtain ⟨i0, hi, hz0, hz1, hz2⟩ := info_parts Try.info31
  have HUR : Hid (Wd.unfoldR s.data.toList = (Wd.starts s.data.toList).map (Wd.itemR s.data.toList)) := rfl
  go_enter Try.func16, Try.ntmps16
  go_wp2_with fail
  refine HXX.out.mono ?_
  rintro e w3 ⟨rfl, hb3⟩
  have HB3 := hide hb3
  clear hb3 HXX
  go_wp2_with fail
  refine (sizes_any s _ (by omega)).mono ?_
  rintro e w4 ⟨rfl, hb4⟩
  have HB4 := hide (HB3.out.trans (hb4.mono HB3.out.size))
  clear hb4 HB3
  go_wp2_with (refine wpList_store_row rfl 75 _ _ rfl _ _ rfl rfl 75 _ (heap_alloc_last _ _) Try.i33 rfl (Wd.arr8_one _) ?_)
  rw [World.setRow_alloc_new]
  go_wp2_with fail
  have a1 := hide (heap_alloc_last w4 (.cells (Wd.arr8 (Wd.sizesN s.data.toList 8)) 75))
  have a2 : Hid (Below w.heap.size w (w4.alloc (.cells (Wd.arr8 (Wd.sizesN s.data.toList 8)) 75))) := HB4.out.alloc HB4.out.size _
  generalize w4.alloc (.cells (Wd.arr8 (Wd.sizesN s.data.toList 8)) 75) = W at *
  generalize w4.heap.size = N at *
  clear HB4
  refine (starts_any s _ (by omega)).mono ?_
  rintro e w5 ⟨v, rfl, hown, hb5⟩
  obtain ⟨ao, cap, rfl, hnc, hcap, hlen, hcell⟩ := own_shape hown
  have A1 := hide (below_row hb5 a1.out)
  have A2 := hide (a2.out.trans (hb5.mono a2.out.size))
  have HCL := hide hcell
  have hln := Wd.startsTo_len s.data.toList s.data.toList.length
  rw [show Wd.startsTo s.data.toList s.data.toList.length = Wd.starts s.data.toList from rfl, Wd.len_str] at hln
  unfold maxLen at hcap
  clear a1 a2 hown hb5 hcell hlen
  generalize hn : (Wd.starts s.data.toList).length = n at *
  have HN := hide hn
  clear hn
  go_wp2_with fail
  go_loopw [8, 9] (fun a b wr => ∃ k : Nat, k ≤ n ∧ b = .int .i64 k ∧ Below w5.heap.size w5 wr ∧ wr.ownsRow w5.heap.size 31 2 a ((Wd.unfoldR s.data.toList).take k).length (Wd.itsV ((Wd.unfoldR s.data.toList).take k))) (fun _ b _ => n - (intOf b).toNat)
  case atStart => exact ⟨0, by omega, rfl, Below.refl _ _, World.ownsRow_nil _ _ _ _⟩
  case round =>
    obtain ⟨k, hk, rfl, hbe, hO⟩ := hrel
    have HB := hide hbe
    have HO := hide hO
    clear hbe hO
    by_cases hkl : k < n
    · have hget : (Wd.starts s.data.toList)[k]? = some ((Wd.starts s.data.toList).getD k 0) := by
        rw [List.getD_eq_getElem?_getD, List.getElem?_eq_getElem (by rw [HN.out]; exact hkl)]; rfl
      obtain ⟨g, rfl, hc1, hg1, hg2⟩ := HCL.out k (.int .i64 (((Wd.starts s.data.toList).getD k 0 : Nat) : Int)) (by simp only [Wd.intsV, List.getElem?_map, hget]; rfl)
      have hmem := List.mem_of_getElem? hget
      have hst : (Wd.starts s.data.toList).getD k 0 + 2 ≤ s.size := by
        have := Wd.starts_mem hmem
        rw [Wd.len_str] at this; omega
      have HLx := hide (HL.out _ hmem)
      have HTK : Hid ((Wd.unfoldR s.data.toList).take (k + 1) = (Wd.unfoldR s.data.toList).take k ++ [Wd.itemR s.data.toList ((Wd.starts s.data.toList).getD k 0)]) := by
        apply hide
        rw [List.take_add_one, HUR.out, List.getElem?_map, hget]; rfl
      have htl : ((Wd.unfoldR s.data.toList).take k).length ≤ 240 := by
        rw [HUR.out]; simp; omega
      generalize hx : (Wd.starts s.data.toList).getD k 0 = x at *
      have c1 := (HB.out.cell (p := ⟨g, k, none⟩) hg2).trans hc1
      have HO1 := hide (below_row HB.out A1.out)
      have hxs : x < s.size := by omega
      have HAT := hide (Wd.at_str s x hxs)
      have b0 := Wd.at_lo s.data.toList x
      have b1 := Wd.at_hi s.data.toList x
      rw [← HAT.out] at b0 b1
      clear hx hc1 hget hmem
      go_wp2_with fail
      refine (body_any s x _ (by omega) hst).mono ?_
      rintro e w6 ⟨t, rfl, ht, hts, rfl⟩
      have HT := hide ht
      clear ht
      go_wp2_with (refine wpList_load_row rfl 75 _ rfl _ rfl 75 _ (0, 0) _ HO1.out Try.underlying75 rfl Try.i33 ?_)
      refine (unfolded_any s t _ _ (by omega) (Wd.sizesN_bd _ 8) (Wd.sizesN_head _) (by rw [HT.out]; exact HLx.out)).mono ?_
      rintro e w7 ⟨u, rfl, hu, hb7⟩
      have HU := hide hu
      have HB7 := hide (HB.out.trans (hb7.mono HB.out.size))
      have c2 := (HB7.out.cell (p := ⟨g, k, none⟩) hg2).trans (((HB.out.cell (p := ⟨g, k, none⟩) hg2).symm.trans c1))
      have HO7 := hide (own_below HO.out hb7)
      have c2' : ∀ o, (w7.alloc o).cell? ⟨g, k, none⟩ = some (.int .i64 (x : Int)) := fun o => by rw [World.cell?_alloc_past _ _ _ (World.block_lt_of_cell? w7 _ c2)]; exact c2
      clear hu hb7 c1
      go_wp2_with (at_builtin; refine wpList_append_own _ rfl _ _ 26 rfl w5.heap.size 31 i0 (.agg #[.bool false, .string ByteArray.empty]) 2 24 Try.underlying26 hi hz0 hz1 hz2 rfl (by decide) _ _ _ rfl (HO7.out.alloc _) ⟨_, 0, none⟩ 1 1 [.bool (((s[x].toNat : Nat) : Int) == 104), .string u] rfl rfl (cell_two_new _ _ _ _) (fun y hy => by simp at hy; rcases hy with rfl | rfl <;> rfl) (by unfold maxLen; omega) (by omega) (by have := HB7.out.size; simp; omega) ?_; intro v' w8 hown' hgrow3 hnil3; have HG := hide hgrow3; have HW := hide hown'; clear hgrow3 hown' hnil3)
      refine ⟨⟨k + 1, by omega, by go_num, (HB7.out.alloc HB7.out.size _).grown HG.out (by have := HB7.out.size; simp; omega) (fun q hq => (HO7.out.lt q hq).1), ?_⟩, by simp [intOf]; omega⟩
      rw [HTK.out, Wd.itsV_snoc, List.length_append]
      have e1 : Wd.itV (Wd.itemR s.data.toList x) = [.bool (((s[x].toNat : Nat) : Int) == 104), .string u] := by
        simp only [Wd.itV, Wd.itemR, ← HAT.out, ← HT.out, ← HU.out, Wd.mkS_of]
      rw [e1]
      exact HW.out
    · go_wp2_with fail
      go_ret2
      refine ⟨_, rfl, ?_, A2.out.trans (HB.out.mono A2.out.size)⟩
      obtain rfl : k = n := by omega
      have e : (Wd.unfoldR s.data.toList).take k = Wd.unfoldR s.data.toList := List.take_of_length_le (by rw [HUR.out]; simp [HN.out])
      have := HO.out
      rw [e] at this
      exact own_mono this A2.out.size
end Go.Proofs.Ytecmfdkhcffpmaa
/- The contract of the document's Run. -/
namespace Go.Proofs.Ytecmfdkhcffpmaa
open Go.RowKit
set_option linter.unusedSimpArgs false
set_option linter.unusedVariables false
set_option maxHeartbeats 8000000
open Mc

/-- All the machine's blocks lie below B. -/
structure Ad.lt (A : Ad) (m b B : Nat) : Prop where
  b : b < B
  g1 : A.g1 < B
  g3 : A.g3 < B
  ai : 0 < m → ∀ g, A.ai = some ⟨g, 0, none⟩ → g < B
  a2 : ∀ g, A.a2 = some ⟨g, 0, none⟩ → g < B
end Go.Proofs.Ytecmfdkhcffpmaa
/- A block told whole: small laws. -/
namespace Go.Proofs.Ytecmfdkhcffpmaa
open Go.RowKit
set_option linter.unusedSimpArgs false
set_option linter.unusedVariables false
/-- Block g has just these cells. -/
def Row (w : World) (g : Nat) (cs : Array Value) (t : TypeId) : Prop := w.heap[g]? = some (.cells cs t (0, 0))
theorem Row.raw {w : World} {g : Nat} {cs : Array Value} {t : TypeId} (h : Row w g cs t) : w.heap[g]? = some (.cells cs t (0, 0)) := h
theorem Row.lt {w : World} {g : Nat} {cs : Array Value} {t : TypeId} (h : Row w g cs t) : g < w.heap.size := row_lt h
theorem Row.cell {w : World} {g : Nat} {cs : Array Value} {t : TypeId} (h : Row w g cs t) (i : Nat) {v : Value} (hi : cs[i]? = some v) : w.cell? ⟨g, i, none⟩ = some v := row_cell h hi
theorem Row.frozen {w : World} {g : Nat} {cs : Array Value} {t : TypeId} (h : Row w g cs t) (i : Nat) : w.frozen? ⟨g, i, none⟩ = false := frozen_of_row w g i cs t h
theorem Row.below {w w' : World} {g : Nat} {cs : Array Value} {t : TypeId} (h : Row w g cs t) (hb : Below w.heap.size w w') : Row w' g cs t := below_row hb h
theorem Row.same {w w' : World} {g : Nat} {cs : Array Value} {t : TypeId} (h : Row w g cs t) (he : w'.heap[g]? = w.heap[g]?) : Row w' g cs t := he.trans h
theorem Row.alloc {w : World} {g : Nat} {cs : Array Value} {t : TypeId} (h : Row w g cs t) (o : Obj) : Row (w.alloc o) g cs t := h.same (Below.heap_alloc w o g h.lt)
theorem Row.new (w : World) (cs : Array Value) (t : TypeId) : Row (w.alloc (.cells cs t)) w.heap.size cs t := heap_alloc_last _ _
theorem Row.set {w : World} {g : Nat} {cs : Array Value} {t : TypeId} (h : Row w g cs t) (i : Nat) (v : Value) : Row (w.setCell ⟨g, i, none⟩ v) g (cs.setIfInBounds i v) t := heap_setCell_same _ _ _ _ _ _ h
theorem Row.setO {w : World} {g k : Nat} {cs : Array Value} {t : TypeId} (h : Row w k cs t) (hne : k ≠ g) (i : Nat) (v : Value) : Row (w.setCell ⟨g, i, none⟩ v) k cs t := h.same (heap_setCell_other _ _ _ _ hne)
def setsA : Array Value → Nat → List Value → Array Value
  | cs, _, [] => cs
  | cs, o, v :: r => setsA (cs.setIfInBounds o v) (o + 1) r
theorem Row.sets {g : Nat} {t : TypeId} : ∀ (vs : List Value) (o : Nat) (w : World) (cs : Array Value), Row w g cs t → Row (w.setCells g o vs) g (setsA cs o vs) t
  | [], _, _, _, h => h
  | v :: r, o, w, cs, h => Row.sets r (o + 1) _ _ (h.set o v)
theorem Row.setsO {w : World} {g k : Nat} {cs : Array Value} {t : TypeId} (h : Row w k cs t) (hne : k ≠ g) (o : Nat) (vs : List Value) : Row (w.setCells g o vs) k cs t := h.same (heap_setCells_other g vs o w k hne)
theorem Row.setRow {w : World} {g : Nat} {cs : Array Value} {t : TypeId} (h : Row w g cs t) (cs' : Array Value) : Row (w.setRow g cs') g cs' t := setRow_heap _ _ _ _ _ _ h
theorem Row.range {w : World} {g : Nat} {cs : Array Value} {t : TypeId} (h : Row w g cs t) (o : Nat) (vs : List Value) (hv : ∀ j v, vs[j]? = some v → cs[o + j]? = some v) : w.rangeAt g o vs := fun j v hj => h.cell (o + j) (hv j v hj)
theorem Row.there {w : World} {g : Nat} {cs : Array Value} {t : TypeId} (h : Row w g cs t) (o m : Nat) (hn : o + m ≤ cs.size) : w.there g o m := fun j hj => ⟨by rw [h.cell (o + j) (Array.getElem?_eq_getElem (show o + j < cs.size by omega))]; rfl, h.frozen _⟩
theorem Row.two (w : World) (a b : Array Value) (s t : TypeId) : Row ((w.alloc (.cells a s)).alloc (.cells b t)) w.heap.size a s ∧ Row ((w.alloc (.cells a s)).alloc (.cells b t)) (w.heap.size + 1) b t := by
  refine ⟨(Row.new w a s).alloc _, ?_⟩
  have := Row.new (w.alloc (.cells a s)) b t
  simpa using this
theorem Row.three (w : World) (a b c : Array Value) (s t u : TypeId) : Row (((w.alloc (.cells a s)).alloc (.cells b t)).alloc (.cells c u)) w.heap.size a s ∧ Row (((w.alloc (.cells a s)).alloc (.cells b t)).alloc (.cells c u)) (w.heap.size + 1) b t ∧ Row (((w.alloc (.cells a s)).alloc (.cells b t)).alloc (.cells c u)) (w.heap.size + 2) c u := by
  refine ⟨(Row.two w a b s t).1.alloc _, (Row.two w a b s t).2.alloc _, ?_⟩
  have := Row.new ((w.alloc (.cells a s)).alloc (.cells b t)) c u
  simpa using this
theorem below_two (w : World) (a b : Obj) : Below w.heap.size w ((w.alloc a).alloc b) := ((Below.refl _ w).alloc (Nat.le_refl _) a).alloc (by simp) b
theorem below_three (w : World) (a b c : Obj) : Below w.heap.size w (((w.alloc a).alloc b).alloc c) := (below_two w a b).alloc (by simp; omega) c
theorem below_one (w : World) (a : Obj) : Below w.heap.size w (w.alloc a) := (Below.refl _ w).alloc (Nat.le_refl _) a
theorem Row.s80 {w : World} {g : Nat} {t : TypeId} {a0 a1 a2 a3 a4 a5 a6 a7 : Value} (h : Row w g #[a0, a1, a2, a3, a4, a5, a6, a7] t) (v : Value) : Row (w.setCell ⟨g, 0, none⟩ v) g #[v, a1, a2, a3, a4, a5, a6, a7] t := by have := h.set 0 v; simpa using this
theorem Row.s87 {w : World} {g : Nat} {t : TypeId} {a0 a1 a2 a3 a4 a5 a6 a7 : Value} (h : Row w g #[a0, a1, a2, a3, a4, a5, a6, a7] t) (v : Value) : Row (w.setCell ⟨g, 7, none⟩ v) g #[a0, a1, a2, a3, a4, a5, a6, v] t := by have := h.set 7 v; simpa using this
theorem Row.s86 {w : World} {g : Nat} {t : TypeId} {a0 a1 a2 a3 a4 a5 a6 a7 : Value} (h : Row w g #[a0, a1, a2, a3, a4, a5, a6, a7] t) (v1 v2 v3 v4 v5 v6 : Value) : Row (w.setCells g 1 [v1, v2, v3, v4, v5, v6]) g #[a0, v1, v2, v3, v4, v5, v6, a7] t := by have := Row.sets [v1, v2, v3, v4, v5, v6] 1 w _ h; simpa [setsA] using this
end Go.Proofs.Ytecmfdkhcffpmaa
/- Brackets in a body, and their partners. -/
namespace Go.Proofs.Ytecmfdkhcffpmaa
open Go.RowKit
set_option linter.unusedSimpArgs false
set_option linter.unusedVariables false
namespace Mc
open Wd
/-- A choice: its bracket at i, its bar at j, its end at k. -/
def Alt (b : List UInt8) (i j k : Nat) : Prop := ∃ pre x y r, b = pre ++ 40 :: (x ++ 124 :: (y ++ 41 :: r)) ∧ pre.length = i ∧ i + 1 + x.length = j ∧ j + 1 + y.length = k ∧ Bd x ∧ Bd y
/-- A loop: its bracket at i, its end at k. -/
def Star (b : List UInt8) (i k : Nat) : Prop := ∃ pre x r, b = pre ++ 91 :: (x ++ 93 :: r) ∧ pre.length = i ∧ i + 1 + x.length = k ∧ Bd x
theorem Alt.mid {b : List UInt8} {i j k : Nat} (h : Alt b i j k) (p q : List UInt8) : Alt (p ++ (b ++ q)) (p.length + i) (p.length + j) (p.length + k) := by
  obtain ⟨pre, x, y, r, e, h1, h2, h3, h4, h5⟩ := h
  exact ⟨p ++ pre, x, y, r ++ q, by rw [e]; simp, by simp [h1], by omega, by omega, h4, h5⟩
theorem Star.mid {b : List UInt8} {i k : Nat} (h : Star b i k) (p q : List UInt8) : Star (p ++ (b ++ q)) (p.length + i) (p.length + k) := by
  obtain ⟨pre, x, r, e, h1, h2, h4⟩ := h
  exact ⟨p ++ pre, x, r ++ q, by rw [e]; simp, by simp [h1], by omega, h4⟩
/-- What stands at a place of a body, as far as brackets go. -/
structure Br (b : List UInt8) (p : Nat) : Prop where
  o : at_ b p = 40 → ∃ j k, Alt b p j k
  m : at_ b p = 124 → ∃ i k, Alt b i p k
  c : at_ b p = 41 → ∃ i j, Alt b i j p
  s : at_ b p = 91 → ∃ k, Star b p k
  e : at_ b p = 93 → ∃ i, Star b i p
theorem Br.mid {b : List UInt8} {p : Nat} (h : Br b p) (a q : List UInt8) (hp : p < b.length) : Br (a ++ (b ++ q)) (a.length + p) := by
  have e : at_ (a ++ (b ++ q)) (a.length + p) = at_ b p := by rw [at_right, at_app_l hp]
  constructor <;> rw [e] <;> intro hc
  · obtain ⟨j, k, hh⟩ := h.o hc; exact ⟨_, _, hh.mid a q⟩
  · obtain ⟨j, k, hh⟩ := h.m hc; exact ⟨_, _, hh.mid a q⟩
  · obtain ⟨j, k, hh⟩ := h.c hc; exact ⟨_, _, hh.mid a q⟩
  · obtain ⟨k, hh⟩ := h.s hc; exact ⟨_, hh.mid a q⟩
  · obtain ⟨k, hh⟩ := h.e hc; exact ⟨_, hh.mid a q⟩
theorem Br.none {b : List UInt8} {p : Nat} (h : at_ b p ≠ 40 ∧ at_ b p ≠ 124 ∧ at_ b p ≠ 41 ∧ at_ b p ≠ 91 ∧ at_ b p ≠ 93) : Br b p :=
  ⟨fun e => absurd e h.1, fun e => absurd e h.2.1, fun e => absurd e h.2.2.1, fun e => absurd e h.2.2.2.1, fun e => absurd e h.2.2.2.2⟩
theorem Br.only {b : List UInt8} {p : Nat} {v : Int} (hv : at_ b p = v) (h40 : v = 40 → ∃ j k, Alt b p j k) (h124 : v = 124 → ∃ i k, Alt b i p k) (h41 : v = 41 → ∃ i j, Alt b i j p) (h91 : v = 91 → ∃ k, Star b p k) (h93 : v = 93 → ∃ i, Star b i p) : Br b p := by
  subst hv; exact ⟨h40, h124, h41, h91, h93⟩
theorem bt124 : bt 124 = 124 := rfl
theorem bt41 : bt 41 = 41 := rfl
theorem bt93 : bt 93 = 93 := rfl
theorem br_all {b : List UInt8} (h : Bd b) : ∀ p, p < b.length → Br b p := by
  induction h with
  | nil => intro p hp; simp at hp
  | lock c d r h1 h2 _ ih =>
    intro p hp
    match p, hp with
    | 0, _ => exact Br.none (by rw [at_cons_zero]; omega)
    | 1, _ => exact Br.none (by rw [at_cons_succ, at_cons_zero]; simp [lk] at h2; omega)
    | p + 2, hp =>
      have := (ih p (by simpa using hp)).mid [c, d] [] (by simpa using hp)
      simpa [Nat.add_comm] using this
  | cell c d r h1 h2 _ ih =>
    intro p hp
    match p, hp with
    | 0, _ => exact Br.none (by rw [at_cons_zero]; omega)
    | 1, _ => exact Br.none (by rw [at_cons_succ, at_cons_zero]; simp [cl] at h2; omega)
    | p + 2, hp =>
      have := (ih p (by simpa using hp)).mid [c, d] [] (by simpa using hp)
      simpa [Nat.add_comm] using this
  | one c r h1 _ ih =>
    intro p hp
    match p, hp with
    | 0, _ => exact Br.none (by rw [at_cons_zero]; rw [up_iff] at h1; omega)
    | p + 1, hp =>
      have := (ih p (by simpa using hp)).mid [c] [] (by simpa using hp)
      simpa [Nat.add_comm] using this
  | alt x y r hx hy hr ix iy ir =>
    intro p hp
    have hA : Alt (40 :: (x ++ 124 :: (y ++ 41 :: r))) 0 (1 + x.length) (1 + x.length + 1 + y.length) := ⟨[], x, y, r, rfl, rfl, by omega, rfl, hx, hy⟩
    by_cases c0 : p = 0
    · subst c0
      exact Br.only (v := 40) rfl (fun _ => ⟨_, _, hA⟩) (by intro e; cases e) (by intro e; cases e) (by intro e; cases e) (by intro e; cases e)
    by_cases c1 : p < 1 + x.length
    · have := (ix (p - 1) (by omega)).mid [40] (124 :: (y ++ 41 :: r)) (by omega)
      have e : [(40 : UInt8)].length + (p - 1) = p := by simp; omega
      rw [e] at this; exact this
    by_cases c2 : p = 1 + x.length
    · have hv : at_ (40 :: (x ++ 124 :: (y ++ 41 :: r))) p = 124 := by
        have : at_ ((40 :: x) ++ (124 :: (y ++ 41 :: r))) ((40 :: x).length + 0) = at_ (124 :: (y ++ 41 :: r)) 0 := at_right _ _ _
        have this := this.trans (at_cons_zero _ _)
        simp only [bt124, bt41, bt93] at this
        rw [c2]; simpa [Nat.add_comm] using this
      refine Br.only hv (by intro e; cases e) (fun _ => ⟨0, _, by rw [c2]; exact hA⟩) (by intro e; cases e) (by intro e; cases e) (by intro e; cases e)
    by_cases c3 : p < 1 + x.length + 1 + y.length
    · have := (iy (p - (x.length + 2)) (by omega)).mid (40 :: (x ++ [124])) (41 :: r) (by omega)
      have e : (40 :: (x ++ [124]) : List UInt8).length + (p - (x.length + 2)) = p := by simp; omega
      rw [e] at this; simpa using this
    by_cases c4 : p = 1 + x.length + 1 + y.length
    · have hv : at_ (40 :: (x ++ 124 :: (y ++ 41 :: r))) p = 41 := by
        have : at_ ((40 :: (x ++ 124 :: y)) ++ (41 :: r)) ((40 :: (x ++ 124 :: y)).length + 0) = at_ (41 :: r) 0 := at_right _ _ _
        have this := this.trans (at_cons_zero _ _)
        simp only [bt124, bt41, bt93] at this
        have e : (40 :: (x ++ 124 :: y) : List UInt8).length + 0 = p := by simp; omega
        rw [e] at this; simpa using this
      refine Br.only hv (by intro e; cases e) (by intro e; cases e) (fun _ => ⟨0, _, by rw [c4]; exact hA⟩) (by intro e; cases e) (by intro e; cases e)
    · have hl : p < (40 :: (x ++ 124 :: (y ++ 41 :: r))).length := hp
      simp at hl
      have := (ir (p - (x.length + y.length + 3)) (by omega)).mid (40 :: (x ++ 124 :: (y ++ [41]))) [] (by omega)
      have e : (40 :: (x ++ 124 :: (y ++ [41])) : List UInt8).length + (p - (x.length + y.length + 3)) = p := by simp; omega
      rw [e] at this; simpa using this
  | star x r hx hr ix ir =>
    intro p hp
    have hS : Star (91 :: (x ++ 93 :: r)) 0 (1 + x.length) := ⟨[], x, r, rfl, rfl, by omega, hx⟩
    by_cases c0 : p = 0
    · subst c0
      exact Br.only (v := 91) rfl (by intro e; cases e) (by intro e; cases e) (by intro e; cases e) (fun _ => ⟨_, hS⟩) (by intro e; cases e)
    by_cases c1 : p < 1 + x.length
    · have := (ix (p - 1) (by omega)).mid [91] (93 :: r) (by omega)
      have e : [(91 : UInt8)].length + (p - 1) = p := by simp; omega
      rw [e] at this; exact this
    by_cases c2 : p = 1 + x.length
    · have hv : at_ (91 :: (x ++ 93 :: r)) p = 93 := by
        have : at_ ((91 :: x) ++ (93 :: r)) ((91 :: x).length + 0) = at_ (93 :: r) 0 := at_right _ _ _
        have this := this.trans (at_cons_zero _ _)
        simp only [bt124, bt41, bt93] at this
        rw [c2]; simpa [Nat.add_comm] using this
      refine Br.only hv (by intro e; cases e) (by intro e; cases e) (by intro e; cases e) (by intro e; cases e) (fun _ => ⟨0, by rw [c2]; exact hS⟩)
    · have hl : p < (91 :: (x ++ 93 :: r)).length := hp
      simp at hl
      have := (ir (p - (x.length + 2)) (by omega)).mid (91 :: (x ++ [93])) [] (by omega)
      have e : (91 :: (x ++ [93]) : List UInt8).length + (p - (x.length + 2)) = p := by simp; omega
      rw [e] at this; simpa using this
/-- Looking ahead goes over a body. -/
theorem aheadL_over {x : List UInt8} (h : Bd x) (c : Int) (hc : c = 124 ∨ c = 41 ∨ c = 93) (r : List UInt8) (d : Int) (hd : 0 ≤ d) (i : Nat) : aheadL c (x ++ r) d i = aheadL c r d (i + x.length) := by
  induction h generalizing d i r with
  | nil => rfl
  | lock a e t h1 h2 _ ih =>
    have n1 : ¬ (d = 0 ∧ bt a = c) := by omega
    have n2 : ¬ (d = 0 ∧ bt e = c) := by simp [lk] at h2; omega
    have d1 : dp (bt a) = 0 := by rcases h1 with e | e <;> rw [e] <;> decide
    have d2 : dp (bt e) = 0 := by simp [lk] at h2; unfold dp; rw [if_neg (by omega), if_neg (by omega)]
    simp only [List.cons_append, aheadL, n1, n2, if_false, d1, d2, Int.add_zero]
    rw [ih _ _ hd]; simp; congr 1; omega
  | cell a e t h1 h2 _ ih =>
    have n1 : ¬ (d = 0 ∧ bt a = c) := by omega
    have n2 : ¬ (d = 0 ∧ bt e = c) := by simp [cl] at h2; omega
    have d1 : dp (bt a) = 0 := by rcases h1 with e | e <;> rw [e] <;> decide
    have d2 : dp (bt e) = 0 := by simp [cl] at h2; unfold dp; rw [if_neg (by omega), if_neg (by omega)]
    simp only [List.cons_append, aheadL, n1, n2, if_false, d1, d2, Int.add_zero]
    rw [ih _ _ hd]; simp; congr 1; omega
  | one a t h1 _ ih =>
    rw [up_iff] at h1
    have n1 : ¬ (d = 0 ∧ bt a = c) := by omega
    have d1 : dp (bt a) = 0 := by unfold dp; rw [if_neg (by omega), if_neg (by omega)]
    simp only [List.cons_append, aheadL, n1, if_false, d1, Int.add_zero]
    rw [ih _ _ hd]; simp; congr 1; omega
  | alt x y t _ _ _ ix iy it =>
    have n1 : ¬ (d = 0 ∧ bt 40 = c) := by have : bt 40 = 40 := rfl; omega
    have n2 : ¬ (d + 1 = 0 ∧ bt 124 = c) := by omega
    have n3 : ¬ (d + 1 = 0 ∧ bt 41 = c) := by omega
    have d1 : dp (bt 40) = 1 := by decide
    have d2 : dp (bt 124) = 0 := by decide
    have d3 : dp (bt 41) = -1 := by decide
    have e : 40 :: (x ++ 124 :: (y ++ 41 :: t)) ++ r = 40 :: (x ++ (124 :: (y ++ (41 :: (t ++ r))))) := by simp
    rw [e, aheadL, if_neg n1, d1, ix _ _ (by omega), aheadL, if_neg n2, d2, Int.add_zero, iy _ _ (by omega), aheadL, if_neg n3, d3, show d + 1 + -1 = d by omega, it _ _ hd]
    congr 1; simp; omega
  | star x t _ _ ix it =>
    have n1 : ¬ (d = 0 ∧ bt 91 = c) := by have : bt 91 = 91 := rfl; omega
    have n3 : ¬ (d + 1 = 0 ∧ bt 93 = c) := by omega
    have d1 : dp (bt 91) = 1 := by decide
    have d3 : dp (bt 93) = -1 := by decide
    have e : 91 :: (x ++ 93 :: t) ++ r = 91 :: (x ++ (93 :: (t ++ r))) := by simp
    rw [e, aheadL, if_neg n1, d1, ix _ _ (by omega), aheadL, if_neg n3, d3, show d + 1 + -1 = d by omega, it _ _ hd]
    congr 1; simp; omega
theorem Alt.bar {b : List UInt8} {i j k : Nat} (h : Alt b i j k) : ahead b i 124 = j := by
  obtain ⟨pre, x, y, r, e, h1, h2, h3, h4, h5⟩ := h
  unfold ahead
  have : b.drop (i + 1) = x ++ 124 :: (y ++ 41 :: r) := by rw [e, ← h1]; simp
  rw [this, aheadL_over h4 124 (Or.inl rfl) _ 0 (by omega), aheadL, if_pos ⟨rfl, rfl⟩]; omega
theorem Alt.close {b : List UInt8} {i j k : Nat} (h : Alt b i j k) : ahead b j 41 = k := by
  obtain ⟨pre, x, y, r, e, h1, h2, h3, h4, h5⟩ := h
  unfold ahead
  have : b.drop (j + 1) = y ++ 41 :: r := by
    have e2 : b = (pre ++ 40 :: (x ++ [124])) ++ (y ++ 41 :: r) := by rw [e]; simp
    rw [e2, List.drop_left' (by simp; omega)]
  rw [this, aheadL_over h5 41 (by simp) _ 0 (by omega), aheadL, if_pos ⟨rfl, rfl⟩]; omega
theorem Star.close {b : List UInt8} {i k : Nat} (h : Star b i k) : ahead b i 93 = k := by
  obtain ⟨pre, x, r, e, h1, h2, h4⟩ := h
  unfold ahead
  have : b.drop (i + 1) = x ++ 93 :: r := by rw [e, ← h1]; simp
  rw [this, aheadL_over h4 93 (by simp) _ 0 (by omega), aheadL, if_pos ⟨rfl, rfl⟩]; omega
theorem Alt.lt {b : List UInt8} {i j k : Nat} (h : Alt b i j k) : i < j ∧ j < k ∧ k < b.length := by
  obtain ⟨pre, x, y, r, e, h1, h2, h3, h4, h5⟩ := h
  have : b.length = pre.length + 1 + x.length + 1 + y.length + 1 + r.length := by rw [e]; simp; omega
  omega
theorem Star.lt {b : List UInt8} {i k : Nat} (h : Star b i k) : i < k ∧ k < b.length := by
  obtain ⟨pre, x, r, e, h1, h2, h4⟩ := h
  have : b.length = pre.length + 1 + x.length + 1 + r.length := by rw [e]; simp; omega
  omega
/-- Looking back goes over a body. -/
theorem backN_over {x : List UInt8} (h : Bd x) (pre r : List UInt8) (d : Int) (hd : 0 ≤ d) : backN (pre ++ (x ++ r)) (pre.length + x.length) d = backN (pre ++ (x ++ r)) pre.length d := by
  induction h generalizing pre r d with
  | nil => rfl
  | lock a e t h1 h2 _ ih =>
    have d1 : dp (bt a) = 0 := by rcases h1 with e | e <;> rw [e] <;> decide
    have d2 : dp (bt e) = 0 := by simp [lk] at h2; unfold dp; rw [if_neg (by omega), if_neg (by omega)]
    have b1 : at_ (pre ++ (a :: e :: t ++ r)) pre.length = bt a := by have := at_right pre (a :: e :: t ++ r) 0; rw [Nat.add_zero] at this; rw [this]; exact at_cons_zero _ _
    have b2 : at_ (pre ++ (a :: e :: t ++ r)) (pre.length + 1) = bt e := by rw [at_right]; exact (at_cons_succ _ _ _).trans (at_cons_zero _ _)
    have e1 : pre ++ (a :: e :: t ++ r) = (pre ++ [a, e]) ++ (t ++ r) := by simp
    have := ih (pre ++ [a, e]) r d hd
    rw [← e1] at this
    have l1 : (pre ++ [a, e]).length + t.length = pre.length + (a :: e :: t).length := by simp; omega
    have l2 : (pre ++ [a, e]).length = pre.length + 1 + 1 := by simp
    rw [l1, l2] at this
    rw [this, backN, b2, if_neg (by simp [lk] at h2; omega), d2, Int.sub_zero, backN, b1, if_neg (by omega), d1, Int.sub_zero]
  | cell a e t h1 h2 _ ih =>
    have d1 : dp (bt a) = 0 := by rcases h1 with e | e <;> rw [e] <;> decide
    have d2 : dp (bt e) = 0 := by simp [cl] at h2; unfold dp; rw [if_neg (by omega), if_neg (by omega)]
    have b1 : at_ (pre ++ (a :: e :: t ++ r)) pre.length = bt a := by have := at_right pre (a :: e :: t ++ r) 0; rw [Nat.add_zero] at this; rw [this]; exact at_cons_zero _ _
    have b2 : at_ (pre ++ (a :: e :: t ++ r)) (pre.length + 1) = bt e := by rw [at_right]; exact (at_cons_succ _ _ _).trans (at_cons_zero _ _)
    have e1 : pre ++ (a :: e :: t ++ r) = (pre ++ [a, e]) ++ (t ++ r) := by simp
    have := ih (pre ++ [a, e]) r d hd
    rw [← e1] at this
    have l1 : (pre ++ [a, e]).length + t.length = pre.length + (a :: e :: t).length := by simp; omega
    have l2 : (pre ++ [a, e]).length = pre.length + 1 + 1 := by simp
    rw [l1, l2] at this
    rw [this, backN, b2, if_neg (by simp [cl] at h2; omega), d2, Int.sub_zero, backN, b1, if_neg (by omega), d1, Int.sub_zero]
  | one a t h1 _ ih =>
    rw [up_iff] at h1
    have d1 : dp (bt a) = 0 := by unfold dp; rw [if_neg (by omega), if_neg (by omega)]
    have b1 : at_ (pre ++ (a :: t ++ r)) pre.length = bt a := by have := at_right pre (a :: t ++ r) 0; rw [Nat.add_zero] at this; rw [this]; exact at_cons_zero _ _
    have e1 : pre ++ (a :: t ++ r) = (pre ++ [a]) ++ (t ++ r) := by simp
    have := ih (pre ++ [a]) r d hd
    rw [← e1] at this
    have l1 : (pre ++ [a]).length + t.length = pre.length + (a :: t).length := by simp; omega
    have l2 : (pre ++ [a]).length = pre.length + 1 := by simp
    rw [l1, l2] at this
    rw [this, backN, b1, if_neg (by omega), d1, Int.sub_zero]
  | alt x y t _ _ _ ix iy it =>
    generalize hB : pre ++ (40 :: (x ++ 124 :: (y ++ 41 :: t)) ++ r) = B
    have e1 : B = (pre ++ 40 :: (x ++ 124 :: (y ++ [41]))) ++ (t ++ r) := by rw [← hB]; simp
    have e2 : B = (pre ++ 40 :: (x ++ [124])) ++ (y ++ (41 :: (t ++ r))) := by rw [← hB]; simp
    have e3 : B = (pre ++ [40]) ++ (x ++ (124 :: (y ++ (41 :: (t ++ r))))) := by rw [← hB]; simp
    have i1 := it (pre ++ 40 :: (x ++ 124 :: (y ++ [41]))) r d hd
    have i2 := iy (pre ++ 40 :: (x ++ [124])) (41 :: (t ++ r)) (d + 1) (by omega)
    have i3 := ix (pre ++ [40]) (124 :: (y ++ (41 :: (t ++ r)))) (d + 1) (by omega)
    rw [← e1] at i1; rw [← e2] at i2; rw [← e3] at i3
    have c1 : at_ B (pre.length + x.length + 2 + y.length) = 41 := by
      rw [e2, at_right' _ _ _ y.length (by simp; omega)]
      have := at_right y (41 :: (t ++ r)) 0
      rw [Nat.add_zero] at this; rw [this]; rfl
    have c2 : at_ B (pre.length + x.length + 1) = 124 := by
      rw [e3, at_right' _ _ _ x.length (by simp; omega)]
      have := at_right x (124 :: (y ++ (41 :: (t ++ r)))) 0
      rw [Nat.add_zero] at this; rw [this]; rfl
    have c3 : at_ B pre.length = 40 := by
      rw [← hB]; have := at_right pre (40 :: (x ++ 124 :: (y ++ 41 :: t)) ++ r) 0
      rw [Nat.add_zero] at this; rw [this]; rfl
    have l1 : pre.length + (40 :: (x ++ 124 :: (y ++ 41 :: t))).length = (pre ++ 40 :: (x ++ 124 :: (y ++ [41]))).length + t.length := by simp; omega
    have l2 : (pre ++ 40 :: (x ++ 124 :: (y ++ [41]))).length = (pre.length + x.length + 2 + y.length) + 1 := by simp; omega
    have l3 : pre.length + x.length + 2 + y.length = (pre ++ 40 :: (x ++ [124])).length + y.length := by simp; omega
    have l4 : (pre ++ 40 :: (x ++ [124])).length = (pre.length + x.length + 1) + 1 := by simp; omega
    have l5 : pre.length + x.length + 1 = (pre ++ [40]).length + x.length := by simp; omega
    have l6 : (pre ++ [40]).length = pre.length + 1 := by simp
    have p1 : dp 41 = -1 := by decide
    have p2 : dp 124 = 0 := by decide
    have p3 : dp 40 = 1 := by decide
    rw [l1, i1, l2, backN, c1, if_neg (by omega), p1, show d - -1 = d + 1 by omega, l3, i2, l4, backN, c2, if_neg (by omega), p2, Int.sub_zero, l5, i3, l6, backN, c3, if_neg (by omega), p3, show d + 1 - 1 = d by omega]
  | star x t _ _ ix it =>
    generalize hB : pre ++ (91 :: (x ++ 93 :: t) ++ r) = B
    have e1 : B = (pre ++ 91 :: (x ++ [93])) ++ (t ++ r) := by rw [← hB]; simp
    have e3 : B = (pre ++ [91]) ++ (x ++ (93 :: (t ++ r))) := by rw [← hB]; simp
    have i1 := it (pre ++ 91 :: (x ++ [93])) r d hd
    have i3 := ix (pre ++ [91]) (93 :: (t ++ r)) (d + 1) (by omega)
    rw [← e1] at i1; rw [← e3] at i3
    have c2 : at_ B (pre.length + x.length + 1) = 93 := by
      rw [e3, at_right' _ _ _ x.length (by simp; omega)]
      have := at_right x (93 :: (t ++ r)) 0
      rw [Nat.add_zero] at this; rw [this]; rfl
    have c3 : at_ B pre.length = 91 := by
      rw [← hB]; have := at_right pre (91 :: (x ++ 93 :: t) ++ r) 0
      rw [Nat.add_zero] at this; rw [this]; rfl
    have l1 : pre.length + (91 :: (x ++ 93 :: t)).length = (pre ++ 91 :: (x ++ [93])).length + t.length := by simp; omega
    have l4 : (pre ++ 91 :: (x ++ [93])).length = (pre.length + x.length + 1) + 1 := by simp; omega
    have l5 : pre.length + x.length + 1 = (pre ++ [91]).length + x.length := by simp; omega
    have l6 : (pre ++ [91]).length = pre.length + 1 := by simp
    have p2 : dp 93 = -1 := by decide
    have p3 : dp 91 = 1 := by decide
    rw [l1, i1, l4, backN, c2, if_neg (by omega), p2, show d - -1 = d + 1 by omega, l5, i3, l6, backN, c3, if_neg (by omega), p3, show d + 1 - 1 = d by omega]
theorem Star.back {b : List UInt8} {i k : Nat} (h : Star b i k) : back b k = i := by
  obtain ⟨pre, x, r, e, h1, h2, h4⟩ := h
  unfold Mc.back
  have e1 : b = (pre ++ [91]) ++ (x ++ (93 :: r)) := by rw [e]; simp
  have i1 := backN_over h4 (pre ++ [91]) (93 :: r) 0 (by omega)
  rw [← e1] at i1
  have c3 : at_ b pre.length = 91 := by
    rw [e]; have := at_right pre (91 :: (x ++ 93 :: r)) 0
    rw [Nat.add_zero] at this; rw [this]; rfl
  have l1 : k = (pre ++ [91]).length + x.length := by simp; omega
  have l2 : (pre ++ [91]).length = pre.length + 1 := by simp
  rw [l1, i1, l2, backN, c3, if_pos ⟨rfl, rfl⟩, h1]
/-- The next place lies in the body, or is its end. -/
theorem behind_in {b : List UInt8} (h : Bd b) (p : Nat) (hp : p < b.length) (second : Bool) : behind b p second ≤ b.length := by
  have hb := br_all h p hp
  have hpk := pairOK_bd h p hp
  have ha : atB b p = at_ b p := by simp [atB, hp]
  unfold behind
  rw [ha]
  split
  · rename_i hc
    have : p + 1 < b.length := by
      rcases hc with e | e | e | e
      · exact (hpk.1 (Or.inl e)).1
      · exact (hpk.1 (Or.inr e)).1
      · exact (hpk.2 (Or.inl e)).1
      · exact (hpk.2 (Or.inr e)).1
    omega
  split
  · rename_i hc
    obtain ⟨j, k, hA⟩ := hb.o hc.1
    rw [hA.bar]; have := hA.lt; omega
  split
  · rename_i hc
    obtain ⟨j, k, hA⟩ := hb.m hc
    rw [hA.close]; have := hA.lt; omega
  split
  · rename_i hc
    obtain ⟨k, hA⟩ := hb.s hc.1
    rw [hA.close]; have := hA.lt; omega
  split
  · rename_i hc
    obtain ⟨i, hA⟩ := hb.e hc
    rw [hA.back]; have := hA.lt; omega
  · omega
end Mc
end Go.Proofs.Ytecmfdkhcffpmaa
