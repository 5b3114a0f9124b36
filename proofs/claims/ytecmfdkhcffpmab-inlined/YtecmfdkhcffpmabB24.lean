/- RowK. -/
import Derived.Test.YtecmfdkhcffpmabB18
/- A block told whole: small laws. -/
namespace Go.Proofs.Ytecmfdkhcffpmab
open Go.RowKit
set_option linter.unusedSimpArgs false
set_option linter.unusedVariables false
/-- Block g has just these cells. -/
def Row (w : World) (g : Nat) (cs : Array Value) (t : TypeId) : Prop := w.heap[g]? = some (.cells cs t (0, 0))
theorem Row.raw {w : World} {g : Nat} {cs : Array Value} {t : TypeId} (h : Row w g cs t) : w.heap[g]? = some (.cells cs t (0, 0)) := h
theorem Row.lt {w : World} {g : Nat} {cs : Array Value} {t : TypeId} (h : Row w g cs t) : g < w.heap.size := row_lt h
theorem Row.cell {w : World} {g : Nat} {cs : Array Value} {t : TypeId} (h : Row w g cs t) (i : Nat) {v : Value} (hi : cs[i]? = some v) : w.cell? ⟨g, i, none⟩ = some v := row_cell h hi
theorem Row.frozen {w : World} {g : Nat} {cs : Array Value} {t : TypeId} (h : Row w g cs t) (i : Nat) : w.frozen? ⟨g, i, none⟩ = false := frozen_of_row w g i cs t h
theorem Row.below {w w' : World} {g : Nat} {cs : Array Value} {t : TypeId} (h : Row w g cs t) (hb : Below w.heap.size w w') : Row w' g cs t := below_row hb h
theorem Row.same {w w' : World} {g : Nat} {cs : Array Value} {t : TypeId} (h : Row w g cs t) (he : w'.heap[g]? = w.heap[g]?) : Row w' g cs t := he.trans h
theorem Row.alloc {w : World} {g : Nat} {cs : Array Value} {t : TypeId} (h : Row w g cs t) (o : Obj) : Row (w.alloc o) g cs t := h.same (Below.heap_alloc w o g h.lt)
theorem Row.new (w : World) (cs : Array Value) (t : TypeId) : Row (w.alloc (.cells cs t)) w.heap.size cs t := heap_alloc_last _ _
theorem Row.set {w : World} {g : Nat} {cs : Array Value} {t : TypeId} (h : Row w g cs t) (i : Nat) (v : Value) : Row (w.setCell ⟨g, i, none⟩ v) g (cs.setIfInBounds i v) t := heap_setCell_same _ _ _ _ _ _ h
theorem Row.setO {w : World} {g k : Nat} {cs : Array Value} {t : TypeId} (h : Row w k cs t) (hne : k ≠ g) (i : Nat) (v : Value) : Row (w.setCell ⟨g, i, none⟩ v) k cs t := h.same (heap_setCell_other _ _ _ _ hne)
def setsA : Array Value → Nat → List Value → Array Value
  | cs, _, [] => cs
  | cs, o, v :: r => setsA (cs.setIfInBounds o v) (o + 1) r
theorem Row.sets {g : Nat} {t : TypeId} : ∀ (vs : List Value) (o : Nat) (w : World) (cs : Array Value), Row w g cs t → Row (w.setCells g o vs) g (setsA cs o vs) t
  | [], _, _, _, h => h
  | v :: r, o, w, cs, h => Row.sets r (o + 1) _ _ (h.set o v)
theorem Row.setsO {w : World} {g k : Nat} {cs : Array Value} {t : TypeId} (h : Row w k cs t) (hne : k ≠ g) (o : Nat) (vs : List Value) : Row (w.setCells g o vs) k cs t := h.same (heap_setCells_other g vs o w k hne)
theorem Row.setRow {w : World} {g : Nat} {cs : Array Value} {t : TypeId} (h : Row w g cs t) (cs' : Array Value) : Row (w.setRow g cs') g cs' t := setRow_heap _ _ _ _ _ _ h
theorem Row.range {w : World} {g : Nat} {cs : Array Value} {t : TypeId} (h : Row w g cs t) (o : Nat) (vs : List Value) (hv : ∀ j v, vs[j]? = some v → cs[o + j]? = some v) : w.rangeAt g o vs := fun j v hj => h.cell (o + j) (hv j v hj)
theorem Row.there {w : World} {g : Nat} {cs : Array Value} {t : TypeId} (h : Row w g cs t) (o m : Nat) (hn : o + m ≤ cs.size) : w.there g o m := fun j hj => ⟨by rw [h.cell (o + j) (Array.getElem?_eq_getElem (show o + j < cs.size by omega))]; rfl, h.frozen _⟩
theorem Row.blk {w : World} {g : Nat} {cs : Array Value} {t : TypeId} (h : Row w g cs t) {n : Nat} {f : Nat → Value} (hf : ∀ i, i < n → cs[i]? = some (f i)) : Blk w g n f := ⟨cs, t, h, hf⟩
theorem Row.two (w : World) (a b : Array Value) (s t : TypeId) : Row ((w.alloc (.cells a s)).alloc (.cells b t)) w.heap.size a s ∧ Row ((w.alloc (.cells a s)).alloc (.cells b t)) (w.heap.size + 1) b t := by
  refine ⟨(Row.new w a s).alloc _, ?_⟩
  have := Row.new (w.alloc (.cells a s)) b t
  simpa using this
theorem Row.three (w : World) (a b c : Array Value) (s t u : TypeId) : Row (((w.alloc (.cells a s)).alloc (.cells b t)).alloc (.cells c u)) w.heap.size a s ∧ Row (((w.alloc (.cells a s)).alloc (.cells b t)).alloc (.cells c u)) (w.heap.size + 1) b t ∧ Row (((w.alloc (.cells a s)).alloc (.cells b t)).alloc (.cells c u)) (w.heap.size + 2) c u := by
  refine ⟨(Row.two w a b s t).1.alloc _, (Row.two w a b s t).2.alloc _, ?_⟩
  have := Row.new ((w.alloc (.cells a s)).alloc (.cells b t)) c u
  simpa using this
theorem below_two (w : World) (a b : Obj) : Below w.heap.size w ((w.alloc a).alloc b) := ((Below.refl _ w).alloc (Nat.le_refl _) a).alloc (by simp) b
theorem below_three (w : World) (a b c : Obj) : Below w.heap.size w (((w.alloc a).alloc b).alloc c) := (below_two w a b).alloc (by simp; omega) c
theorem below_one (w : World) (a : Obj) : Below w.heap.size w (w.alloc a) := (Below.refl _ w).alloc (Nat.le_refl _) a
theorem Row.s80 {w : World} {g : Nat} {t : TypeId} {a0 a1 a2 a3 a4 a5 a6 a7 : Value} (h : Row w g #[a0, a1, a2, a3, a4, a5, a6, a7] t) (v : Value) : Row (w.setCell ⟨g, 0, none⟩ v) g #[v, a1, a2, a3, a4, a5, a6, a7] t := by have := h.set 0 v; simpa using this
theorem Row.s87 {w : World} {g : Nat} {t : TypeId} {a0 a1 a2 a3 a4 a5 a6 a7 : Value} (h : Row w g #[a0, a1, a2, a3, a4, a5, a6, a7] t) (v : Value) : Row (w.setCell ⟨g, 7, none⟩ v) g #[a0, a1, a2, a3, a4, a5, a6, v] t := by have := h.set 7 v; simpa using this
theorem Row.s86 {w : World} {g : Nat} {t : TypeId} {a0 a1 a2 a3 a4 a5 a6 a7 : Value} (h : Row w g #[a0, a1, a2, a3, a4, a5, a6, a7] t) (v1 v2 v3 v4 v5 v6 : Value) : Row (w.setCells g 1 [v1, v2, v3, v4, v5, v6]) g #[a0, v1, v2, v3, v4, v5, v6, a7] t := by have := Row.sets [v1, v2, v3, v4, v5, v6] 1 w _ h; simpa [setsA] using this
end Go.Proofs.Ytecmfdkhcffpmab
