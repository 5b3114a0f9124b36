/- FlatK, Ix, TbK, StF. -/
import Derived.Test.YtecmfdkhcffpmabB36
import Derived.Test.YtecmfdkhcffpmabB07
import Derived.Test.YtecmfdkhcffpmabB24
import Derived.Test.YtecmfdkhcffpmabB14
/- Own slices of structs, told by a list. -/
namespace Go.Proofs.Ytecmfdkhcffpmab
open Go.RowKit
set_option linter.unusedSimpArgs false
set_option linter.unusedVariables false
set_option maxHeartbeats 8000000
open Mc
section
variable {α : Type} {f : α → List Value} {n : Nat}
theorem flat_len (hf : ∀ a, (f a).length = n) (L : List α) : (L.flatMap f).length = L.length * n := by
  induction L with
  | nil => simp
  | cons a r ih => rw [List.flatMap_cons, List.length_append, hf, ih, List.length_cons, Nat.succ_mul]; omega
theorem flat_snoc (L : List α) (r : α) : (L ++ [r]).flatMap f = L.flatMap f ++ f r := by simp
theorem flat_at (hf : ∀ a, (f a).length = n) (L : List α) (i j : Nat) (r : α) (h : L[i]? = some r) (hj : j < n) : (L.flatMap f)[i * n + j]? = (f r)[j]? := by
  induction L generalizing i with
  | nil => simp at h
  | cons a l ih =>
    rw [List.flatMap_cons]
    cases i with
    | zero =>
      simp at h; subst h
      rw [List.getElem?_append_left (by rw [hf]; omega), Nat.zero_mul, Nat.zero_add]
    | succ i =>
      rw [List.getElem?_append_right (by rw [hf, Nat.succ_mul]; omega), hf, show (i + 1) * n + j - n = i * n + j by rw [Nat.succ_mul]; omega]
      exact ih i (by simpa using h)
/-- An element of an own slice, in memory. -/
theorem own_el {w : World} {base : Nat} {t : TypeId} {v : Value} {L : List α} (hf : ∀ a, (f a).length = n) (h : w.ownsRow base t n v L.length (L.flatMap f)) {i : Nat} {r : α} (hr : L[i]? = some r) : ∃ g cap, v = .slice (some ⟨g, 0, none⟩) L.length cap ∧ base ≤ g ∧ g < w.heap.size ∧ L.length ≤ cap ∧ cap ≤ maxLen ∧ w.rangeAt g (i * n) (f r) := by
  have hi := (List.getElem?_eq_some_iff.1 hr).1
  rcases h.2 with ⟨rfl, h0⟩ | ⟨g, cap, cur, rfl, hb, hg, h1, h2, h3, h4⟩
  · omega
  · refine ⟨g, cap, rfl, hb, row_lt hg, h1, h2, fun j u hj => ?_⟩
    have hjn : j < n := by have := (List.getElem?_eq_some_iff.1 hj).1; rw [hf] at this; exact this
    refine row_cell hg ?_
    have := flat_at hf L i j r hr hjn
    have hle : i * n + n ≤ L.length * n := by
      have := Nat.mul_le_mul_right n (show i + 1 ≤ L.length by omega)
      rw [Nat.succ_mul] at this; exact this
    rw [← h4, List.getElem?_take, if_pos (by omega), Array.getElem?_toList, hj] at this
    exact this
/-- One more element. -/
theorem wpList_push {ops : Array Oper} {rest : List Oper} {o : Oper} {a : Act} {w : World} {Q : Exit → Act → World → Prop} (hf : ∀ a, (f a).length = n) (hgd : o.guard = none) (s x : Operand) (t : TypeId)
    (ho : o.op = .call { callee := .builtin .append, args := #[s, x], argTypes := #[t, t] })
    (base : Nat) (e : TypeId) (i : TypeInfo) (z : Value) (bytes : Nat) (ht : Try.prog.underlying t = some (.slice e)) (hi : Try.prog.info? e = some i) (hz : i.zero = some z)
    (hsize : i.size = n) (hby : i.bytes = bytes) (hzs : z.cells.size = n) (hsz : 0 < n)
    (v : Value) (L : List α) (r : α) (hs : a.eval s = v)
    (ad : Addr) (hx : a.eval x = .slice (some ad) 1 1) (hown : w.ownsRow base e n v L.length (L.flatMap f)) (hnews : ∀ j u, (f r)[j]? = some u → w.cell? (ad.add j) = some u) (h1 : ∀ u ∈ f r, u.oneCell' = true)
    (h63 : L.length + 1 ≤ maxLen) (hbytes : (L.length + 1) * bytes ≤ 140737488355328) (hbase : base ≤ w.heap.size)
    (h : ∀ ao' cc' w', w'.ownsRow base e n (.slice ao' (L.length + 1) cc') (L ++ [r]).length ((L ++ [r]).flatMap f) → Below base w w' → (∀ j, j < w.heap.size → v.ownBlock ≠ some j → w'.heap[j]? = w.heap[j]?) → ((Value.slice ao' (L.length + 1) cc').ownBlock = v.ownBlock ∨ (Value.slice ao' (L.length + 1) cc').ownBlock = some w.heap.size) → wpList Try.prog ops Q rest (a.put o.dst (.slice ao' (L.length + 1) cc')) w') :
    wpList Try.prog ops Q (o :: rest) a w := by
  refine wpList_append_own_at w hgd s x t ho base e i z n bytes ht hi hz hsize hby hzs hsz v L.length (L.flatMap f) hs hown ad 1 1 (f r) hx (by rw [hf]; omega) hnews h1 h63 hbytes hbase ?_
  intro v' w' hown' hg hnil hat
  obtain ⟨ao', cc', hv'⟩ := own_v hown'
  subst hv'
  refine h ao' cc' w' ?_ ?_ ?_ hat
  · rw [flat_snoc, List.length_append]; exact hown'
  · refine (Below.refl base w).grown hg hbase (fun q hq => ?_)
    rcases hown.2 with ⟨e1, _⟩ | ⟨g, cap, cur, e1, hb, _⟩
    · rw [e1] at hq; cases hq
    · rw [e1] at hq; injection hq with hq; rw [← hq]; exact hb
  · exact fun j hj hne => hg.block j hj (fun e => hne e.symm)
end
/-- What is known of an item. -/
structure Kn where
  hd : Bool
  s : ByteArray
  lg : Nat
  v : Value
  L : List Rc
def knV (k : Kn) : List Value := [.bool k.hd, .bool k.hd, .string k.s, .slice (some ⟨k.lg, 0, none⟩) k.s.size k.s.size, k.v]
theorem knV_len (k : Kn) : (knV k).length = 5 := rfl
/-- What is known of an item, in memory. -/
structure KnIn (w : World) (k : Kn) : Prop where
  own : w.ownsRow 0 118 10 k.v k.L.length (rcsV k.L)
  fin : RFin k.hd k.s.data.toList k.L
  gb : GB k.s.data.toList
  short : k.s.size ≤ 300
theorem own_belowZ {w w' : World} {t : TypeId} {n m : Nat} {v : Value} {xs : List Value} (h : w.ownsRow 0 t n v m xs) (hb : Below w.heap.size w w') : w'.ownsRow 0 t n v m xs :=
  own_same h (fun g _ hl => hb.block g hl)
theorem KnIn.below {w w' : World} {k : Kn} (h : KnIn w k) (hb : Below w.heap.size w w') : KnIn w' k := ⟨own_belowZ h.own hb, h.fin, h.gb, h.short⟩
/-- All that is known, in memory. -/
structure KnAll (w : World) (v : Value) (K : List Kn) : Prop where
  own : w.ownsRow 0 111 5 v K.length (K.flatMap knV)
  each : ∀ k ∈ K, KnIn w k
  len : K.length ≤ 8
theorem KnAll.below {w w' : World} {v : Value} {K : List Kn} (h : KnAll w v K) (hb : Below w.heap.size w w') : KnAll w' v K := ⟨own_belowZ h.own hb, fun k hk => (h.each k hk).below hb, h.len⟩
theorem RFin.all {hd : Bool} {b : List UInt8} {L : List Rc} (h : RFin hd b L) (s : St3) : Rch hd b s ↔ ∃ r ∈ L, r.st = s := by
  obtain ⟨i, f, h1, h2⟩ := h
  exact h1.all h2 s
theorem RFin.ok {hd : Bool} {b : List UInt8} {L : List Rc} (h : RFin hd b L) (hg : GB b) {r : Rc} (hr : r ∈ L) : SOK b r.st := by
  obtain ⟨i, f, h1, h2⟩ := h
  exact h1.ok hg hr
theorem RFin.len {hd : Bool} {b : List UInt8} {L : List Rc} (h : RFin hd b L) (hg : GB b) : L.length ≤ (b.length + 1) * 128 := by
  obtain ⟨i, f, h1, h2⟩ := h
  exact h1.len hg
end Go.Proofs.Ytecmfdkhcffpmab
/- Reading an element of an array that is held by value. -/
namespace Go.Proofs.Ytecmfdkhcffpmab
open Go.RowKit
set_option linter.unusedSimpArgs false
set_option linter.unusedVariables false
theorem wpList_ixTo {P : Program} {ops : Array Oper} {rest : List Oper} {o : Oper} {a : Act} {w : World} {Q : Exit → Act → World → Prop} (hg : o.guard = none) (ty : TypeId) (x i : Operand) (ho : o.op = .index ty x i)
    (v : Value) (hrun : (Instr.index ty (a.eval x) (a.eval i)).run P w = .ok v w) (h : wpList P ops Q rest (a.put o.dst v) w) : wpList P ops Q (o :: rest) a w := by
  refine wpList_runTo' hg v w ?_ h
  unfold execOp
  simp only [ho, Sem.run_bind, Sem.run_pure, hrun, Result.andThen_ok]
theorem Try.sizeBool : (Try.prog.info? 4).map (·.size) = some 1 := by kernel_rfl
/-- An element that is one cell. -/
theorem ixB (t : TypeId) (len : Nat) (hu : Try.prog.underlying t = some (.array len 4)) (cs : Array Value) (i : Nat) (hi : i < len) (v : Value) (hv : cs[i]? = some v) (w : World) : (Instr.index t (.agg cs) (.int .i64 (i : Int))).run Try.prog w = .ok v w := by
  have hs := Try.sizeBool
  cases hq : Try.prog.info? 4 with
  | none => rw [hq] at hs; cases hs
  | some x =>
    rw [hq] at hs
    have hx : x.size = 1 := by simpa using hs
    have hub : Try.prog.underlying 4 = some .bool := by kernel_rfl
    unfold Instr.index
    have hp : ∀ w, (program : Sem Program).run Try.prog w = .ok Try.prog w := fun w => rfl
    simp [Sem.run_bind, Sem.run_pure, Result.andThen_ok, underlying, sizeOf, typeInfo, hp, part, isAgg, asIntOf, hu, hq, hx, hub, hi, hv]
end Go.Proofs.Ytecmfdkhcffpmab
/- Tables and sets of visits, held by value. -/
namespace Go.Proofs.Ytecmfdkhcffpmab
open Go.RowKit
set_option linter.unusedSimpArgs false
set_option linter.unusedVariables false
set_option maxHeartbeats 8000000
/-- Bools in a row. -/
def bsA (n : Nat) (f : Nat → Bool) : Array Value := ((List.range n).map (fun i => Value.bool (f i))).toArray
theorem bsA_size (n : Nat) (f : Nat → Bool) : (bsA n f).size = n := by simp [bsA]
theorem bsA_at (n : Nat) (f : Nat → Bool) (i : Nat) (hi : i < n) : (bsA n f)[i]? = some (.bool (f i)) := by simp [bsA, hi]
theorem bsA_one (n : Nat) (f : Nat → Bool) : (bsA n f).all (·.oneCell') = true := by simp [bsA, Value.oneCell']
theorem bsA_congr {n : Nat} {f g : Nat → Bool} (h : ∀ i, i < n → f i = g i) : bsA n f = bsA n g := by
  unfold bsA
  congr 1
  refine List.map_congr_left (fun i hi => ?_)
  rw [h i (List.mem_range.1 hi)]
theorem bsA_set (n : Nat) (f : Nat → Bool) (k : Nat) (v : Bool) : (bsA n f).setIfInBounds k (.bool v) = bsA n (fun i => if i = k then v else f i) := by
  apply Array.ext_getElem?
  intro i
  rw [Array.getElem?_setIfInBounds]
  by_cases hi : i < n
  · rw [bsA_at n (fun i => if i = k then v else f i) _ hi]
    by_cases e : k = i
    · subst e; rw [if_pos rfl, bsA_size, if_pos hi, if_pos rfl]
    · rw [if_neg e, bsA_at _ _ _ hi, if_neg (fun h => e h.symm)]
  · rw [Array.getElem?_eq_none (xs := bsA n (fun i => if i = k then v else f i)) (by rw [bsA_size]; omega)]
    by_cases e : k = i
    · subst e; rw [if_pos rfl, bsA_size, if_neg hi]
    · rw [if_neg e, Array.getElem?_eq_none (by rw [bsA_size]; omega)]
theorem bsA_cut (n m : Nat) (f : Nat → Bool) (o : Nat) (h : o + m ≤ n) : (bsA n f).extract o (o + m) = bsA m (fun i => f (o + i)) := by
  apply Array.ext_getElem?
  intro i
  rw [Array.getElem?_extract]
  by_cases hi : i < m
  · rw [if_pos (by rw [bsA_size]; omega), bsA_at _ _ _ (by omega), bsA_at _ _ _ hi]
  · rw [if_neg (by rw [bsA_size]; omega), Array.getElem?_eq_none (by rw [bsA_size]; omega)]
/-- A table, as it lies in memory. -/
def tbA (T : Tb) : Array Value := bsA 36 (fun i => T (i / 6) (i % 6))
theorem tbA_size (T : Tb) : (tbA T).size = 36 := bsA_size _ _
theorem tbA_one (T : Tb) : (tbA T).all (·.oneCell') = true := bsA_one _ _
theorem tbA_at (T : Tb) (l m : Nat) (hl : l < 6) (hm : m < 6) : (tbA T)[l * 6 + m]? = some (.bool (T l m)) := by
  unfold tbA
  rw [bsA_at _ _ _ (by omega), show (l * 6 + m) / 6 = l by omega, show (l * 6 + m) % 6 = m by omega]
theorem tbA_set (T : Tb) (l m : Nat) (hl : l < 6) (hm : m < 6) (v : Bool) : (tbA T).setIfInBounds (l * 6 + m) (.bool v) = tbA (upT T l m v) := by
  unfold tbA
  rw [bsA_set]
  refine bsA_congr (fun i hi => ?_)
  unfold upT
  by_cases e : i = l * 6 + m
  · rw [if_pos e, if_pos (by omega)]
  · rw [if_neg e, if_neg (by omega)]
theorem tbA_congr {T U : Tb} (h : ∀ l, l < 6 → ∀ m, m < 6 → T l m = U l m) : tbA T = tbA U := bsA_congr (fun i hi => h _ (by omega) _ (by omega))
theorem tbA_row (T : Tb) (l : Nat) (hl : l < 6) : (tbA T).extract (l * 6) (l * 6 + 6) = bsA 6 (fun m => T l m) := by
  unfold tbA
  rw [bsA_cut _ _ _ _ (by omega)]
  refine bsA_congr (fun i hi => ?_)
  show T ((l * 6 + i) / 6) ((l * 6 + i) % 6) = T l i
  rw [show (l * 6 + i) / 6 = l by omega, show (l * 6 + i) % 6 = i by omega]
theorem Try.iTb (T : Tb) : (Try.prog.info? 89).map (·.size) = some (tbA T).size := by rw [tbA_size]; kernel_rfl
theorem Try.iSix (f : Nat → Bool) : (Try.prog.info? 87).map (·.size) = some (bsA 6 f).size := by rw [bsA_size]; kernel_rfl
theorem Try.iHeldB (f : Nat → Bool) : (Try.prog.info? 98).map (·.size) = some (bsA 6 f).size := by rw [bsA_size]; kernel_rfl
theorem ixRow (T : Tb) (l : Nat) (hl : l < 6) (w : World) : (Instr.index 89 (.agg (tbA T)) (.int .i64 (l : Int))).run Try.prog w = .ok (.agg (bsA 6 (fun m => T l m))) w := by
  have hs : (Try.prog.info? 87).map (·.size) = some 6 := by kernel_rfl
  cases hq : Try.prog.info? 87 with
  | none => rw [hq] at hs; cases hs
  | some x =>
    rw [hq] at hs
    have hx : x.size = 6 := by simpa using hs
    have hu : Try.prog.underlying 89 = some (.array 6 87) := by kernel_rfl
    have hub : Try.prog.underlying 87 = some (.array 6 4) := by kernel_rfl
    have hp : ∀ w, (program : Sem Program).run Try.prog w = .ok Try.prog w := fun w => rfl
    have he := tbA_row T l hl
    unfold Instr.index
    simp [Sem.run_bind, Sem.run_pure, Result.andThen_ok, underlying, sizeOf, typeInfo, hp, part, isAgg, asIntOf, hu, hq, hx, hub, hl, he]
    first | done | (have hl' : (l : Int) < 6 := by omega
                    simp [hl', Sem.run_bind, Sem.run_pure, Result.andThen_ok, hq, hx, hub, he, hp])
theorem run_allocT (ρ : Operand → Value) (d : Option Tmp) (ty : TypeId) (ps : String) (af : Array Edge) (g : Option (Nat × Bool)) (w : World) :
    (execOp ρ { dst := d, op := .alloc 89, type := ty, pos := ps, after := af, guard := g }).run Try.prog w = .ok (.value (.pointer (some ⟨w.heap.size, 0, none⟩))) (w.alloc (.cells (tbA (fun _ _ => false)) 89)) := by kernel_rfl
theorem run_buildT (ρ : Operand → Value) (d : Option Tmp) (ty : TypeId) (ps : String) (af : Array Edge) (g : Option (Nat × Bool)) (w : World) :
    (execOp ρ { dst := d, op := .build 89 #[], type := ty, pos := ps, after := af, guard := g }).run Try.prog w = .ok (.value (.agg (tbA (fun _ _ => false)))) w := by kernel_rfl
theorem wpList_allocT {ops : Array Oper} {rest : List Oper} {o : Oper} {a : Act} {w : World} {Q : Exit → Act → World → Prop} (hg : o.guard = none) (ho : o.op = .alloc 89)
    (h : wpList Try.prog ops Q rest (a.put o.dst (.pointer (some ⟨w.heap.size, 0, none⟩))) (w.alloc (.cells (tbA (fun _ _ => false)) 89))) : wpList Try.prog ops Q (o :: rest) a w := by
  obtain ⟨d, op, ty, ps, af, g⟩ := o
  simp only at ho hg
  subst ho
  exact wpList_runTo' hg _ _ (run_allocT _ _ _ _ _ _ _) h
theorem wpList_buildT {ops : Array Oper} {rest : List Oper} {o : Oper} {a : Act} {w : World} {Q : Exit → Act → World → Prop} (hg : o.guard = none) (ho : o.op = .build 89 #[])
    (h : wpList Try.prog ops Q rest (a.put o.dst (.agg (tbA (fun _ _ => false)))) w) : wpList Try.prog ops Q (o :: rest) a w := by
  obtain ⟨d, op, ty, ps, af, g⟩ := o
  simp only at ho hg
  subst ho
  exact wpList_runTo' hg _ _ (run_buildT _ _ _ _ _ _ _) h
/-- Visits, as they lie in memory. -/
def viA (v : Vi) : Array Value := bsA 128 (fun i => if i < 64 then v.wr i else v.ei (i - 64))
theorem viA_size (v : Vi) : (viA v).size = 128 := bsA_size _ _
theorem viA_one (v : Vi) : (viA v).all (·.oneCell') = true := bsA_one _ _
theorem viA_wr (v : Vi) (x : Nat) (hx : x < 64) : (viA v)[x]? = some (.bool (v.wr x)) := by
  unfold viA; rw [bsA_at _ _ _ (by omega), if_pos hx]
theorem viA_ei (v : Vi) (x : Nat) (hx : x < 64) : (viA v)[64 + x]? = some (.bool (v.ei x)) := by
  unfold viA; rw [bsA_at _ _ _ (by omega), if_neg (by omega), show 64 + x - 64 = x by omega]
theorem viA_setE (v : Vi) (k : Nat) (hk : k < 64) (b : Bool) : (viA v).setIfInBounds (64 + k) (.bool b) = viA ⟨v.wr, fun x => if x = k then b else v.ei x⟩ := by
  unfold viA
  rw [bsA_set]
  refine bsA_congr (fun i hi => ?_)
  by_cases e : i = 64 + k
  · subst e; rw [if_pos rfl, if_neg (by omega)]; simp
  · rw [if_neg e]
    by_cases h : i < 64
    · rw [if_pos h, if_pos h]
    · rw [if_neg h, if_neg h]
      show _ = if i - 64 = k then b else v.ei (i - 64)
      rw [if_neg (by omega)]
theorem viA_setW (v : Vi) (k : Nat) (hk : k < 64) (b : Bool) : (viA v).setIfInBounds k (.bool b) = viA ⟨fun x => if x = k then b else v.wr x, v.ei⟩ := by
  unfold viA
  rw [bsA_set]
  refine bsA_congr (fun i hi => ?_)
  by_cases e : i = k
  · subst e; rw [if_pos rfl, if_pos (by omega)]; simp
  · rw [if_neg e]
    by_cases h : i < 64
    · rw [if_pos h, if_pos h]
      show _ = if i = k then b else v.wr i
      rw [if_neg e]
    · rw [if_neg h, if_neg h]
theorem Try.iVi (v : Vi) : (Try.prog.info? 143).map (·.size) = some (viA v).size := by rw [viA_size]; kernel_rfl
def noVi : Vi := ⟨fun _ => false, fun _ => false⟩
theorem run_allocV (ρ : Operand → Value) (d : Option Tmp) (ty : TypeId) (ps : String) (af : Array Edge) (g : Option (Nat × Bool)) (w : World) :
    (execOp ρ { dst := d, op := .alloc 143, type := ty, pos := ps, after := af, guard := g }).run Try.prog w = .ok (.value (.pointer (some ⟨w.heap.size, 0, none⟩))) (w.alloc (.cells (viA noVi) 143)) := by kernel_rfl
theorem run_buildV (ρ : Operand → Value) (d : Option Tmp) (ty : TypeId) (ps : String) (af : Array Edge) (g : Option (Nat × Bool)) (w : World) :
    (execOp ρ { dst := d, op := .build 143 #[], type := ty, pos := ps, after := af, guard := g }).run Try.prog w = .ok (.value (.agg (viA noVi))) w := by kernel_rfl
theorem wpList_allocV {ops : Array Oper} {rest : List Oper} {o : Oper} {a : Act} {w : World} {Q : Exit → Act → World → Prop} (hg : o.guard = none) (ho : o.op = .alloc 143)
    (h : wpList Try.prog ops Q rest (a.put o.dst (.pointer (some ⟨w.heap.size, 0, none⟩))) (w.alloc (.cells (viA noVi) 143))) : wpList Try.prog ops Q (o :: rest) a w := by
  obtain ⟨d, op, ty, ps, af, g⟩ := o
  simp only at ho hg
  subst ho
  exact wpList_runTo' hg _ _ (run_allocV _ _ _ _ _ _ _) h
theorem wpList_buildV {ops : Array Oper} {rest : List Oper} {o : Oper} {a : Act} {w : World} {Q : Exit → Act → World → Prop} (hg : o.guard = none) (ho : o.op = .build 143 #[])
    (h : wpList Try.prog ops Q rest (a.put o.dst (.agg (viA noVi))) w) : wpList Try.prog ops Q (o :: rest) a w := by
  obtain ⟨d, op, ty, ps, af, g⟩ := o
  simp only at ho hg
  subst ho
  exact wpList_runTo' hg _ _ (run_buildV _ _ _ _ _ _ _) h
end Go.Proofs.Ytecmfdkhcffpmab
/- Contracts of the program's reports: tables of edges. -/
namespace Go.Proofs.Ytecmfdkhcffpmab
open Go.RowKit
set_option linter.unusedSimpArgs false
set_option linter.unusedVariables false
set_option maxHeartbeats 8000000
open Mc

theorem Try.uHeld : Try.prog.underlying 98 = some (.array 6 4) := by kernel_rfl
theorem Try.uSix : Try.prog.underlying 87 = some (.array 6 4) := by kernel_rfl
theorem ixHb (f : Nat → Bool) (i : Nat) (hi : i < 6) (w : World) : (Instr.index 98 (.agg (bsA 6 f)) (.int .i64 (i : Int))).run Try.prog w = .ok (.bool (f i)) w := ixB 98 6 Try.uHeld _ i hi _ (bsA_at _ _ _ hi) w
theorem ixSb (f : Nat → Bool) (i : Nat) (hi : i < 6) (w : World) : (Instr.index 87 (.agg (bsA 6 f)) (.int .i64 (i : Int))).run Try.prog w = .ok (.bool (f i)) w := ixB 87 6 Try.uSix _ i hi _ (bsA_at _ _ _ hi) w
theorem Row.four (w : World) (a b c d : Array Value) (s t u v : TypeId) : Row ((((w.alloc (.cells a s)).alloc (.cells b t)).alloc (.cells c u)).alloc (.cells d v)) w.heap.size a s ∧ Row ((((w.alloc (.cells a s)).alloc (.cells b t)).alloc (.cells c u)).alloc (.cells d v)) (w.heap.size + 1) b t ∧ Row ((((w.alloc (.cells a s)).alloc (.cells b t)).alloc (.cells c u)).alloc (.cells d v)) (w.heap.size + 2) c u ∧ Row ((((w.alloc (.cells a s)).alloc (.cells b t)).alloc (.cells c u)).alloc (.cells d v)) (w.heap.size + 3) d v := by
  obtain ⟨h1, h2, h3⟩ := Row.three w a b c s t u
  refine ⟨h1.alloc _, h2.alloc _, h3.alloc _, ?_⟩
  have := Row.new (((w.alloc (.cells a s)).alloc (.cells b t)).alloc (.cells c u)) d v
  simpa using this
theorem below_four (w : World) (a b c d : Obj) : Below w.heap.size w ((((w.alloc a).alloc b).alloc c).alloc d) := (below_three w a b c).alloc (by simp; omega) d
/-- Held.Or -/
def orTo (fa fb : Nat → Bool) (k : Nat) : Nat → Bool := fun i => fa i || (decide (i < k) && fb i)
theorem orTo_zero (fa fb : Nat → Bool) : bsA 6 (orTo fa fb 0) = bsA 6 fa := bsA_congr (fun i _ => by simp [orTo])
theorem orTo_six (fa fb : Nat → Bool) : bsA 6 (orTo fa fb 6) = bsA 6 (fun i => fa i || fb i) := bsA_congr (fun i hi => by simp [orTo, hi])
theorem orTo_step (fa fb : Nat → Bool) (k : Nat) (hk : k < 6) : (bsA 6 (orTo fa fb k)).setIfInBounds k (.bool (orTo fa fb k k || fb k)) = bsA 6 (orTo fa fb (k + 1)) := by
  rw [bsA_set]
  refine bsA_congr (fun i hi => ?_)
  unfold orTo
  by_cases e : i = k
  · subst e; simp
  · rw [if_neg e]
    have : decide (i < k) = decide (i < k + 1) := by simp; omega
    rw [this]
set_option maxRecDepth 100000 in
theorem heldOrB (fa fb : Nat → Bool) (w : World) :
    Calls Try.prog 59 #[.agg (bsA 6 fa), .agg (bsA 6 fb)] w fun e w' => e = .returned (.agg (bsA 6 (fun i => fa i || fb i))) ∧ Below w.heap.size w w' := by
  have ZA := hide (Row.three w (bsA 6 fa) (bsA 6 fb) #[.bool false, .bool false, .bool false, .bool false, .bool false, .bool false] 98 98 98)
  have ZB := hide (below_three w (.cells (bsA 6 fa) 98) (.cells (bsA 6 fb) 98) (.cells #[.bool false, .bool false, .bool false, .bool false, .bool false, .bool false] 98))
  go_enter Try.func59, Try.ntmps59
  go_wp2_with (first | (refine wpList_load_row rfl 98 _ rfl _ rfl 98 (bsA 6 fb) (0, 0) _ ?_ Try.underlying98 rfl (Try.iHeldB _) ?_; (exact ZA.out.2.1.raw)))
  generalize ((w.alloc (.cells (bsA 6 fa) 98)).alloc (.cells (bsA 6 fb) 98)).alloc (.cells #[.bool false, .bool false, .bool false, .bool false, .bool false, .bool false] 98) = W at *
  go_loopw [8] (fun c wr => ∃ k : Nat, k ≤ 6 ∧ c = .int .i64 k ∧ Row wr w.heap.size (bsA 6 (orTo fa fb k)) 98 ∧ Row wr (w.heap.size + 2) #[.bool false, .bool false, .bool false, .bool false, .bool false, .bool false] 98 ∧ Below w.heap.size w wr) (fun c _ => 6 - (intOf c).toNat)
  case atStart => exact ⟨0, by omega, rfl, by rw [orTo_zero]; exact ZA.out.1, ZA.out.2.2, ZB.out⟩
  case round =>
    clear ZA ZB
    obtain ⟨k, hk, rfl, h1, h2, h3⟩ := hrel
    have H1 := hide h1
    have H2 := hide h2
    have H3 := hide h3
    clear h1 h2 h3
    by_cases hlt : k < 6
    · have c1 : wr.cell? ⟨w.heap.size, k, none⟩ = some (.bool (orTo fa fb k k)) := H1.out.cell k (bsA_at _ _ _ hlt)
      have f1 := H1.out.frozen k
      have hix := hide (ixHb fb k hlt)
      have hst := hide (orTo_step fa fb k hlt)
      generalize orTo fa fb k k = o1 at *
      generalize fb k = o2 at *
      cases o1 <;> (
        go_wp2_with (refine wpList_ixTo rfl _ _ _ rfl _ (hix.out _) ?_)
        go_round
        case measure => simp [intOf]; omega
        case rel =>
          refine ⟨k + 1, by omega, by go_num, ?_, H2.out.setO (by omega) _ _, H3.out.setCell (Nat.le_refl _) _⟩
          rw [← hst.out]
          first | exact H1.out.set k _ | (simp only [Bool.false_or, Bool.true_or]; exact H1.out.set k _))
    · have e : k = 6 := by omega
      subst e
      rw [orTo_six] at H1
      go_wp2_with (first | (refine wpList_load_row rfl 98 _ rfl _ rfl 98 (bsA 6 (fun i => fa i || fb i)) (0, 0) _ ?_ Try.underlying98 rfl (Try.iHeldB _) ?_; (exact H1.out.raw)) | (refine wpList_store_row rfl 98 _ _ rfl (w.heap.size + 2) (bsA 6 (fun i => fa i || fb i)) rfl rfl 98 #[.bool false, .bool false, .bool false, .bool false, .bool false, .bool false] ?_ (Try.iHeldB _) rfl (bsA_one _ _) ?_; (exact H2.out.raw)))
      exact bodyPost_ret (v := .agg (bsA 6 (fun i => fa i || fb i))) (results_cell_row Try.results59 _ _ (w.heap.size + 2) 98 _ (0, 0) _ rfl (H2.out.setRow _).raw Try.underlying98 rfl (Try.iHeldB _)) rfl ⟨rfl, below_setRow H3.out (by omega) _⟩
/-- edges.with, so far -/
def wt (T : Tb) (fa fb : Nat → Bool) (l m : Nat) : Tb := fun x y => T x y || ((decide (x < l) || (decide (x = l) && decide (y < m))) && fa x && fb y)
theorem wt_zero (T : Tb) (fa fb : Nat → Bool) : tbA (wt T fa fb 0 0) = tbA T := tbA_congr (fun x _ y _ => by simp [wt])
theorem wt_row (T : Tb) (fa fb : Nat → Bool) (l : Nat) : tbA (wt T fa fb l 6) = tbA (wt T fa fb (l + 1) 0) := tbA_congr (fun x _ y hy => by
  unfold wt
  have : (decide (x < l) || (decide (x = l) && decide (y < 6))) = (decide (x < l + 1) || (decide (x = l + 1) && decide (y < 0))) := by
    simp [hy]
    by_cases h1 : x < l <;> by_cases h2 : x = l <;> simp [h1, h2] <;> omega
  rw [this])
theorem wt_end (T : Tb) (fa fb : Nat → Bool) : tbA (wt T fa fb 6 0) = tbA (fun x y => T x y || (fa x && fb y)) := tbA_congr (fun x hx y _ => by simp [wt, hx])
theorem wt_yes (T : Tb) (fa fb : Nat → Bool) (l m : Nat) (h1 : fa l = true) (h2 : fb m = true) : tbA (upT (wt T fa fb l m) l m true) = tbA (wt T fa fb l (m + 1)) := tbA_congr (fun x _ y _ => by
  unfold upT
  by_cases e : x = l ∧ y = m
  · rw [if_pos e, e.1, e.2]; simp [wt, h1, h2]
  · rw [if_neg e]
    unfold wt
    have : (decide (x < l) || (decide (x = l) && decide (y < m))) = (decide (x < l) || (decide (x = l) && decide (y < m + 1))) := by
      by_cases h3 : x = l
      · have : decide (y < m) = decide (y < m + 1) := by simp; omega
        rw [this]
      · simp [h3]
    rw [this])
theorem wt_no (T : Tb) (fa fb : Nat → Bool) (l m : Nat) (h : (fa l && fb m) = false) : tbA (wt T fa fb l m) = tbA (wt T fa fb l (m + 1)) := tbA_congr (fun x _ y _ => by
  unfold wt
  by_cases e : x = l ∧ y = m
  · rw [e.1, e.2, Bool.and_assoc, Bool.and_assoc, h]; simp
  · have : (decide (x < l) || (decide (x = l) && decide (y < m))) = (decide (x < l) || (decide (x = l) && decide (y < m + 1))) := by
      by_cases h3 : x = l
      · have : decide (y < m) = decide (y < m + 1) := by simp; omega
        rw [this]
      · simp [h3]
    rw [this])
set_option maxRecDepth 100000 in
theorem withB (T : Tb) (fa fb : Nat → Bool) (w : World) :
    Calls Try.prog 58 #[.agg (tbA T), .agg (bsA 6 fa), .agg (bsA 6 fb)] w fun e w' => e = .returned (.agg (tbA (fun x y => T x y || (fa x && fb y)))) ∧ Below w.heap.size w w' := by
  have ZA := hide (Row.four w (tbA T) (bsA 6 fa) (bsA 6 fb) (tbA (fun _ _ => false)) 89 98 98 89)
  have ZB := hide (below_four w (.cells (tbA T) 89) (.cells (bsA 6 fa) 98) (.cells (bsA 6 fb) 98) (.cells (tbA (fun _ _ => false)) 89))
  go_enter Try.func58, Try.ntmps58
  go_wp2_with (first | (refine wpList_load_row rfl 98 _ rfl _ rfl 98 (bsA 6 fa) (0, 0) _ ?_ Try.underlying98 rfl (Try.iHeldB _) ?_; (exact ZA.out.2.1.raw)) | (refine wpList_allocT rfl rfl ?_))
  generalize (((w.alloc (.cells (tbA T) 89)).alloc (.cells (bsA 6 fa) 98)).alloc (.cells (bsA 6 fb) 98)).alloc (.cells (tbA (fun _ _ => false)) 89) = W at *
  go_loopw [12] (fun c wr => ∃ l : Nat, l ≤ 6 ∧ c = .int .i64 l ∧ Row wr w.heap.size (tbA (wt T fa fb l 0)) 89 ∧ Row wr (w.heap.size + 2) (bsA 6 fb) 98 ∧ Row wr (w.heap.size + 3) (tbA (fun _ _ => false)) 89 ∧ Below w.heap.size w wr) (fun c _ => 6 - (intOf c).toNat)
  case atStart => exact ⟨0, by omega, rfl, by rw [wt_zero]; exact ZA.out.1, ZA.out.2.2.1, ZA.out.2.2.2, ZB.out⟩
  case round =>
    clear ZA ZB
    obtain ⟨l, hl, rfl, h1, h2, h3, h4⟩ := hrel
    have H1 := hide h1
    have H2 := hide h2
    have H3 := hide h3
    have H4 := hide h4
    clear h1 h2 h3 h4
    by_cases hlt : l < 6
    · have hix := hide (ixHb fa l hlt)
      have hl0 : (0 : Int) ≤ (l : Int) := by omega
      go_wp2_with (first | (refine wpList_load_row rfl 98 _ rfl _ rfl 98 (bsA 6 fb) (0, 0) _ ?_ Try.underlying98 rfl (Try.iHeldB _) ?_; (exact H2.out.raw)) | (refine wpList_ixTo rfl _ _ _ rfl _ (hix.out _) ?_))
      go_loopw [17] (fun c wr => ∃ m : Nat, m ≤ 6 ∧ c = .int .i64 m ∧ Row wr w.heap.size (tbA (wt T fa fb l m)) 89 ∧ Row wr (w.heap.size + 2) (bsA 6 fb) 98 ∧ Row wr (w.heap.size + 3) (tbA (fun _ _ => false)) 89 ∧ Below w.heap.size w wr) (fun c _ => 6 - (intOf c).toNat)
      case atStart => exact ⟨0, by omega, rfl, H1.out, H2.out, H3.out, H4.out⟩
      case round =>
        clear H1 H2 H3 H4 hix
        obtain ⟨m, hm, rfl, h1, h2, h3, h4⟩ := hrel
        have H1 := hide h1
        have H2 := hide h2
        have H3 := hide h3
        have H4 := hide h4
        clear h1 h2 h3 h4
        by_cases hmt : m < 6
        · have hix := hide (ixHb fb m hmt)
          have c1 : wr.cell? ⟨w.heap.size, l * 6 + m, none⟩ = some (.bool (wt T fa fb l m l m)) := H1.out.cell _ (tbA_at _ _ _ hlt hmt)
          have f1 := H1.out.frozen (l * 6 + m)
          have hm0 : (0 : Int) ≤ (m : Int) := by omega
          have hyes := hide (wt_yes T fa fb l m)
          have hno := hide (wt_no T fa fb l m)
          have hset := hide (tbA_set (wt T fa fb l m) l m hlt hmt true)
          generalize wt T fa fb l m l m = o0 at *
          generalize fa l = o1 at *
          generalize fb m = o2 at *
          cases o1 <;> cases o2 <;> (
            go_wp2_with (refine wpList_ixTo rfl _ _ _ rfl _ (hix.out _) ?_)
            go_round
            case measure => simp [intOf]; omega
            case rel =>
              first
              | exact ⟨m + 1, by omega, by go_num, by rw [← hno.out rfl]; exact H1.out, H2.out, H3.out, H4.out⟩
              | exact ⟨m + 1, by omega, by go_num, by rw [← hyes.out rfl rfl, ← hset.out]; exact H1.out.set _ _, H2.out.setO (by omega) _ _, H3.out.setO (by omega) _ _, H4.out.setCell (Nat.le_refl _) _⟩)
        · have e : m = 6 := by omega
          subst e
          rw [wt_row] at H1
          go_wp2
          go_round
          case measure => simp [intOf]; omega
          case rel => exact ⟨l + 1, by omega, by go_num, H1.out, H2.out, H3.out, H4.out⟩
    · have e : l = 6 := by omega
      subst e
      rw [wt_end] at H1
      go_wp2_with (first | (refine wpList_load_row rfl 89 _ rfl _ rfl 89 (tbA (fun x y => T x y || (fa x && fb y))) (0, 0) _ ?_ Try.underlying89 rfl (Try.iTb _) ?_; (exact H1.out.raw)) | (refine wpList_store_row rfl 89 _ _ rfl (w.heap.size + 3) (tbA (fun x y => T x y || (fa x && fb y))) rfl rfl 89 (tbA (fun _ _ => false)) ?_ (Try.iTb _) (by rw [tbA_size, tbA_size]) (tbA_one _) ?_; (exact H3.out.raw)))
      exact bodyPost_ret (v := .agg (tbA (fun x y => T x y || (fa x && fb y)))) (results_cell_row Try.results58 _ _ (w.heap.size + 3) 89 _ (0, 0) _ rfl (H3.out.setRow _).raw Try.underlying89 rfl (Try.iTb _)) rfl ⟨rfl, below_setRow H4.out (by omega) _⟩
end Go.Proofs.Ytecmfdkhcffpmab
