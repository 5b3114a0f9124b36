/- RefF, RefI, SrcA. -/
import Derived.Test.YtecmfdkhcffpmaaB04
import Derived.Test.YtecmfdkhcffpmaaB01
import Derived.Deep.WholeRow
import Derived.Laws.CopyOwn
import Derived.BigRegion
/- Contract of the document's 'sizes': how long the functions' bodies are, unfolded. -/
namespace Go.Proofs.Ytecmfdkhcffpmaa
open Go.RowKit
set_option linter.unusedSimpArgs false
set_option linter.unusedVariables false
set_option maxHeartbeats 400000

/-- A block of cells that may be written: its cells and its marks. -/
theorem row_cell {w : World} {g j : Nat} {cs : Array Value} {t : TypeId} {v : Value} (hg : w.heap[g]? = some (.cells cs t (0, 0))) (h : cs[j]? = some v) : w.cell? ⟨g, j, none⟩ = some v := by
  rw [cell_of_row w g j cs t (0, 0) hg]; exact h
theorem row_lt {w : World} {g : Nat} {o : Obj} (hg : w.heap[g]? = some o) : g < w.heap.size := (Array.getElem?_eq_some_iff.1 hg).1
theorem below_row {w w' : World} (hb : Below w.heap.size w w') {g : Nat} {o : Obj} (hg : w.heap[g]? = some o) : w'.heap[g]? = some o := by
  rw [hb.block g (row_lt hg)]; exact hg

end Go.Proofs.Ytecmfdkhcffpmaa
/- Contract of the document's 'Check'. -/
namespace Go.Proofs.Ytecmfdkhcffpmaa
open Go.RowKit
set_option linter.unusedSimpArgs false
set_option linter.unusedVariables false
set_option maxHeartbeats 400000

theorem own_shape {w : World} {base : Nat} {e : TypeId} {v : Value} {n : Nat} {xs : List Value} (h : w.ownsRow base e 1 v n xs) :
    ∃ ao cap, v = .slice ao n cap ∧ n ≤ cap ∧ cap ≤ maxLen ∧ xs.length = n ∧ (∀ j u, xs[j]? = some u → ∃ g, ao = some ⟨g, 0, none⟩ ∧ w.cell? ⟨g, j, none⟩ = some u ∧ base ≤ g ∧ g < w.heap.size) := by
  obtain ⟨hl, h2⟩ := h
  rcases h2 with ⟨rfl, rfl⟩ | ⟨g, cap, cur, rfl, hg, hh, hn, hm, hs, ht⟩
  · refine ⟨none, 0, rfl, by omega, by unfold maxLen; omega, by simpa using hl, ?_⟩
    intro j u hj
    have hx : xs = [] := by simpa using hl
    subst hx
    simp at hj
  · refine ⟨some ⟨g, 0, none⟩, cap, rfl, hn, hm, by simpa using hl, ?_⟩
    intro j u hj
    refine ⟨g, rfl, ?_, hg, row_lt hh⟩
    rw [cell_of_row w g j cur e (0, 0) hh]
    have hj' : j < xs.length := (List.getElem?_eq_some_iff.1 hj).1
    have hjn : j < n := by have : xs.length = n := by simpa using hl
                           omega
    rw [← ht] at hj
    simp [hjn] at hj
    exact hj

end Go.Proofs.Ytecmfdkhcffpmaa
/- Contracts of the program's reader of the form: the scanner's small methods. -/
namespace Go.Proofs.Ytecmfdkhcffpmaa
open Go.RowKit
set_option linter.unusedSimpArgs false
set_option linter.unusedVariables false
set_option maxHeartbeats 400000

/-- The scanner in block b: what it wants, how many items, what is open (in a row of its own, above b). -/
def Sc (w : World) (b : Nat) (st : Wd.St) : Prop := ∃ v, w.heap[b]? = some (.cells #[.int .i64 st.want, .int .i64 st.items, v] 197 (0, 0)) ∧ w.ownsRow (b + 1) 5 1 v st.op.length (Wd.bytesV st.op)

theorem Sc.want {w : World} {b : Nat} {st : Wd.St} (h : Sc w b st) (x : Int) : Sc (w.setCell ⟨b, 0, none⟩ (.int .i64 x)) b ⟨x, st.op, st.items⟩ := by
  obtain ⟨v, h1, h2⟩ := h
  exact ⟨v, by rw [heap_setCell_same _ _ _ _ _ _ h1]; rfl, ownsRow_setCell_below h2 (by simp) _⟩
theorem Sc.items {w : World} {b : Nat} {st : Wd.St} (h : Sc w b st) (x : Nat) : Sc (w.setCell ⟨b, 1, none⟩ (.int .i64 (x : Int))) b ⟨st.want, st.op, x⟩ := by
  obtain ⟨v, h1, h2⟩ := h
  exact ⟨v, by rw [heap_setCell_same _ _ _ _ _ _ h1]; rfl, ownsRow_setCell_below h2 (by simp) _⟩
theorem Sc.setOpen {w : World} {b : Nat} {st : Wd.St} {v v' : Value} {o : List UInt8} (h1 : w.heap[b]? = some (.cells #[.int .i64 st.want, .int .i64 st.items, v] 197 (0, 0))) (h2 : w.ownsRow (b + 1) 5 1 v' o.length (Wd.bytesV o)) : Sc (w.setCell ⟨b, 2, none⟩ v') b ⟨st.want, o, st.items⟩ :=
  ⟨v', by rw [heap_setCell_same _ _ _ _ _ _ h1]; rfl, ownsRow_setCell_below h2 (by simp) _⟩
theorem Sc.draw {w : World} {b : Nat} {st : Wd.St} (h : Sc w b st) : Sc w.drew b st := h
theorem Sc.lt {w : World} {b : Nat} {st : Wd.St} (h : Sc w b st) : b < w.heap.size := by
  obtain ⟨v, h1, h2⟩ := h; exact row_lt h1

theorem below_set {b o : Nat} {w0 w : World} (h : Below b w0 w) (v : Value) : Below b w0 (w.setCell ⟨b, o, none⟩ v) := h.setCell (p := ⟨b, o, none⟩) (Nat.le_refl _) v

/-- What a method of the scanner leaves: the next state and yes, or no; below its block nothing has turned. -/
def ScPost (w : World) (b : Nat) (r : Option Wd.St) (e : Ending) (w' : World) : Prop :=
  Below b w w' ∧ (match r with | some st' => e = .returned (.bool true) ∧ Sc w' b st' | none => e = .returned (.bool false))

theorem takeItem_any (c : Int) (w : World) (b : Nat) (st : Wd.St) (hw : st.want = 0) (hi : st.items ≤ 8) (h0 : 0 ≤ c) (h1 : c ≤ 255) (hsc : Sc w b st) :
    Calls Try.prog 157 #[.pointer (some ⟨b, 0, none⟩), .int .u8 c] w (ScPost w b (Wd.stepP st c)) := by
  obtain ⟨want, op, items⟩ := st
  simp only at hw hi
  subst hw
  obtain ⟨v, hh, hown⟩ := id hsc
  have c0 := row_cell (j := 0) hh rfl
  have c1 := row_cell (j := 1) hh rfl
  have f0 := frozen_of_row _ b 0 _ _ hh
  have f1 := frozen_of_row _ b 1 _ _ hh
  simp only at c0 c1
  have HS := hide hsc
  clear hh hown hsc
  by_cases h8 : items < 8
  · cases ht : (c == 116)
    · cases h4 : (c == 104)
      · cases hu : Wd.up c
        · have e : Hid (Wd.stepP ⟨0, op, items⟩ c = none) := by simp at ht h4; simp [Hid, Wd.stepP, ht, h4, hu]
          go_enter Try.func157, Try.ntmps157
          go_wp2_with (go_at_call 135; refine (isFunction_any _ _ h0 h1).mono ?_; rintro e w' ⟨rfl, rfl⟩)
          go_ret
          rw [e.out]
          exact ⟨below_set (below_set (Below.refl _ _) _) _, rfl⟩
        · have e : Hid (Wd.stepP ⟨0, op, items⟩ c = some ⟨1, op, items + 1⟩) := by simp [Hid, Wd.stepP, h8, hu]
          go_enter Try.func157, Try.ntmps157
          go_wp2_with (go_at_call 135; refine (isFunction_any _ _ h0 h1).mono ?_; rintro e w' ⟨rfl, rfl⟩)
          go_ret
          rw [e.out]
          exact ⟨below_set (below_set (Below.refl _ _) _) _, rfl, (HS.out.items (items + 1)).want 1⟩
      · have e : Hid (Wd.stepP ⟨0, op, items⟩ c = some ⟨1, op, items + 1⟩) := by simp at h4; simp [Hid, Wd.stepP, h8, h4]
        go_enter Try.func157, Try.ntmps157
        go_wp2_with (go_at_call 135; refine (isFunction_any _ _ h0 h1).mono ?_; rintro e w' ⟨rfl, rfl⟩)
        go_ret
        rw [e.out]
        exact ⟨below_set (below_set (Below.refl _ _) _) _, rfl, (HS.out.items (items + 1)).want 1⟩
    · have e : Hid (Wd.stepP ⟨0, op, items⟩ c = some ⟨1, op, items + 1⟩) := by simp at ht; simp [Hid, Wd.stepP, h8, ht]
      go_enter Try.func157, Try.ntmps157
      go_wp2_with (go_at_call 135; refine (isFunction_any _ _ h0 h1).mono ?_; rintro e w' ⟨rfl, rfl⟩)
      go_ret
      rw [e.out]
      exact ⟨below_set (below_set (Below.refl _ _) _) _, rfl, (HS.out.items (items + 1)).want 1⟩
  · have e : Hid (Wd.stepP ⟨0, op, items⟩ c = none) := by simp [Hid, Wd.stepP, h8]
    go_enter Try.func157, Try.ntmps157
    go_wp2
    go_ret
    rw [e.out]
    exact ⟨Below.refl _ _, rfl⟩

theorem own_pos {w : World} {base : Nat} {e : TypeId} {v : Value} {m : Nat} {xs : List Value} (h : w.ownsRow base e 1 v (m + 1) xs) :
    ∃ g cap, v = .slice (some ⟨g, 0, none⟩) (m + 1) cap ∧ base ≤ g ∧ g < w.heap.size ∧ m + 1 ≤ cap ∧ cap ≤ maxLen ∧ (∀ j, j < m + 1 → w.cell? ⟨g, j, none⟩ = xs[j]?) := by
  obtain ⟨hl, h2⟩ := id h
  rcases h2 with ⟨_, h0⟩ | ⟨g, cap, cur, rfl, hg, hh, hn, hm, hs, ht⟩
  · omega
  · exact ⟨g, cap, rfl, hg, row_lt hh, hn, hm, fun j hj => h.cellAt j (by omega)⟩

theorem pop_bytes {w : World} {base g cap m : Nat} {o : List UInt8} (hm : o.length = m + 1) (h : w.ownsRow base 5 1 (.slice (some ⟨g, 0, none⟩) (m + 1) cap) (m + 1) (Wd.bytesV o)) :
    w.ownsRow base 5 1 (.slice (some ⟨g, 0, none⟩) m cap) (o.take m).length (Wd.bytesV (o.take m)) := by
  have e : (o.take m).length = m := by simp; omega
  rw [e]
  apply ownsRow_pop (last := Wd.bytesV (o.drop m))
  · rw [Wd.bytesV_len, e]; omega
  · have : Wd.bytesV (o.take m) ++ Wd.bytesV (o.drop m) = Wd.bytesV o := by rw [Wd.bytesV, Wd.bytesV, ← List.map_append, List.take_append_drop]; rfl
    rw [this]; exact h

/-- What 'shut' leaves: what is open, one less, and yes; or no, and all as it was. -/
def ShPost (w : World) (b : Nat) (st : Wd.St) (r : Option (List UInt8)) (e : Ending) (w' : World) : Prop :=
  match r with
  | some o => e = .returned (.bool true) ∧ Sc w' b ⟨st.want, o, st.items⟩ ∧ Below b w w'
  | none => e = .returned (.bool false) ∧ w' = w

theorem shut_any (c : Int) (w : World) (b : Nat) (st : Wd.St) (h0 : 0 ≤ c) (h1 : c ≤ 255) (hsc : Sc w b st) :
    Calls Try.prog 171 #[.pointer (some ⟨b, 0, none⟩), .int .u8 c] w (ShPost w b st (Wd.shut st.op c)) := by
  obtain ⟨want, op, items⟩ := st
  obtain ⟨v, hh, hown⟩ := id hsc
  simp only at hh hown
  cases hlen : op.length with
  | zero =>
    have e : Hid (Wd.shut op c = none) := by simp [Hid, Wd.shut, hlen]
    rw [hlen] at hown
    obtain ⟨ao, cap, rfl, hnc, hcap, _, _⟩ := own_shape hown
    have c2 := row_cell (j := 2) hh rfl
    clear hh hown hsc
    go_enter Try.func171, Try.ntmps171
    go_wp2
    go_ret
    rw [e.out]
    exact ⟨rfl, rfl⟩
  | succ m =>
    rw [hlen] at hown
    obtain ⟨g, cap, rfl, hbg, hgs, hnc, hcap, hcells⟩ := own_pos hown
    have c2 := row_cell (j := 2) hh rfl
    have f2 := frozen_of_row _ b 2 _ _ hh
    have cm := (hcells m (by omega)).trans (Wd.bytesV_at op m (by omega))
    have b0 := Wd.at_lo op m
    have b1 := Wd.at_hi op m
    have HL := hide hlen
    have HH := hide hh
    have HO := hide hown
    unfold maxLen at hcap
    clear hh hown hsc hcells hlen
    have HX := hide (show Wd.at_ op m = Wd.at_ op m from rfl)
    have e : Hid (Wd.shut op c = if Wd.at_ op m = c then some (op.take m) else none) := by simp [Hid, Wd.shut, HL.out]
    generalize Wd.at_ op m = x at *
    clear HX
    cases hc : (x != c)
    · have hxc : x = c := by simpa using hc
      have E : Hid (Wd.shut op c = some (op.take m)) := by rw [e.out, if_pos hxc]; rfl
      clear e hxc
      go_enter Try.func171, Try.ntmps171
      go_wp2
      go_ret
      rw [E.out]
      exact ⟨rfl, Sc.setOpen (st := ⟨want, op, items⟩) HH.out (pop_bytes HL.out HO.out), below_set (Below.refl _ _) _⟩
    · have hxc : ¬ x = c := by simpa using hc
      have E : Hid (Wd.shut op c = none) := by rw [e.out, if_neg hxc]; rfl
      clear e hxc
      go_enter Try.func171, Try.ntmps171
      go_wp2
      go_ret
      rw [E.out]
      exact ⟨rfl, rfl⟩
end Go.Proofs.Ytecmfdkhcffpmaa
