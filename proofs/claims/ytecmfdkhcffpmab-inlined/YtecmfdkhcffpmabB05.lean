/- SrcA, SrcB. -/
import Derived.Test.YtecmfdkhcffpmabB04
import Derived.Test.YtecmfdkhcffpmabB01
/- Contracts of the program's reader of the form: the scanner's small methods. -/
namespace Go.Proofs.Ytecmfdkhcffpmab
open Go.RowKit
set_option linter.unusedSimpArgs false
set_option linter.unusedVariables false
set_option maxHeartbeats 400000

/-- The scanner in block b: what it wants, how many items, what is open (in a row of its own, above b). -/
def Sc (w : World) (b : Nat) (st : Wd.St) : Prop := ∃ v, w.heap[b]? = some (.cells #[.int .i64 st.want, .int .i64 st.items, v] 151 (0, 0)) ∧ w.ownsRow (b + 1) 5 1 v st.op.length (Wd.bytesV st.op)

theorem Sc.want {w : World} {b : Nat} {st : Wd.St} (h : Sc w b st) (x : Int) : Sc (w.setCell ⟨b, 0, none⟩ (.int .i64 x)) b ⟨x, st.op, st.items⟩ := by
  obtain ⟨v, h1, h2⟩ := h
  exact ⟨v, by rw [heap_setCell_same _ _ _ _ _ _ h1]; rfl, ownsRow_setCell_below h2 (by simp) _⟩
theorem Sc.items {w : World} {b : Nat} {st : Wd.St} (h : Sc w b st) (x : Nat) : Sc (w.setCell ⟨b, 1, none⟩ (.int .i64 (x : Int))) b ⟨st.want, st.op, x⟩ := by
  obtain ⟨v, h1, h2⟩ := h
  exact ⟨v, by rw [heap_setCell_same _ _ _ _ _ _ h1]; rfl, ownsRow_setCell_below h2 (by simp) _⟩
theorem Sc.setOpen {w : World} {b : Nat} {st : Wd.St} {v v' : Value} {o : List UInt8} (h1 : w.heap[b]? = some (.cells #[.int .i64 st.want, .int .i64 st.items, v] 151 (0, 0))) (h2 : w.ownsRow (b + 1) 5 1 v' o.length (Wd.bytesV o)) : Sc (w.setCell ⟨b, 2, none⟩ v') b ⟨st.want, o, st.items⟩ :=
  ⟨v', by rw [heap_setCell_same _ _ _ _ _ _ h1]; rfl, ownsRow_setCell_below h2 (by simp) _⟩
theorem Sc.draw {w : World} {b : Nat} {st : Wd.St} (h : Sc w b st) : Sc w.drew b st := h
theorem Sc.lt {w : World} {b : Nat} {st : Wd.St} (h : Sc w b st) : b < w.heap.size := by
  obtain ⟨v, h1, h2⟩ := h; exact row_lt h1

theorem below_set {b o : Nat} {w0 w : World} (h : Below b w0 w) (v : Value) : Below b w0 (w.setCell ⟨b, o, none⟩ v) := h.setCell (p := ⟨b, o, none⟩) (Nat.le_refl _) v

/-- What a method of the scanner leaves: the next state and yes, or no; below its block nothing has turned. -/
def ScPost (w : World) (b : Nat) (r : Option Wd.St) (e : Ending) (w' : World) : Prop :=
  Below b w w' ∧ (match r with | some st' => e = .returned (.bool true) ∧ Sc w' b st' | none => e = .returned (.bool false))

theorem takeItem_any (c : Int) (w : World) (b : Nat) (st : Wd.St) (hw : st.want = 0) (hi : st.items ≤ 8) (h0 : 0 ≤ c) (h1 : c ≤ 255) (hsc : Sc w b st) :
    Calls Try.prog 94 #[.pointer (some ⟨b, 0, none⟩), .int .u8 c] w (ScPost w b (Wd.stepP st c)) := by
  obtain ⟨want, op, items⟩ := st
  simp only at hw hi
  subst hw
  obtain ⟨v, hh, hown⟩ := id hsc
  have c0 := row_cell (j := 0) hh rfl
  have c1 := row_cell (j := 1) hh rfl
  have f0 := frozen_of_row _ b 0 _ _ hh
  have f1 := frozen_of_row _ b 1 _ _ hh
  simp only at c0 c1
  have HS := hide hsc
  clear hh hown hsc
  by_cases h8 : items < 8
  · cases ht : (c == 116)
    · cases h4 : (c == 104)
      · cases hu : Wd.up c
        · have e : Hid (Wd.stepP ⟨0, op, items⟩ c = none) := by simp at ht h4; simp [Hid, Wd.stepP, ht, h4, hu]
          go_enter Try.func94, Try.ntmps94
          go_wp2_with (go_at_call 80; refine (isFunction_any _ _ h0 h1).mono ?_; rintro e w' ⟨rfl, rfl⟩)
          go_ret
          rw [e.out]
          exact ⟨below_set (below_set (Below.refl _ _) _) _, rfl⟩
        · have e : Hid (Wd.stepP ⟨0, op, items⟩ c = some ⟨1, op, items + 1⟩) := by simp [Hid, Wd.stepP, h8, hu]
          go_enter Try.func94, Try.ntmps94
          go_wp2_with (go_at_call 80; refine (isFunction_any _ _ h0 h1).mono ?_; rintro e w' ⟨rfl, rfl⟩)
          go_ret
          rw [e.out]
          exact ⟨below_set (below_set (Below.refl _ _) _) _, rfl, (HS.out.items (items + 1)).want 1⟩
      · have e : Hid (Wd.stepP ⟨0, op, items⟩ c = some ⟨1, op, items + 1⟩) := by simp at h4; simp [Hid, Wd.stepP, h8, h4]
        go_enter Try.func94, Try.ntmps94
        go_wp2_with (go_at_call 80; refine (isFunction_any _ _ h0 h1).mono ?_; rintro e w' ⟨rfl, rfl⟩)
        go_ret
        rw [e.out]
        exact ⟨below_set (below_set (Below.refl _ _) _) _, rfl, (HS.out.items (items + 1)).want 1⟩
    · have e : Hid (Wd.stepP ⟨0, op, items⟩ c = some ⟨1, op, items + 1⟩) := by simp at ht; simp [Hid, Wd.stepP, h8, ht]
      go_enter Try.func94, Try.ntmps94
      go_wp2_with (go_at_call 80; refine (isFunction_any _ _ h0 h1).mono ?_; rintro e w' ⟨rfl, rfl⟩)
      go_ret
      rw [e.out]
      exact ⟨below_set (below_set (Below.refl _ _) _) _, rfl, (HS.out.items (items + 1)).want 1⟩
  · have e : Hid (Wd.stepP ⟨0, op, items⟩ c = none) := by simp [Hid, Wd.stepP, h8]
    go_enter Try.func94, Try.ntmps94
    go_wp2
    go_ret
    rw [e.out]
    exact ⟨Below.refl _ _, rfl⟩

theorem own_pos {w : World} {base : Nat} {e : TypeId} {v : Value} {m : Nat} {xs : List Value} (h : w.ownsRow base e 1 v (m + 1) xs) :
    ∃ g cap, v = .slice (some ⟨g, 0, none⟩) (m + 1) cap ∧ base ≤ g ∧ g < w.heap.size ∧ m + 1 ≤ cap ∧ cap ≤ maxLen ∧ (∀ j, j < m + 1 → w.cell? ⟨g, j, none⟩ = xs[j]?) := by
  obtain ⟨hl, h2⟩ := id h
  rcases h2 with ⟨_, h0⟩ | ⟨g, cap, cur, rfl, hg, hh, hn, hm, hs, ht⟩
  · omega
  · exact ⟨g, cap, rfl, hg, row_lt hh, hn, hm, fun j hj => h.cellAt j (by omega)⟩

theorem pop_bytes {w : World} {base g cap m : Nat} {o : List UInt8} (hm : o.length = m + 1) (h : w.ownsRow base 5 1 (.slice (some ⟨g, 0, none⟩) (m + 1) cap) (m + 1) (Wd.bytesV o)) :
    w.ownsRow base 5 1 (.slice (some ⟨g, 0, none⟩) m cap) (o.take m).length (Wd.bytesV (o.take m)) := by
  have e : (o.take m).length = m := by simp; omega
  rw [e]
  apply ownsRow_pop (last := Wd.bytesV (o.drop m))
  · rw [Wd.bytesV_len, e]; omega
  · have : Wd.bytesV (o.take m) ++ Wd.bytesV (o.drop m) = Wd.bytesV o := by rw [Wd.bytesV, Wd.bytesV, ← List.map_append, List.take_append_drop]; rfl
    rw [this]; exact h

/-- What 'shut' leaves: what is open, one less, and yes; or no, and all as it was. -/
def ShPost (w : World) (b : Nat) (st : Wd.St) (r : Option (List UInt8)) (e : Ending) (w' : World) : Prop :=
  match r with
  | some o => e = .returned (.bool true) ∧ Sc w' b ⟨st.want, o, st.items⟩ ∧ Below b w w'
  | none => e = .returned (.bool false) ∧ w' = w

theorem shut_any (c : Int) (w : World) (b : Nat) (st : Wd.St) (h0 : 0 ≤ c) (h1 : c ≤ 255) (hsc : Sc w b st) :
    Calls Try.prog 105 #[.pointer (some ⟨b, 0, none⟩), .int .u8 c] w (ShPost w b st (Wd.shut st.op c)) := by
  obtain ⟨want, op, items⟩ := st
  obtain ⟨v, hh, hown⟩ := id hsc
  simp only at hh hown
  cases hlen : op.length with
  | zero =>
    have e : Hid (Wd.shut op c = none) := by simp [Hid, Wd.shut, hlen]
    rw [hlen] at hown
    obtain ⟨ao, cap, rfl, hnc, hcap, _, _⟩ := own_shape hown
    have c2 := row_cell (j := 2) hh rfl
    clear hh hown hsc
    go_enter Try.func105, Try.ntmps105
    go_wp2
    go_ret
    rw [e.out]
    exact ⟨rfl, rfl⟩
  | succ m =>
    rw [hlen] at hown
    obtain ⟨g, cap, rfl, hbg, hgs, hnc, hcap, hcells⟩ := own_pos hown
    have c2 := row_cell (j := 2) hh rfl
    have f2 := frozen_of_row _ b 2 _ _ hh
    have cm := (hcells m (by omega)).trans (Wd.bytesV_at op m (by omega))
    have b0 := Wd.at_lo op m
    have b1 := Wd.at_hi op m
    have HL := hide hlen
    have HH := hide hh
    have HO := hide hown
    unfold maxLen at hcap
    clear hh hown hsc hcells hlen
    have HX := hide (show Wd.at_ op m = Wd.at_ op m from rfl)
    have e : Hid (Wd.shut op c = if Wd.at_ op m = c then some (op.take m) else none) := by simp [Hid, Wd.shut, HL.out]
    generalize Wd.at_ op m = x at *
    clear HX
    cases hc : (x != c)
    · have hxc : x = c := by simpa using hc
      have E : Hid (Wd.shut op c = some (op.take m)) := by rw [e.out, if_pos hxc]; rfl
      clear e hxc
      go_enter Try.func105, Try.ntmps105
      go_wp2
      go_ret
      rw [E.out]
      exact ⟨rfl, Sc.setOpen (st := ⟨want, op, items⟩) HH.out (pop_bytes HL.out HO.out), below_set (Below.refl _ _) _⟩
    · have hxc : ¬ x = c := by simpa using hc
      have E : Hid (Wd.shut op c = none) := by rw [e.out, if_neg hxc]; rfl
      clear e hxc
      go_enter Try.func105, Try.ntmps105
      go_wp2
      go_ret
      rw [E.out]
      exact ⟨rfl, rfl⟩
end Go.Proofs.Ytecmfdkhcffpmab
/- Contracts of the program's reader of the form: a byte in a body, byte by byte. -/
namespace Go.Proofs.Ytecmfdkhcffpmab
open Go.RowKit
set_option linter.unusedSimpArgs false
set_option linter.unusedVariables false
set_option maxHeartbeats 800000

theorem Try.info5 : (Try.prog.info? 5).map (fun i => (i.zero, i.size, i.bytes)) = some (some (.int .u8 0), 1, 1) := by kernel_rfl

/-- Behind an append to what is open: the scanner's own block is as it was. -/
theorem grown_row {w w3 : World} {b : Nat} {v : Value} {n : Nat} {xs : List Value} {ob o : Obj} (hown : w.ownsRow (b + 1) 5 1 v n xs) (hg : (w.alloc ob).grownBy w3 v.ownBlock) (hh : w.heap[b]? = some o) : w3.heap[b]? = some o := by
  have hlt := row_lt hh
  rw [hg.block b (by simp; omega) (fun e => by have := (hown.lt b e.symm).1; omega), heap_alloc_old _ _ hlt]
  exact hh
theorem grown_below {w w3 : World} {b : Nat} {v : Value} {n : Nat} {xs : List Value} {ob : Obj} (hown : w.ownsRow (b + 1) 5 1 v n xs) (hg : (w.alloc ob).grownBy w3 v.ownBlock) (hb : b < w.heap.size) : Below b w w3 :=
  ((Below.refl b w).alloc (by omega) ob).grown hg (by simp; omega) (fun k hk => by have := (hown.lt k hk).1; omega)

theorem inBody_c43 (w : World) (b : Nat) (st : Wd.St) (hol : st.op.length ≤ 10000) (hsc : Sc w b st) :
    Calls Try.prog 95 #[.pointer (some ⟨b, 0, none⟩), .int .u8 43] w (ScPost w b (Wd.bodyP st 43)) := by
  obtain ⟨want, op, items⟩ := st
  obtain ⟨v, hh, hown⟩ := id hsc
  simp only at hh hown hol
  have c0 := row_cell (j := 0) hh rfl
  have c2 := row_cell (j := 2) hh rfl
  have f0 := frozen_of_row _ b 0 _ _ hh
  have f2 := frozen_of_row _ b 2 _ _ hh
  have HS := hide hsc
  have HH := hide hh
  have HO := hide hown
  clear hh hown hsc
  have e : Wd.bodyP ⟨want, op, items⟩ 43 = some ⟨3, op, items⟩ := by simp [Wd.bodyP]
  rw [e]
  clear e
  go_enter Try.func95, Try.ntmps95
  go_wp2
  go_ret
  exact ⟨below_set (Below.refl _ _) _, rfl, HS.out.want 3⟩

theorem inBody_c45 (w : World) (b : Nat) (st : Wd.St) (hol : st.op.length ≤ 10000) (hsc : Sc w b st) :
    Calls Try.prog 95 #[.pointer (some ⟨b, 0, none⟩), .int .u8 45] w (ScPost w b (Wd.bodyP st 45)) := by
  obtain ⟨want, op, items⟩ := st
  obtain ⟨v, hh, hown⟩ := id hsc
  simp only at hh hown hol
  have c0 := row_cell (j := 0) hh rfl
  have c2 := row_cell (j := 2) hh rfl
  have f0 := frozen_of_row _ b 0 _ _ hh
  have f2 := frozen_of_row _ b 2 _ _ hh
  have HS := hide hsc
  have HH := hide hh
  have HO := hide hown
  clear hh hown hsc
  have e : Wd.bodyP ⟨want, op, items⟩ 45 = some ⟨3, op, items⟩ := by simp [Wd.bodyP]
  rw [e]
  clear e
  go_enter Try.func95, Try.ntmps95
  go_wp2
  go_ret
  exact ⟨below_set (Below.refl _ _) _, rfl, HS.out.want 3⟩

theorem inBody_c114 (w : World) (b : Nat) (st : Wd.St) (hol : st.op.length ≤ 10000) (hsc : Sc w b st) :
    Calls Try.prog 95 #[.pointer (some ⟨b, 0, none⟩), .int .u8 114] w (ScPost w b (Wd.bodyP st 114)) := by
  obtain ⟨want, op, items⟩ := st
  obtain ⟨v, hh, hown⟩ := id hsc
  simp only at hh hown hol
  have c0 := row_cell (j := 0) hh rfl
  have c2 := row_cell (j := 2) hh rfl
  have f0 := frozen_of_row _ b 0 _ _ hh
  have f2 := frozen_of_row _ b 2 _ _ hh
  have HS := hide hsc
  have HH := hide hh
  have HO := hide hown
  clear hh hown hsc
  have e : Wd.bodyP ⟨want, op, items⟩ 114 = some ⟨4, op, items⟩ := by simp [Wd.bodyP]
  rw [e]
  clear e
  go_enter Try.func95, Try.ntmps95
  go_wp2
  go_ret
  exact ⟨below_set (Below.refl _ _) _, rfl, HS.out.want 4⟩

theorem inBody_c119 (w : World) (b : Nat) (st : Wd.St) (hol : st.op.length ≤ 10000) (hsc : Sc w b st) :
    Calls Try.prog 95 #[.pointer (some ⟨b, 0, none⟩), .int .u8 119] w (ScPost w b (Wd.bodyP st 119)) := by
  obtain ⟨want, op, items⟩ := st
  obtain ⟨v, hh, hown⟩ := id hsc
  simp only at hh hown hol
  have c0 := row_cell (j := 0) hh rfl
  have c2 := row_cell (j := 2) hh rfl
  have f0 := frozen_of_row _ b 0 _ _ hh
  have f2 := frozen_of_row _ b 2 _ _ hh
  have HS := hide hsc
  have HH := hide hh
  have HO := hide hown
  clear hh hown hsc
  have e : Wd.bodyP ⟨want, op, items⟩ 119 = some ⟨4, op, items⟩ := by simp [Wd.bodyP]
  rw [e]
  clear e
  go_enter Try.func95, Try.ntmps95
  go_wp2
  go_ret
  exact ⟨below_set (Below.refl _ _) _, rfl, HS.out.want 4⟩

theorem inBody_c60 (w : World) (b : Nat) (st : Wd.St) (hol : st.op.length ≤ 10000) (hsc : Sc w b st) :
    Calls Try.prog 95 #[.pointer (some ⟨b, 0, none⟩), .int .u8 60] w (ScPost w b (Wd.bodyP st 60)) := by
  obtain ⟨want, op, items⟩ := st
  obtain ⟨v, hh, hown⟩ := id hsc
  simp only at hh hown hol
  have c0 := row_cell (j := 0) hh rfl
  have c2 := row_cell (j := 2) hh rfl
  have f0 := frozen_of_row _ b 0 _ _ hh
  have f2 := frozen_of_row _ b 2 _ _ hh
  have HS := hide hsc
  have HH := hide hh
  have HO := hide hown
  clear hh hown hsc
  have e : Wd.bodyP ⟨want, op, items⟩ 60 = some ⟨want, op, items⟩ := by simp [Wd.bodyP]
  rw [e]
  clear e
  go_enter Try.func95, Try.ntmps95
  go_wp2
  go_ret
  exact ⟨Below.refl _ _, rfl, HS.out⟩

theorem inBody_c62 (w : World) (b : Nat) (st : Wd.St) (hol : st.op.length ≤ 10000) (hsc : Sc w b st) :
    Calls Try.prog 95 #[.pointer (some ⟨b, 0, none⟩), .int .u8 62] w (ScPost w b (Wd.bodyP st 62)) := by
  obtain ⟨want, op, items⟩ := st
  obtain ⟨v, hh, hown⟩ := id hsc
  simp only at hh hown hol
  have c0 := row_cell (j := 0) hh rfl
  have c2 := row_cell (j := 2) hh rfl
  have f0 := frozen_of_row _ b 0 _ _ hh
  have f2 := frozen_of_row _ b 2 _ _ hh
  have HS := hide hsc
  have HH := hide hh
  have HO := hide hown
  clear hh hown hsc
  have e : Wd.bodyP ⟨want, op, items⟩ 62 = some ⟨want, op, items⟩ := by simp [Wd.bodyP]
  rw [e]
  clear e
  go_enter Try.func95, Try.ntmps95
  go_wp2
  go_ret
  exact ⟨Below.refl _ _, rfl, HS.out⟩

theorem inBody_c122 (w : World) (b : Nat) (st : Wd.St) (hol : st.op.length ≤ 10000) (hsc : Sc w b st) :
    Calls Try.prog 95 #[.pointer (some ⟨b, 0, none⟩), .int .u8 122] w (ScPost w b (Wd.bodyP st 122)) := by
  obtain ⟨want, op, items⟩ := st
  obtain ⟨v, hh, hown⟩ := id hsc
  simp only at hh hown hol
  have c0 := row_cell (j := 0) hh rfl
  have c2 := row_cell (j := 2) hh rfl
  have f0 := frozen_of_row _ b 0 _ _ hh
  have f2 := frozen_of_row _ b 2 _ _ hh
  have HS := hide hsc
  have HH := hide hh
  have HO := hide hown
  clear hh hown hsc
  have e : Wd.bodyP ⟨want, op, items⟩ 122 = some ⟨want, op, items⟩ := by simp [Wd.bodyP]
  rw [e]
  clear e
  go_enter Try.func95, Try.ntmps95
  go_wp2
  go_ret
  exact ⟨Below.refl _ _, rfl, HS.out⟩

theorem inBody_c40 (w : World) (b : Nat) (st : Wd.St) (hol : st.op.length ≤ 10000) (hsc : Sc w b st) :
    Calls Try.prog 95 #[.pointer (some ⟨b, 0, none⟩), .int .u8 40] w (ScPost w b (Wd.bodyP st 40)) := by
  obtain ⟨want, op, items⟩ := st
  obtain ⟨v, hh, hown⟩ := id hsc
  simp only at hh hown hol
  have c0 := row_cell (j := 0) hh rfl
  have c2 := row_cell (j := 2) hh rfl
  have f0 := frozen_of_row _ b 0 _ _ hh
  have f2 := frozen_of_row _ b 2 _ _ hh
  have HS := hide hsc
  have HH := hide hh
  have HO := hide hown
  clear hh hown hsc
  have e : Wd.bodyP ⟨want, op, items⟩ 40 = some ⟨want, op ++ [40], items⟩ := by simp [Wd.bodyP]
  rw [e]
  clear e
  obtain ⟨i0, hi, hz0, hz1, hz2⟩ := info_parts Try.info5
  go_enter Try.func95, Try.ntmps95
  go_wp2_with (at_builtin; refine wpList_append_own _ rfl _ _ 30 rfl (b + 1) 5 i0 (.int .u8 0) 1 1 Try.underlying30 hi hz0 hz1 hz2 rfl (by decide) _ _ _ rfl (HO.out.alloc _) ⟨_, 0, none⟩ 1 1 [.int .u8 40] rfl rfl (cell_one_new _ _ _) (fun x hx => by simp at hx; subst hx; rfl) (by unfold maxLen; omega) (by omega) (by have := HS.out.lt; simp; omega) ?_; intro v' w3 hown' hgrow3 hnil3; obtain ⟨g, cap, rfl, hbg, hgs, hnc, hcap, hcells⟩ := own_pos hown'; have k2 := row_cell (j := 2) (grown_row HO.out hgrow3 HH.out) rfl; have e2 := frozen_of_row _ b 2 _ _ (grown_row HO.out hgrow3 HH.out); have HG := hide hgrow3; have HW := hide hown'; clear hcells hnil3 hgrow3 hown')
  go_ret
  refine ⟨below_set (grown_below HO.out HG.out HS.out.lt) _, rfl, ?_⟩
  refine Sc.setOpen (st := ⟨want, op, items⟩) (grown_row HO.out HG.out HH.out) ?_
  have := HW.out
  simpa [Wd.bytesV, Wd.bt] using this

theorem inBody_c91 (w : World) (b : Nat) (st : Wd.St) (hol : st.op.length ≤ 10000) (hsc : Sc w b st) :
    Calls Try.prog 95 #[.pointer (some ⟨b, 0, none⟩), .int .u8 91] w (ScPost w b (Wd.bodyP st 91)) := by
  obtain ⟨want, op, items⟩ := st
  obtain ⟨v, hh, hown⟩ := id hsc
  simp only at hh hown hol
  have c0 := row_cell (j := 0) hh rfl
  have c2 := row_cell (j := 2) hh rfl
  have f0 := frozen_of_row _ b 0 _ _ hh
  have f2 := frozen_of_row _ b 2 _ _ hh
  have HS := hide hsc
  have HH := hide hh
  have HO := hide hown
  clear hh hown hsc
  have e : Wd.bodyP ⟨want, op, items⟩ 91 = some ⟨want, op ++ [91], items⟩ := by simp [Wd.bodyP]
  rw [e]
  clear e
  obtain ⟨i0, hi, hz0, hz1, hz2⟩ := info_parts Try.info5
  go_enter Try.func95, Try.ntmps95
  go_wp2_with (at_builtin; refine wpList_append_own _ rfl _ _ 30 rfl (b + 1) 5 i0 (.int .u8 0) 1 1 Try.underlying30 hi hz0 hz1 hz2 rfl (by decide) _ _ _ rfl (HO.out.alloc _) ⟨_, 0, none⟩ 1 1 [.int .u8 91] rfl rfl (cell_one_new _ _ _) (fun x hx => by simp at hx; subst hx; rfl) (by unfold maxLen; omega) (by omega) (by have := HS.out.lt; simp; omega) ?_; intro v' w3 hown' hgrow3 hnil3; obtain ⟨g, cap, rfl, hbg, hgs, hnc, hcap, hcells⟩ := own_pos hown'; have k2 := row_cell (j := 2) (grown_row HO.out hgrow3 HH.out) rfl; have e2 := frozen_of_row _ b 2 _ _ (grown_row HO.out hgrow3 HH.out); have HG := hide hgrow3; have HW := hide hown'; clear hcells hnil3 hgrow3 hown')
  go_ret
  refine ⟨below_set (grown_below HO.out HG.out HS.out.lt) _, rfl, ?_⟩
  refine Sc.setOpen (st := ⟨want, op, items⟩) (grown_row HO.out HG.out HH.out) ?_
  have := HW.out
  simpa [Wd.bytesV, Wd.bt] using this

theorem inBody_c125 (w : World) (b : Nat) (st : Wd.St) (hol : st.op.length ≤ 10000) (hsc : Sc w b st) :
    Calls Try.prog 95 #[.pointer (some ⟨b, 0, none⟩), .int .u8 125] w (ScPost w b (Wd.bodyP st 125)) := by
  obtain ⟨want, op, items⟩ := st
  obtain ⟨v, hh, hown⟩ := id hsc
  simp only at hh hown hol
  have c0 := row_cell (j := 0) hh rfl
  have c2 := row_cell (j := 2) hh rfl
  have f0 := frozen_of_row _ b 0 _ _ hh
  have f2 := frozen_of_row _ b 2 _ _ hh
  have HS := hide hsc
  have HH := hide hh
  have HO := hide hown
  clear hh hown hsc
  cases hl : op.length with
  | zero =>
    have e : Wd.bodyP ⟨want, op, items⟩ 125 = some ⟨0, op, items⟩ := by simp [Wd.bodyP, hl]
    rw [e]
    clear e
    have hO := HO.out
    rw [hl] at hO
    obtain ⟨ao, cap, rfl, hnc, hcap, _, _⟩ := own_shape hO
    clear hO hl
    go_enter Try.func95, Try.ntmps95
    go_wp2
    go_ret
    exact ⟨below_set (Below.refl _ _) _, rfl, HS.out.want 0⟩
  | succ m =>
    have e : Wd.bodyP ⟨want, op, items⟩ 125 = none := by simp [Wd.bodyP, hl]
    rw [e]
    clear e
    have hO := HO.out
    rw [hl] at hO
    obtain ⟨ao, cap, rfl, hnc, hcap, _, _⟩ := own_shape hO
    clear hO
    rw [hl] at hol
    clear hl
    have hz : (((m + 1 : Nat) : Int) == 0) = false := beq_eq_false_iff_ne.2 (by omega)
    go_enter Try.func95, Try.ntmps95
    go_wp2
    go_ret
    exact ⟨below_set (Below.refl _ _) _, rfl⟩

theorem inBody_c41 (w : World) (b : Nat) (st : Wd.St) (hol : st.op.length ≤ 10000) (hsc : Sc w b st) :
    Calls Try.prog 95 #[.pointer (some ⟨b, 0, none⟩), .int .u8 41] w (ScPost w b (Wd.bodyP st 41)) := by
  obtain ⟨want, op, items⟩ := st
  obtain ⟨v, hh, hown⟩ := id hsc
  simp only at hh hown hol
  have c0 := row_cell (j := 0) hh rfl
  have c2 := row_cell (j := 2) hh rfl
  have f0 := frozen_of_row _ b 0 _ _ hh
  have f2 := frozen_of_row _ b 2 _ _ hh
  have HS := hide hsc
  have HH := hide hh
  have HO := hide hown
  clear hh hown hsc
  have HX := shut_any 124 w b ⟨want, op, items⟩ (by omega) (by omega) HS.out
  simp only at HX
  cases hq : Wd.shut op 124 with
  | none =>
    have e : Wd.bodyP ⟨want, op, items⟩ 41 = none := by simp [Wd.bodyP, hq]
    rw [e]
    clear e
    rw [hq] at HX
    have HX' := hide HX
    clear HX hq
    go_enter Try.func95, Try.ntmps95
    go_wp2_with (go_at_call 105; refine HX'.out.mono ?_; rintro e w' ⟨rfl, rfl⟩)
    go_ret
    exact ⟨Below.refl _ _, rfl⟩
  | some o =>
    have e : Wd.bodyP ⟨want, op, items⟩ 41 = some ⟨want, o, items⟩ := by simp [Wd.bodyP, hq]
    rw [e]
    clear e
    rw [hq] at HX
    have HX' := hide HX
    clear HX hq
    go_enter Try.func95, Try.ntmps95
    go_wp2_with (go_at_call 105; refine HX'.out.mono ?_; rintro e w' ⟨rfl, hsc', hbe'⟩)
    go_ret
    exact ⟨hbe', rfl, hsc'⟩

theorem inBody_c93 (w : World) (b : Nat) (st : Wd.St) (hol : st.op.length ≤ 10000) (hsc : Sc w b st) :
    Calls Try.prog 95 #[.pointer (some ⟨b, 0, none⟩), .int .u8 93] w (ScPost w b (Wd.bodyP st 93)) := by
  obtain ⟨want, op, items⟩ := st
  obtain ⟨v, hh, hown⟩ := id hsc
  simp only at hh hown hol
  have c0 := row_cell (j := 0) hh rfl
  have c2 := row_cell (j := 2) hh rfl
  have f0 := frozen_of_row _ b 0 _ _ hh
  have f2 := frozen_of_row _ b 2 _ _ hh
  have HS := hide hsc
  have HH := hide hh
  have HO := hide hown
  clear hh hown hsc
  have HX := shut_any 91 w b ⟨want, op, items⟩ (by omega) (by omega) HS.out
  simp only at HX
  cases hq : Wd.shut op 91 with
  | none =>
    have e : Wd.bodyP ⟨want, op, items⟩ 93 = none := by simp [Wd.bodyP, hq]
    rw [e]
    clear e
    rw [hq] at HX
    have HX' := hide HX
    clear HX hq
    go_enter Try.func95, Try.ntmps95
    go_wp2_with (go_at_call 105; refine HX'.out.mono ?_; rintro e w' ⟨rfl, rfl⟩)
    go_ret
    exact ⟨Below.refl _ _, rfl⟩
  | some o =>
    have e : Wd.bodyP ⟨want, op, items⟩ 93 = some ⟨want, o, items⟩ := by simp [Wd.bodyP, hq]
    rw [e]
    clear e
    rw [hq] at HX
    have HX' := hide HX
    clear HX hq
    go_enter Try.func95, Try.ntmps95
    go_wp2_with (go_at_call 105; refine HX'.out.mono ?_; rintro e w' ⟨rfl, hsc', hbe'⟩)
    go_ret
    exact ⟨hbe', rfl, hsc'⟩

theorem inBody_rest (c : Int) (w : World) (b : Nat) (st : Wd.St) (h0 : 0 ≤ c) (h1 : c ≤ 255) (m43 : c ≠ 43) (m45 : c ≠ 45) (m114 : c ≠ 114) (m119 : c ≠ 119) (m60 : c ≠ 60) (m62 : c ≠ 62) (m122 : c ≠ 122) (m40 : c ≠ 40) (m91 : c ≠ 91) (m124 : c ≠ 124) (m41 : c ≠ 41) (m93 : c ≠ 93) (m125 : c ≠ 125) (hsc : Sc w b st) :
    Calls Try.prog 95 #[.pointer (some ⟨b, 0, none⟩), .int .u8 c] w (ScPost w b (Wd.bodyP st c)) := by
  obtain ⟨want, op, items⟩ := st
  have HS := hide hsc
  clear hsc
  have n43 : (c == 43) = false := beq_eq_false_iff_ne.2 m43
  have n45 : (c == 45) = false := beq_eq_false_iff_ne.2 m45
  have n114 : (c == 114) = false := beq_eq_false_iff_ne.2 m114
  have n119 : (c == 119) = false := beq_eq_false_iff_ne.2 m119
  have n60 : (c == 60) = false := beq_eq_false_iff_ne.2 m60
  have n62 : (c == 62) = false := beq_eq_false_iff_ne.2 m62
  have n122 : (c == 122) = false := beq_eq_false_iff_ne.2 m122
  have n40 : (c == 40) = false := beq_eq_false_iff_ne.2 m40
  have n91 : (c == 91) = false := beq_eq_false_iff_ne.2 m91
  have n124 : (c == 124) = false := beq_eq_false_iff_ne.2 m124
  have n41 : (c == 41) = false := beq_eq_false_iff_ne.2 m41
  have n93 : (c == 93) = false := beq_eq_false_iff_ne.2 m93
  have n125 : (c == 125) = false := beq_eq_false_iff_ne.2 m125
  cases hu : Wd.up c
  · have e : Wd.bodyP ⟨want, op, items⟩ c = none := by simp [Wd.bodyP, hu, m43, m45, m114, m119, m60, m62, m122, m40, m91, m124, m41, m93, m125]
    rw [e]
    clear e m43 m45 m114 m119 m60 m62 m122 m40 m91 m124 m41 m93 m125
    go_enter Try.func95, Try.ntmps95
    go_wp2_with (go_at_call 80; refine (isFunction_any _ _ h0 h1).mono ?_; rintro e w' ⟨rfl, rfl⟩)
    go_ret
    exact ⟨Below.refl _ _, rfl⟩
  · have e : Wd.bodyP ⟨want, op, items⟩ c = some ⟨want, op, items⟩ := by simp [Wd.bodyP, hu, m43, m45, m114, m119, m60, m62, m122, m40, m91, m124, m41, m93, m125]
    rw [e]
    clear e m43 m45 m114 m119 m60 m62 m122 m40 m91 m124 m41 m93 m125
    go_enter Try.func95, Try.ntmps95
    go_wp2_with (go_at_call 80; refine (isFunction_any _ _ h0 h1).mono ?_; rintro e w' ⟨rfl, rfl⟩)
    go_ret
    exact ⟨Below.refl _ _, rfl, HS.out⟩

theorem inBody_c124 (w : World) (b : Nat) (st : Wd.St) (hol : st.op.length ≤ 10000) (hsc : Sc w b st) :
    Calls Try.prog 95 #[.pointer (some ⟨b, 0, none⟩), .int .u8 124] w (ScPost w b (Wd.bodyP st 124)) := by
  obtain ⟨want, op, items⟩ := st
  simp only at hol
  have HX := shut_any 40 w b ⟨want, op, items⟩ (by omega) (by omega) hsc
  simp only at HX
  have HS := hide hsc
  clear hsc
  obtain ⟨i0, hi, hz0, hz1, hz2⟩ := info_parts Try.info5
  cases hq : Wd.shut op 40 with
  | none =>
    have e : Wd.bodyP ⟨want, op, items⟩ 124 = none := by simp [Wd.bodyP, hq]
    rw [e]
    clear e
    rw [hq] at HX
    have HX' := hide HX
    clear HX hq
    go_enter Try.func95, Try.ntmps95
    go_wp2_with fail
    refine HX'.out.mono ?_
    rintro e w' ⟨rfl, rfl⟩
    obtain ⟨v, hh, hown⟩ := HS.out
    have c2 := row_cell (j := 2) hh rfl
    have f2 := frozen_of_row _ b 2 _ _ hh
    have HH := hide hh
    have HO := hide hown
    simp only at hown
    clear hh hown
    go_wp2_with (at_builtin; refine wpList_append_own _ rfl _ _ 30 rfl (b + 1) 5 i0 (.int .u8 0) 1 1 Try.underlying30 hi hz0 hz1 hz2 rfl (by decide) _ _ _ rfl (HO.out.alloc _) ⟨_, 0, none⟩ 1 1 [.int .u8 124] rfl rfl (cell_one_new _ _ _) (fun x hx => by simp at hx; subst hx; rfl) (by unfold maxLen; omega) (by omega) (by have := HS.out.lt; simp; omega) ?_; intro v' w3 hown' hgrow3 hnil3; obtain ⟨g, cap, rfl, hbg, hgs, hnc, hcap, hcells⟩ := own_pos hown'; have k2 := row_cell (j := 2) (grown_row HO.out hgrow3 HH.out) rfl; have e2 := frozen_of_row _ b 2 _ _ (grown_row HO.out hgrow3 HH.out); have HG := hide hgrow3; have HW := hide hown'; clear hcells hnil3 hgrow3 hown')
    go_ret
    exact ⟨below_set (grown_below HO.out HG.out HS.out.lt) _, rfl⟩
  | some o =>
    have e : Wd.bodyP ⟨want, op, items⟩ 124 = some ⟨want, o ++ [124], items⟩ := by simp [Wd.bodyP, hq]
    rw [e]
    clear e
    rw [hq] at HX
    have HX' := hide HX
    have hoo : o.length ≤ 10000 := by
      simp only [Wd.shut] at hq
      split at hq
      · cases hq; simp; omega
      · cases hq
    clear HX hq
    go_enter Try.func95, Try.ntmps95
    go_wp2_with fail
    refine HX'.out.mono ?_
    rintro e w' ⟨rfl, hsc', hbe'⟩
    obtain ⟨v, hh, hown⟩ := id hsc'
    have HS' := hide hsc'
    have HB' := hide hbe'
    have c2 := row_cell (j := 2) hh rfl
    have f2 := frozen_of_row _ b 2 _ _ hh
    have HH := hide hh
    have HO := hide hown
    simp only at hown
    clear hh hown hsc' hbe'
    go_wp2_with (at_builtin; refine wpList_append_own _ rfl _ _ 30 rfl (b + 1) 5 i0 (.int .u8 0) 1 1 Try.underlying30 hi hz0 hz1 hz2 rfl (by decide) _ _ _ rfl (HO.out.alloc _) ⟨_, 0, none⟩ 1 1 [.int .u8 124] rfl rfl (cell_one_new _ _ _) (fun x hx => by simp at hx; subst hx; rfl) (by unfold maxLen; omega) (by omega) (by have := HS'.out.lt; simp; omega) ?_; intro v' w3 hown' hgrow3 hnil3; obtain ⟨g, cap, rfl, hbg, hgs, hnc, hcap, hcells⟩ := own_pos hown'; have k2 := row_cell (j := 2) (grown_row HO.out hgrow3 HH.out) rfl; have e2 := frozen_of_row _ b 2 _ _ (grown_row HO.out hgrow3 HH.out); have HG := hide hgrow3; have HW := hide hown'; clear hcells hnil3 hgrow3 hown')
    go_ret
    refine ⟨below_set (HB'.out.trans (grown_below HO.out HG.out HS'.out.lt)) _, rfl, ?_⟩
    refine Sc.setOpen (st := ⟨want, o, items⟩) (grown_row HO.out HG.out HH.out) ?_
    have := HW.out
    simpa [Wd.bytesV, Wd.bt] using this

theorem inBody_any (c : Int) (w : World) (b : Nat) (st : Wd.St) (h0 : 0 ≤ c) (h1 : c ≤ 255) (hol : st.op.length ≤ 10000) (hsc : Sc w b st) :
    Calls Try.prog 95 #[.pointer (some ⟨b, 0, none⟩), .int .u8 c] w (ScPost w b (Wd.bodyP st c)) := by
  by_cases b43 : c = 43
  · subst b43; exact inBody_c43 w b st hol hsc
  by_cases b45 : c = 45
  · subst b45; exact inBody_c45 w b st hol hsc
  by_cases b114 : c = 114
  · subst b114; exact inBody_c114 w b st hol hsc
  by_cases b119 : c = 119
  · subst b119; exact inBody_c119 w b st hol hsc
  by_cases b60 : c = 60
  · subst b60; exact inBody_c60 w b st hol hsc
  by_cases b62 : c = 62
  · subst b62; exact inBody_c62 w b st hol hsc
  by_cases b122 : c = 122
  · subst b122; exact inBody_c122 w b st hol hsc
  by_cases b40 : c = 40
  · subst b40; exact inBody_c40 w b st hol hsc
  by_cases b91 : c = 91
  · subst b91; exact inBody_c91 w b st hol hsc
  by_cases b124 : c = 124
  · subst b124; exact inBody_c124 w b st hol hsc
  by_cases b41 : c = 41
  · subst b41; exact inBody_c41 w b st hol hsc
  by_cases b93 : c = 93
  · subst b93; exact inBody_c93 w b st hol hsc
  by_cases b125 : c = 125
  · subst b125; exact inBody_c125 w b st hol hsc
  exact inBody_rest c w b st h0 h1 b43 b45 b114 b119 b60 b62 b122 b40 b91 b124 b41 b93 b125 hsc
end Go.Proofs.Ytecmfdkhcffpmab
