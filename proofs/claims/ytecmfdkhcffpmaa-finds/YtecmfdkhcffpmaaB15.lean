/- RefI, SrcA. -/
import Derived.Test.YtecmfdkhcffpmaaB14
import Derived.Test.YtecmfdkhcffpmaaB02
/- Contract of the document's 'Check'. -/
namespace Go.Proofs.Ytecmfdkhcffpmaa
open Go.RowKit
set_option linter.unusedSimpArgs false
set_option linter.unusedVariables false
set_option maxHeartbeats 400000

theorem own_shape {w : World} {base : Nat} {e : TypeId} {v : Value} {n : Nat} {xs : List Value} (h : w.ownsRow base e 1 v n xs) :
    ∃ ao cap, v = .slice ao n cap ∧ n ≤ cap ∧ cap ≤ maxLen ∧ xs.length = n ∧ (∀ j u, xs[j]? = some u → ∃ g, ao = some ⟨g, 0, none⟩ ∧ w.cell? ⟨g, j, none⟩ = some u ∧ base ≤ g ∧ g < w.heap.size) := by
  obtain ⟨hl, h2⟩ := h
  rcases h2 with ⟨rfl, rfl⟩ | ⟨g, cap, cur, rfl, hg, hh, hn, hm, hs, ht⟩
  · refine ⟨none, 0, rfl, by omega, by unfold maxLen; omega, by simpa using hl, ?_⟩
    intro j u hj
    have hx : xs = [] := by simpa using hl
    subst hx
    simp at hj
  · refine ⟨some ⟨g, 0, none⟩, cap, rfl, hn, hm, by simpa using hl, ?_⟩
    intro j u hj
    refine ⟨g, rfl, ?_, hg, row_lt hh⟩
    rw [cell_of_row w g j cur e (0, 0) hh]
    have hj' : j < xs.length := (List.getElem?_eq_some_iff.1 hj).1
    have hjn : j < n := by have : xs.length = n := by simpa using hl
                           omega
    rw [← ht] at hj
    simp [hjn] at hj
    exact hj

set_option maxRecDepth 100000 in
set_option maxHeartbeats 2000000 in
theorem checkR_any (s : ByteArray) (w : World) (hs : s.size ≤ maxLen) :
    Calls Try.prog 15 #[.string s] w fun e w' => e = .returned (.tuple #[.int .i64 (Wd.checkR s.data.toList).1, .int .i64 (Wd.checkR s.data.toList).2]) ∧ Below w.heap.size w w' := by
  unfold maxLen at hs
  by_cases hbig : 240 < s.size
  · have HC := hide (Wd.checkR_long (l := s.data.toList) (by rw [Wd.len_str]; exact hbig))
    go_enter Try.func15, Try.ntmps15
    go_wp2
    go_ret2
    exact ⟨by rw [HC.out]; rfl, Below.refl _ _⟩
  · have hl : ¬ 240 < s.data.toList.length := by rw [Wd.len_str]; exact hbig
    have HL := hide hl
    clear hl
    go_enter Try.func15, Try.ntmps15
    go_wp2_with fail
    refine (place_any s _ (by omega)).mono ?_
    cases hp : Wd.place s.data.toList with
    | some i =>
      rintro e w1 ⟨rfl, hb1⟩
      have HB1 := hide hb1
      have HC := hide (Wd.checkR_text HL.out hp)
      clear hb1 hp
      simp only [Wd.toInt]
      go_wp2_with fail
      go_ret2
      exact ⟨by rw [HC.out]; rfl, HB1.out⟩
    | none =>
      rintro e w1 ⟨rfl, hb1⟩
      have HB1 := hide hb1
      have HP1 := hide hp
      clear hb1 hp
      simp only [Wd.toInt]
      go_wp2_with fail
      refine (misnamed_any s _ (by omega)).mono ?_
      cases hp : Wd.misnamed s.data.toList with
      | some i =>
        rintro e w2 ⟨rfl, rfl⟩
        have HC := hide (Wd.checkR_name HL.out HP1.out hp)
        clear hp
        simp only [Wd.toInt]
        go_wp2_with fail
        go_ret2
        exact ⟨by rw [HC.out]; rfl, HB1.out⟩
      | none =>
        rintro e w2 ⟨rfl, rfl⟩
        have HP2 := hide hp
        clear hp
        simp only [Wd.toInt]
        go_wp2_with fail
        refine (round_any s _ (by omega)).mono ?_
        cases hp : Wd.round s.data.toList with
        | true =>
          rintro e w3 ⟨rfl, hb3⟩
          have HB3 := hide hb3
          have HC := hide (Wd.checkR_round HL.out HP1.out HP2.out hp)
          clear hb3 hp
          go_wp2_with fail
          go_ret2
          exact ⟨by rw [HC.out]; rfl, HB1.out.trans (HB3.out.mono HB1.out.size)⟩
        | false =>
          rintro e w3 ⟨rfl, hb3⟩
          have HB3 := hide (HB1.out.trans (hb3.mono HB1.out.size))
          have HP3 := hide hp
          clear hb3 HB1 hp
          go_wp2_with fail
          refine (sizes_any s _ (by omega)).mono ?_
          rintro e w4 ⟨rfl, hb4⟩
          have HB4 := hide (HB3.out.trans (hb4.mono HB3.out.size))
          clear hb4 HB3
          go_wp2_with (refine wpList_store_row rfl 75 _ _ rfl _ _ rfl rfl 75 _ (heap_alloc_last _ _) Try.i33 rfl (Wd.arr8_one _) ?_)
          rw [World.setRow_alloc_new]
          go_wp2_with fail
          have a1 := hide (heap_alloc_last w4 (.cells (Wd.arr8 (Wd.sizesN s.data.toList 8)) 75))
          have a2 : Hid (Below w.heap.size w (w4.alloc (.cells (Wd.arr8 (Wd.sizesN s.data.toList 8)) 75))) := HB4.out.alloc HB4.out.size _
          generalize w4.alloc (.cells (Wd.arr8 (Wd.sizesN s.data.toList 8)) 75) = W at *
          generalize w4.heap.size = N at *
          clear HB4
          refine (starts_any s _ (by omega)).mono ?_
          rintro e w5 ⟨v, rfl, hown, hb5⟩
          obtain ⟨ao, cap, rfl, hnc, hcap, hlen, hcell⟩ := own_shape hown
          have A1 := hide (below_row hb5 a1.out)
          have A2 := hide (a2.out.trans (hb5.mono a2.out.size))
          have HCL := hide hcell
          have hln := Wd.startsTo_len s.data.toList s.data.toList.length
          rw [show Wd.startsTo s.data.toList s.data.toList.length = Wd.starts s.data.toList from rfl, Wd.len_str] at hln
          have HBR := hide (show Wd.bigR s.data.toList = Wd.first _ _ from rfl)
          unfold maxLen at hcap
          clear a1 a2 hown hb5 hcell hlen
          generalize hn : (Wd.starts s.data.toList).length = n at *
          have HN := hide hn
          clear hn
          go_wp2_with fail
          go_loopw [8] (fun a wr => ∃ k : Nat, k ≤ n ∧ a = .int .i64 k ∧ Below w5.heap.size w5 wr ∧ (∀ j, j < k → decide (300 < Wd.size (Wd.body s.data.toList ((Wd.starts s.data.toList).getD j 0)) (Wd.sizesN s.data.toList 8)) = false)) (fun a _ => n - (intOf a).toNat)
          case atStart => exact ⟨0, by omega, rfl, Below.refl _ _, fun j hj => by omega⟩
          case round =>
            obtain ⟨k, hk, rfl, hbe, hno⟩ := hrel
            have HB := hide hbe
            have HNO := hide hno
            clear hbe hno
            by_cases hkl : k < n
            · have hget : (Wd.starts s.data.toList)[k]? = some ((Wd.starts s.data.toList).getD k 0) := by
                rw [List.getD_eq_getElem?_getD, List.getElem?_eq_getElem (by rw [HN.out]; exact hkl)]; rfl
              obtain ⟨g, rfl, hc1, hg1, hg2⟩ := HCL.out k (.int .i64 (((Wd.starts s.data.toList).getD k 0 : Nat) : Int)) (by simp only [Wd.intsV, List.getElem?_map, hget]; rfl)
              have hst : (Wd.starts s.data.toList).getD k 0 + 2 ≤ s.size := by
                have := Wd.starts_mem (List.mem_of_getElem? hget)
                rw [Wd.len_str] at this; omega
              generalize hx : (Wd.starts s.data.toList).getD k 0 = x at *
              have HX := hide hx
              have c1 := (HB.out.cell (p := ⟨g, k, none⟩) hg2).trans hc1
              have HO := hide (below_row HB.out A1.out)
              clear hx hc1 hget
              go_wp2_with fail
              refine (body_any s x _ (by omega) hst).mono ?_
              rintro e w6 ⟨t, rfl, ht, hts, rfl⟩
              have HT := hide ht
              clear ht
              go_wp2_with (refine wpList_load_row rfl 75 _ rfl _ rfl 75 _ (0, 0) _ HO.out Try.underlying75 rfl Try.i33 ?_)
              refine (size_any t _ _ (by omega) (Wd.sizesN_bd _ 8)).mono ?_
              rw [HT.out]
              rintro e w7 ⟨rfl, hb7⟩
              have HB7 := hide (HB.out.trans (hb7.mono HB.out.size))
              clear hb7 c1
              generalize hz : Wd.size (Wd.body s.data.toList x) (Wd.sizesN s.data.toList 8) = z
              have HZ := hide hz
              clear hz
              by_cases hg : 300 < z
              · go_wp2_with fail
                go_ret2
                refine ⟨?_, A2.out.trans (HB7.out.mono A2.out.size)⟩
                have hb : Wd.bigR s.data.toList = some k := by
                  rw [Wd.bigR]
                  exact Wd.first_yes (by rw [HN.out]; exact hkl) (by rw [HX.out, HZ.out]; exact decide_eq_true hg) HNO.out
                rw [Wd.checkR_big HL.out HP1.out HP2.out HP3.out hb]; rfl
              · go_wp2_with fail
                go_roundw
                case rel => exact ⟨k + 1, by omega, by go_num, HB7.out, fun j hj => by
                  by_cases e : j = k
                  · subst e; rw [HX.out, HZ.out]; exact decide_eq_false (by omega)
                  · exact HNO.out j (by omega)⟩
                case measure => simp [intOf]; omega
            · go_wp2_with fail
              go_ret2
              refine ⟨?_, A2.out.trans (HB.out.mono A2.out.size)⟩
              have hb : Wd.bigR s.data.toList = none := by
                rw [Wd.bigR]
                exact Wd.first_no (fun j hj => HNO.out j (by rw [HN.out] at hj; omega))
              rw [Wd.checkR_ok HL.out HP1.out HP2.out HP3.out hb]; rfl
end Go.Proofs.Ytecmfdkhcffpmaa
/- Contracts of the program's reader of the form: the scanner's small methods. -/
namespace Go.Proofs.Ytecmfdkhcffpmaa
open Go.RowKit
set_option linter.unusedSimpArgs false
set_option linter.unusedVariables false
set_option maxHeartbeats 400000

/-- The scanner in block b: what it wants, how many items, what is open (in a row of its own, above b). -/
def Sc (w : World) (b : Nat) (st : Wd.St) : Prop := ∃ v, w.heap[b]? = some (.cells #[.int .i64 st.want, .int .i64 st.items, v] 197 (0, 0)) ∧ w.ownsRow (b + 1) 5 1 v st.op.length (Wd.bytesV st.op)

theorem Sc.want {w : World} {b : Nat} {st : Wd.St} (h : Sc w b st) (x : Int) : Sc (w.setCell ⟨b, 0, none⟩ (.int .i64 x)) b ⟨x, st.op, st.items⟩ := by
  obtain ⟨v, h1, h2⟩ := h
  exact ⟨v, by rw [heap_setCell_same _ _ _ _ _ _ h1]; rfl, ownsRow_setCell_below h2 (by simp) _⟩
theorem Sc.items {w : World} {b : Nat} {st : Wd.St} (h : Sc w b st) (x : Nat) : Sc (w.setCell ⟨b, 1, none⟩ (.int .i64 (x : Int))) b ⟨st.want, st.op, x⟩ := by
  obtain ⟨v, h1, h2⟩ := h
  exact ⟨v, by rw [heap_setCell_same _ _ _ _ _ _ h1]; rfl, ownsRow_setCell_below h2 (by simp) _⟩
theorem Sc.setOpen {w : World} {b : Nat} {st : Wd.St} {v v' : Value} {o : List UInt8} (h1 : w.heap[b]? = some (.cells #[.int .i64 st.want, .int .i64 st.items, v] 197 (0, 0))) (h2 : w.ownsRow (b + 1) 5 1 v' o.length (Wd.bytesV o)) : Sc (w.setCell ⟨b, 2, none⟩ v') b ⟨st.want, o, st.items⟩ :=
  ⟨v', by rw [heap_setCell_same _ _ _ _ _ _ h1]; rfl, ownsRow_setCell_below h2 (by simp) _⟩
theorem Sc.draw {w : World} {b : Nat} {st : Wd.St} (h : Sc w b st) : Sc w.drew b st := h
theorem Sc.lt {w : World} {b : Nat} {st : Wd.St} (h : Sc w b st) : b < w.heap.size := by
  obtain ⟨v, h1, h2⟩ := h; exact row_lt h1

theorem below_set {b o : Nat} {w0 w : World} (h : Below b w0 w) (v : Value) : Below b w0 (w.setCell ⟨b, o, none⟩ v) := h.setCell (p := ⟨b, o, none⟩) (Nat.le_refl _) v

/-- What a method of the scanner leaves: the next state and yes, or no; below its block nothing has turned. -/
def ScPost (w : World) (b : Nat) (r : Option Wd.St) (e : Ending) (w' : World) : Prop :=
  Below b w w' ∧ (match r with | some st' => e = .returned (.bool true) ∧ Sc w' b st' | none => e = .returned (.bool false))

theorem takeItem_any (c : Int) (w : World) (b : Nat) (st : Wd.St) (hw : st.want = 0) (hi : st.items ≤ 8) (h0 : 0 ≤ c) (h1 : c ≤ 255) (hsc : Sc w b st) :
    Calls Try.prog 157 #[.pointer (some ⟨b, 0, none⟩), .int .u8 c] w (ScPost w b (Wd.stepP st c)) := by
  obtain ⟨want, op, items⟩ := st
  simp only at hw hi
  subst hw
  obtain ⟨v, hh, hown⟩ := id hsc
  have c0 := row_cell (j := 0) hh rfl
  have c1 := row_cell (j := 1) hh rfl
  have f0 := frozen_of_row _ b 0 _ _ hh
  have f1 := frozen_of_row _ b 1 _ _ hh
  simp only at c0 c1
  have HS := hide hsc
  clear hh hown hsc
  by_cases h8 : items < 8
  · cases ht : (c == 116)
    · cases h4 : (c == 104)
      · cases hu : Wd.up c
        · have e : Hid (Wd.stepP ⟨0, op, items⟩ c = none) := by simp at ht h4; simp [Hid, Wd.stepP, ht, h4, hu]
          go_enter Try.func157, Try.ntmps157
          go_wp2_with (go_at_call 135; refine (isFunction_any _ _ h0 h1).mono ?_; rintro e w' ⟨rfl, rfl⟩)
          go_ret
          rw [e.out]
          exact ⟨below_set (below_set (Below.refl _ _) _) _, rfl⟩
        · have e : Hid (Wd.stepP ⟨0, op, items⟩ c = some ⟨1, op, items + 1⟩) := by simp [Hid, Wd.stepP, h8, hu]
          go_enter Try.func157, Try.ntmps157
          go_wp2_with (go_at_call 135; refine (isFunction_any _ _ h0 h1).mono ?_; rintro e w' ⟨rfl, rfl⟩)
          go_ret
          rw [e.out]
          exact ⟨below_set (below_set (Below.refl _ _) _) _, rfl, (HS.out.items (items + 1)).want 1⟩
      · have e : Hid (Wd.stepP ⟨0, op, items⟩ c = some ⟨1, op, items + 1⟩) := by simp at h4; simp [Hid, Wd.stepP, h8, h4]
        go_enter Try.func157, Try.ntmps157
        go_wp2_with (go_at_call 135; refine (isFunction_any _ _ h0 h1).mono ?_; rintro e w' ⟨rfl, rfl⟩)
        go_ret
        rw [e.out]
        exact ⟨below_set (below_set (Below.refl _ _) _) _, rfl, (HS.out.items (items + 1)).want 1⟩
    · have e : Hid (Wd.stepP ⟨0, op, items⟩ c = some ⟨1, op, items + 1⟩) := by simp at ht; simp [Hid, Wd.stepP, h8, ht]
      go_enter Try.func157, Try.ntmps157
      go_wp2_with (go_at_call 135; refine (isFunction_any _ _ h0 h1).mono ?_; rintro e w' ⟨rfl, rfl⟩)
      go_ret
      rw [e.out]
      exact ⟨below_set (below_set (Below.refl _ _) _) _, rfl, (HS.out.items (items + 1)).want 1⟩
  · have e : Hid (Wd.stepP ⟨0, op, items⟩ c = none) := by simp [Hid, Wd.stepP, h8]
    go_enter Try.func157, Try.ntmps157
    go_wp2
    go_ret
    rw [e.out]
    exact ⟨Below.refl _ _, rfl⟩

theorem own_pos {w : World} {base : Nat} {e : TypeId} {v : Value} {m : Nat} {xs : List Value} (h : w.ownsRow base e 1 v (m + 1) xs) :
    ∃ g cap, v = .slice (some ⟨g, 0, none⟩) (m + 1) cap ∧ base ≤ g ∧ g < w.heap.size ∧ m + 1 ≤ cap ∧ cap ≤ maxLen ∧ (∀ j, j < m + 1 → w.cell? ⟨g, j, none⟩ = xs[j]?) := by
  obtain ⟨hl, h2⟩ := id h
  rcases h2 with ⟨_, h0⟩ | ⟨g, cap, cur, rfl, hg, hh, hn, hm, hs, ht⟩
  · omega
  · exact ⟨g, cap, rfl, hg, row_lt hh, hn, hm, fun j hj => h.cellAt j (by omega)⟩

theorem pop_bytes {w : World} {base g cap m : Nat} {o : List UInt8} (hm : o.length = m + 1) (h : w.ownsRow base 5 1 (.slice (some ⟨g, 0, none⟩) (m + 1) cap) (m + 1) (Wd.bytesV o)) :
    w.ownsRow base 5 1 (.slice (some ⟨g, 0, none⟩) m cap) (o.take m).length (Wd.bytesV (o.take m)) := by
  have e : (o.take m).length = m := by simp; omega
  rw [e]
  apply ownsRow_pop (last := Wd.bytesV (o.drop m))
  · rw [Wd.bytesV_len, e]; omega
  · have : Wd.bytesV (o.take m) ++ Wd.bytesV (o.drop m) = Wd.bytesV o := by rw [Wd.bytesV, Wd.bytesV, ← List.map_append, List.take_append_drop]; rfl
    rw [this]; exact h

/-- What 'shut' leaves: what is open, one less, and yes; or no, and all as it was. -/
def ShPost (w : World) (b : Nat) (st : Wd.St) (r : Option (List UInt8)) (e : Ending) (w' : World) : Prop :=
  match r with
  | some o => e = .returned (.bool true) ∧ Sc w' b ⟨st.want, o, st.items⟩ ∧ Below b w w'
  | none => e = .returned (.bool false) ∧ w' = w

theorem shut_any (c : Int) (w : World) (b : Nat) (st : Wd.St) (h0 : 0 ≤ c) (h1 : c ≤ 255) (hsc : Sc w b st) :
    Calls Try.prog 171 #[.pointer (some ⟨b, 0, none⟩), .int .u8 c] w (ShPost w b st (Wd.shut st.op c)) := by
  obtain ⟨want, op, items⟩ := st
  obtain ⟨v, hh, hown⟩ := id hsc
  simp only at hh hown
  cases hlen : op.length with
  | zero =>
    have e : Hid (Wd.shut op c = none) := by simp [Hid, Wd.shut, hlen]
    rw [hlen] at hown
    obtain ⟨ao, cap, rfl, hnc, hcap, _, _⟩ := own_shape hown
    have c2 := row_cell (j := 2) hh rfl
    clear hh hown hsc
    go_enter Try.func171, Try.ntmps171
    go_wp2
    go_ret
    rw [e.out]
    exact ⟨rfl, rfl⟩
  | succ m =>
    rw [hlen] at hown
    obtain ⟨g, cap, rfl, hbg, hgs, hnc, hcap, hcells⟩ := own_pos hown
    have c2 := row_cell (j := 2) hh rfl
    have f2 := frozen_of_row _ b 2 _ _ hh
    have cm := (hcells m (by omega)).trans (Wd.bytesV_at op m (by omega))
    have b0 := Wd.at_lo op m
    have b1 := Wd.at_hi op m
    have HL := hide hlen
    have HH := hide hh
    have HO := hide hown
    unfold maxLen at hcap
    clear hh hown hsc hcells hlen
    have HX := hide (show Wd.at_ op m = Wd.at_ op m from rfl)
    have e : Hid (Wd.shut op c = if Wd.at_ op m = c then some (op.take m) else none) := by simp [Hid, Wd.shut, HL.out]
    generalize Wd.at_ op m = x at *
    clear HX
    cases hc : (x != c)
    · have hxc : x = c := by simpa using hc
      have E : Hid (Wd.shut op c = some (op.take m)) := by rw [e.out, if_pos hxc]; rfl
      clear e hxc
      go_enter Try.func171, Try.ntmps171
      go_wp2
      go_ret
      rw [E.out]
      exact ⟨rfl, Sc.setOpen (st := ⟨want, op, items⟩) HH.out (pop_bytes HL.out HO.out), below_set (Below.refl _ _) _⟩
    · have hxc : ¬ x = c := by simpa using hc
      have E : Hid (Wd.shut op c = none) := by rw [e.out, if_neg hxc]; rfl
      clear e hxc
      go_enter Try.func171, Try.ntmps171
      go_wp2
      go_ret
      rw [E.out]
      exact ⟨rfl, rfl⟩
end Go.Proofs.Ytecmfdkhcffpmaa
