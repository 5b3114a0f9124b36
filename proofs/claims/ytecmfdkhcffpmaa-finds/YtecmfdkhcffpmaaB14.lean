/- RefG, Pure4, RefH. -/
import Derived.Test.YtecmfdkhcffpmaaB05
import Derived.Test.YtecmfdkhcffpmaaB13
import Derived.BigRegion
/- Contracts of the document's 'calls' and 'round'. -/
namespace Go.Proofs.Ytecmfdkhcffpmaa
open Go.RowKit
set_option linter.unusedSimpArgs false
set_option linter.unusedVariables false
set_option maxHeartbeats 400000

theorem Try.i48 : (Try.prog.info? 107).map (·.size) = some 64 := by kernel_rfl

set_option maxHeartbeats 1000000 in
theorem calls_any (s : ByteArray) (w : World) (hs : s.size ≤ 10000) :
    Calls Try.prog 79 #[.string s] w fun e w' => e = .returned (.agg (Wd.arr64 (Wd.callsTo s.data.toList 8))) ∧ Below w.heap.size w w' := by
  go_enter Try.func79, Try.ntmps79
  go_wp2
  go_loopw [4] (fun a wr => ∃ (f : Nat), f ≤ 8 ∧ a = .int .i64 f ∧ wr.heap[w.heap.size]? = some (.cells (Wd.arr64 (fun _ => false)) 107 (0, 0)) ∧ wr.heap[w.heap.size + 1]? = some (.cells (Wd.arr64 (Wd.callsTo s.data.toList f)) 107 (0, 0)) ∧ Below w.heap.size w wr) (fun a _ => 8 - (intOf a).toNat)
  case atStart =>
    refine ⟨0, by omega, rfl, ?_, ?_, ((Below.refl _ _).alloc (Nat.le_refl _) _).alloc (by simp) _⟩
    · rw [heap_alloc2_old]; rfl
    · rw [heap_alloc2_new]; rfl
  case round =>
    obtain ⟨f, hk, rfl, hA, hO, hbe⟩ := hrel
    have HA := hide hA
    have HO := hide hO
    have HB := hide hbe
    clear hA hO hbe
    by_cases hlt : f < 8
    · cases hq : Wd.head s.data.toList (65 + (f : Int)) with
      | none =>
        have Q : Hid (Wd.toInt (Wd.head s.data.toList (65 + (f : Int))) = -1) := by rw [hq]; rfl
        have Q2 : Hid (∀ g, Wd.calls s.data.toList f g = false) := by
          apply hide; intro g; simp [Wd.calls, hq]
        clear hq
        go_wp2_with (go_at_call 77; refine (head_any _ _ _ (by omega) (by omega) (by omega)).mono ?_; rw [Q.out]; rintro e w' ⟨rfl, rfl⟩)
        go_roundw
        case rel =>
          refine ⟨f + 1, by omega, by go_num, HA.out, ?_, HB.out⟩
          rw [HO.out]
          congr 2
          apply Wd.arr64_congr
          intro j hj
          by_cases e : j / 8 = f
          · simp [Wd.callsTo, e, Q2.out]
          · by_cases e2 : j / 8 < f
            · simp [Wd.callsTo, e2, show j / 8 < f + 1 by omega]
            · simp [Wd.callsTo, e2, show ¬ j / 8 < f + 1 by omega]
        case measure => simp [intOf]; omega
      | some i =>
        have Q : Hid (Wd.toInt (Wd.head s.data.toList (65 + (f : Int))) = (i : Int)) := by rw [hq]; rfl
        have Q2 : Hid (∀ g, Wd.calls s.data.toList f g = Wd.callRow (Wd.body s.data.toList i) g) := by
          apply hide; intro g; simp [Wd.calls, hq]
        have hi : i + 2 ≤ s.size := by have := (Wd.head_some hq).1; rw [Wd.len_str] at this; omega
        clear hq
        go_wp2_with (go_at_call 77; refine (head_any _ _ _ (by omega) (by omega) (by omega)).mono ?_; rw [Q.out]; rintro e w' ⟨rfl, rfl⟩)
        refine (body_any s i _ (by omega) hi).mono ?_
        rintro e w1 ⟨t, rfl, ht, hts, rfl⟩
        have HT := hide ht
        clear ht
        go_wp2_with fail
        go_loopw [7] (fun a wx => ∃ (k : Nat), k ≤ t.size ∧ a = .int .i64 k ∧ wx.heap[w.heap.size]? = some (.cells (Wd.arr64 (fun _ => false)) 107 (0, 0)) ∧ wx.heap[w.heap.size + 1]? = some (.cells (Wd.arr64 (Wd.callsIn s.data.toList t.data.toList f k)) 107 (0, 0)) ∧ Below w.heap.size w wx) (fun a _ => t.size - (intOf a).toNat)
        case atStart =>
          refine ⟨0, by omega, rfl, HA.out, ?_, HB.out⟩
          rw [HO.out]
          congr 2
          apply Wd.arr64_congr
          intro j hj
          by_cases e : j / 8 = f
          · simp [Wd.callsIn, Wd.callsTo, e, Wd.callRow]
          · simp [Wd.callsIn, e]
        case round =>
          clear HA HO HB
          obtain ⟨k, hkk, rfl, hA, hO, hbe⟩ := hrel
          have HA := hide hA
          have HO := hide hO
          have HB := hide hbe
          clear hA hO hbe
          by_cases hkl : k < t.size
          · have b0 := Wd.at_lo t.data.toList k
            have b1 := Wd.at_hi t.data.toList k
            rw [← Wd.at_str t k hkl] at b0 b1
            cases hu : Wd.up ((t[k].toNat : Nat) : Int)
            · go_wp2_with (go_at_call 73; refine (upper_any _ _ b0 b1).mono ?_; rintro e w' ⟨rfl, rfl⟩)
              go_roundw
              case rel =>
                refine ⟨k + 1, by omega, by go_num, HA.out, ?_, HB.out⟩
                rw [HO.out]
                congr 2
                apply Wd.arr64_congr
                intro j hj
                by_cases e : j / 8 = f
                · simp [Wd.up] at hu
                  simp only [Wd.callsIn, e, if_true, Wd.callRow_snoc t k _ hkl]
                  have : (((t[k].toNat : Nat) : Int) == 65 + ((j % 8 : Nat) : Int)) = false := by
                    rw [beq_eq_false_iff_ne]; intro h; omega
                  rw [this]; simp
                · simp [Wd.callsIn, e]
              case measure => simp [intOf]; omega
            · have hu' := hu
              simp [Wd.up] at hu'
              have c1 := row_cell HO.out (Wd.arr64_at _ (f * 8 + (t[k].toNat - 65)) (by omega))
              have c2 := frozen_of_row _ (w.heap.size + 1) (f * 8 + (t[k].toNat - 65)) _ _ HO.out
              go_wp2_with (go_at_call 73; refine (upper_any _ _ b0 b1).mono ?_; rintro e w' ⟨rfl, rfl⟩)
              go_region
              go_wp2
              go_roundw
              case rel =>
                refine ⟨k + 1, by omega, by go_num, ?_, ?_, ?_⟩
                · rw [heap_drew, heap_setCell_other _ _ _ _ (by simp)]; exact HA.out
                · rw [heap_drew, heap_setCell_same _ _ _ _ _ _ HO.out, Wd.arr64_set _ _ _ (by omega)]
                  congr 2
                  apply Wd.arr64_congr
                  intro j hj
                  by_cases e : j / 8 = f
                  · simp only [Wd.callsIn, e, if_true, Wd.callRow_snoc t k _ hkl]
                    by_cases e2 : j = f * 8 + (t[k].toNat - 65)
                    · have : (((t[k].toNat : Nat) : Int) == 65 + ((j % 8 : Nat) : Int)) = true := by
                        rw [beq_iff_eq]; omega
                      rw [this]; simp [e2]
                    · have : (((t[k].toNat : Nat) : Int) == 65 + ((j % 8 : Nat) : Int)) = false := by
                        rw [beq_eq_false_iff_ne]; intro h; omega
                      rw [this]; simp [e2]
                  · have e2 : ¬ j = f * 8 + (t[k].toNat - 65) := by omega
                    simp [Wd.callsIn, e, e2]
                · exact (HB.out.setCell (by simp) _).drew
              case measure => simp [intOf]; omega
          · go_wp2
            refine ⟨⟨f + 1, by omega, by go_num, HA.out, ?_, HB.out⟩, by simp [intOf]; omega⟩
            rw [HO.out]
            congr 2
            apply Wd.arr64_congr
            intro j hj
            have e0 : t.data.toList.take k = Wd.body s.data.toList i := by
              rw [← HT.out, List.take_of_length_le (by rw [Wd.len_str]; omega)]
            by_cases e : j / 8 = f
            · simp [Wd.callsIn, Wd.callsTo, e, e0, Q2.out]
            · by_cases e2 : j / 8 < f
              · simp [Wd.callsIn, Wd.callsTo, e, e2, show j / 8 < f + 1 by omega]
              · simp [Wd.callsIn, Wd.callsTo, e, e2, show ¬ j / 8 < f + 1 by omega]
    · go_wp2_with (first | (refine wpList_load_row rfl 107 _ rfl _ rfl 107 _ (0, 0) _ HO.out Try.underlying107 rfl (by rw [Wd.arr64_size]; exact Try.i48) ?_) | (refine wpList_store_row rfl 107 _ _ rfl _ _ rfl rfl 107 _ HA.out (by rw [Wd.arr64_size]; exact Try.i48) (by rw [Wd.arr64_size, Wd.arr64_size]) (Wd.arr64_one _) ?_))
      obtain rfl : f = 8 := by omega
      exact bodyPost_ret (v := .agg (Wd.arr64 (Wd.callsTo s.data.toList 8))) (results_cell_row Try.results79 _ _ w.heap.size 107 _ (0, 0) _ rfl (setRow_heap _ _ _ _ _ _ HA.out) Try.underlying107 rfl (by rw [Wd.arr64_size]; exact Try.i48)) rfl ⟨rfl, below_setRow HB.out (Nat.le_refl _) _⟩

set_option maxRecDepth 100000 in
set_option maxHeartbeats 1000000 in
theorem round_any (s : ByteArray) (w : World) (hs : s.size ≤ 10000) :
    Calls Try.prog 46 #[.string s] w fun e w' => e = .returned (.bool (Wd.round s.data.toList)) ∧ Below w.heap.size w w' := by
  go_enter Try.func46, Try.ntmps46
  go_wp2_with fail
  refine (calls_any s _ hs).mono ?_
  rintro e w1 ⟨rfl, hb1⟩
  have HB1 := hide hb1
  clear hb1
  go_wp2_with (refine wpList_store_row rfl 107 _ _ rfl _ _ rfl rfl 107 _ (heap_alloc_last _ _) (by rw [Wd.arr64_size]; exact Try.i48) (by rw [Wd.arr64_size]; rfl) (Wd.arr64_one _) ?_)
  rw [World.setRow_alloc_new]
  have a1 := heap_alloc_last w1 (.cells (Wd.arr64 (Wd.callsTo s.data.toList 8)) 107)
  have a2 : Below w.heap.size w (w1.alloc (.cells (Wd.arr64 (Wd.callsTo s.data.toList 8)) 107)) := HB1.out.alloc HB1.out.size _
  have a3 : w.heap.size ≤ w1.heap.size := HB1.out.size
  generalize w1.alloc (.cells (Wd.arr64 (Wd.callsTo s.data.toList 8)) 107) = W at *
  generalize w1.heap.size = N at *
  generalize hBb : Wd.callsTo s.data.toList 8 = b at *
  have HBb := hide hBb
  clear hBb
  have hRd : Wd.round s.data.toList = (Wd.first (fun i => Wd.kLoop b 8 (i * 8 + i)) 8).isSome := by rw [← HBb.out]; rfl
  have HR := hide hRd
  clear hRd HBb
  go_loopw [4] (fun a wr => ∃ (k : Nat), k ≤ 8 ∧ a = .int .i64 k ∧ wr.heap[N]? = some (.cells (Wd.arr64 (Wd.kLoop b k)) 107 (0, 0)) ∧ Below w.heap.size w wr) (fun a _ => 8 - (intOf a).toNat)
  case atStart => exact ⟨0, by omega, rfl, a1, a2⟩
  case round =>
    clear a1 a2
    obtain ⟨k, hk, rfl, hO, hbe⟩ := hrel
    have HO := hide hO
    have HB := hide hbe
    clear hO hbe
    by_cases hkl : k < 8
    · go_wp2_with fail
      go_loopw [5] (fun a wr => ∃ (i : Nat), i ≤ 8 ∧ a = .int .i64 i ∧ wr.heap[N]? = some (.cells (Wd.arr64 (Wd.iLoop (Wd.kLoop b k) k i)) 107 (0, 0)) ∧ Below w.heap.size w wr) (fun a _ => 8 - (intOf a).toNat)
      case atStart => exact ⟨0, by omega, rfl, HO.out, HB.out⟩
      case round =>
        clear HO HB
        obtain ⟨i, hi, rfl, hO, hbe⟩ := hrel
        have HO := hide hO
        have HB := hide hbe
        clear hO hbe
        by_cases hil : i < 8
        · go_wp2_with fail
          go_loopw [6] (fun a wr => ∃ (j : Nat), j ≤ 8 ∧ a = .int .i64 j ∧ wr.heap[N]? = some (.cells (Wd.arr64 (Wd.jLoop (Wd.iLoop (Wd.kLoop b k) k i) k i j)) 107 (0, 0)) ∧ Below w.heap.size w wr) (fun a _ => 8 - (intOf a).toNat)
          case atStart => exact ⟨0, by omega, rfl, HO.out, HB.out⟩
          case round =>
            clear HO HB
            obtain ⟨j, hj, rfl, hO, hbe⟩ := hrel
            by_cases hjl : j < 8
            · have HU : Hid (Wd.jLoop (Wd.iLoop (Wd.kLoop b k) k i) k i (j + 1) = Wd.upd (Wd.jLoop (Wd.iLoop (Wd.kLoop b k) k i) k i j) k i j) := rfl
              generalize Wd.jLoop (Wd.iLoop (Wd.kLoop b k) k i) k i j = B at *
              have c1 := row_cell hO (Wd.arr64_at B (i * 8 + j) (by omega))
              have c2 := row_cell hO (Wd.arr64_at B (i * 8 + k) (by omega))
              have c3 := row_cell hO (Wd.arr64_at B (k * 8 + j) (by omega))
              have c4 := frozen_of_row _ N (i * 8 + j) _ _ hO
              have HO := hide hO
              have HB := hide hbe
              clear hO hbe
              have key : ∀ v : Bool, v = (B (i * 8 + j) || (B (i * 8 + k) && B (k * 8 + j))) → (Wd.arr64 B).setIfInBounds (i * 8 + j) (.bool v) = Wd.arr64 (Wd.upd B k i j) := by
                intro v hv
                rw [Wd.arr64_set _ _ _ (by omega)]
                apply Wd.arr64_congr
                intro x hx
                by_cases e : x = i * 8 + j
                · subst e; simp [Wd.upd, hv]
                · simp [Wd.upd, e]
              have KEY := hide key
              clear key
              cases h1 : B (i * 8 + j)
              · cases h2 : B (i * 8 + k)
                · rw [h1] at c1; rw [h2] at c2
                  have H1 := hide h1
                  have H2 := hide h2
                  clear h1 h2 c3
                  go_wp2_with fail
                  go_region
                  go_wp2
                  go_roundw
                  case rel => exact ⟨j + 1, by omega, by go_num, by rw [HU.out, heap_drew, heap_setCell_same _ _ _ _ _ _ HO.out, KEY.out _ (by simp [H1.out, H2.out])], (HB.out.setCell a3 _).drew⟩
                  case measure => simp [intOf]; omega
                · rw [h1] at c1; rw [h2] at c2
                  have H1 := hide h1
                  have H2 := hide h2
                  clear h1 h2
                  go_wp2_with fail
                  go_region
                  go_wp2
                  go_roundw
                  case rel => exact ⟨j + 1, by omega, by go_num, by rw [HU.out, heap_drew, heap_setCell_same _ _ _ _ _ _ HO.out, KEY.out _ (by simp [H1.out, H2.out])], (HB.out.setCell a3 _).drew⟩
                  case measure => simp [intOf]; omega
              · rw [h1] at c1
                have H1 := hide h1
                clear h1 c2 c3
                go_wp2_with fail
                go_region
                go_wp2
                go_roundw
                case rel => exact ⟨j + 1, by omega, by go_num, by rw [HU.out, heap_drew, heap_setCell_same _ _ _ _ _ _ HO.out, KEY.out _ (by simp [H1.out])], (HB.out.setCell a3 _).drew⟩
                case measure => simp [intOf]; omega
            · go_wp2_with fail
              refine ⟨⟨i + 1, by omega, by go_num, ?_, hbe⟩, by simp [intOf]; omega⟩
              obtain rfl : j = 8 := by omega
              exact hO
        · go_wp2_with fail
          refine ⟨⟨k + 1, by omega, by go_num, ?_, HB.out⟩, by simp [intOf]; omega⟩
          obtain rfl : i = 8 := by omega
          exact HO.out
    · obtain rfl : k = 8 := by omega
      go_wp2_with fail
      go_loop [7] (fun a => ∃ (i : Nat), i ≤ 8 ∧ a = .int .i64 i ∧ ∀ x, x < i → Wd.kLoop b 8 (x * 8 + x) = false) (fun a => 8 - (intOf a).toNat)
      case atStart => exact ⟨0, by omega, rfl, fun x hx => by omega⟩
      case round =>
        obtain ⟨i, hi, rfl, hno⟩ := hrel
        have HN := hide hno
        clear hno
        by_cases hil : i < 8
        · have c1 := row_cell HO.out (Wd.arr64_at _ (i * 8 + i) (by omega))
          cases h1 : Wd.kLoop b 8 (i * 8 + i)
          · rw [h1] at c1
            have H1 := hide h1
            clear h1
            go_wp2
            go_round
            case rel => exact ⟨i + 1, by omega, by go_num, fun x hx => by
              by_cases e : x = i
              · subst e; exact H1.out
              · exact HN.out x (by omega)⟩
            case measure => simp [intOf]; omega
          · rw [h1] at c1
            have H1 := hide h1
            clear h1
            go_wp2
            go_ret
            exact ⟨by rw [HR.out, Wd.first_yes hil H1.out HN.out]; rfl, HB.out⟩
        · go_wp2
          go_ret
          exact ⟨by rw [HR.out, Wd.first_no (fun x hx => HN.out x (by omega))]; rfl, HB.out⟩
end Go.Proofs.Ytecmfdkhcffpmaa
/- The plain functions, more: where the threads and handlers begin; the document's answer to Check. -/
namespace Go.Proofs.Ytecmfdkhcffpmaa
open Go.RowKit
set_option linter.unusedSimpArgs false
set_option linter.unusedVariables false
namespace Wd
def startP (l : List UInt8) (i : Nat) : Bool := heads l i && (at_ l i == 116 || at_ l i == 104)
def startsTo (l : List UInt8) (k : Nat) : List Nat := (List.range k).filter (startP l)
def starts (l : List UInt8) : List Nat := startsTo l l.length
theorem startsTo_yes {l : List UInt8} {k : Nat} (h : startP l k = true) : startsTo l (k + 1) = startsTo l k ++ [k] := by
  simp [startsTo, List.range_succ, List.filter_append, h]
theorem startsTo_no {l : List UInt8} {k : Nat} (h : startP l k = false) : startsTo l (k + 1) = startsTo l k := by
  simp [startsTo, List.range_succ, List.filter_append, h]
theorem startsTo_len (l : List UInt8) (k : Nat) : (startsTo l k).length ≤ k := by
  have := List.length_filter_le (startP l) (List.range k)
  simpa [startsTo] using this
theorem starts_mem {l : List UInt8} {i : Nat} (h : i ∈ starts l) : i + 1 < l.length := by
  simp [starts, startsTo, startP, heads] at h
  exact h.2.1.1
/-- The numbers of the threads and handlers in memory. -/
def intsV (l : List Nat) : List Value := l.map fun (i : Nat) => Value.int .i64 (i : Int)
/-- The number of the first thread or handler that is too long, unfolded. -/
def bigR (l : List UInt8) : Option Nat := first (fun k => decide (300 < size (body l ((starts l).getD k 0)) (sizesN l 8))) (starts l).length
/-- The document's answer to Check: the error and the place. -/
def checkR (l : List UInt8) : Int × Int :=
  if 240 < l.length then (1, 0)
  else match place l with
    | some i => (2, (i : Int))
    | none => match misnamed l with
      | some i => (3, (i : Int))
      | none => if round l = true then (4, 0) else match bigR l with
        | some i => (5, (i : Int))
        | none => (0, 0)
theorem checkR_long {l : List UInt8} (h : 240 < l.length) : checkR l = (1, 0) := by simp [checkR, h]
theorem checkR_text {l : List UInt8} (h : ¬ 240 < l.length) {i : Nat} (h1 : place l = some i) : checkR l = (2, (i : Int)) := by simp only [checkR, if_neg h, h1]
theorem checkR_name {l : List UInt8} (h : ¬ 240 < l.length) {i : Nat} (h1 : place l = none) (h2 : misnamed l = some i) : checkR l = (3, (i : Int)) := by simp only [checkR, if_neg h, h1, h2]
theorem checkR_round {l : List UInt8} (h : ¬ 240 < l.length) (h1 : place l = none) (h2 : misnamed l = none) (h3 : round l = true) : checkR l = (4, 0) := by simp only [checkR, if_neg h, h1, h2, if_pos h3]
theorem checkR_big {l : List UInt8} (h : ¬ 240 < l.length) (h1 : place l = none) (h2 : misnamed l = none) (h3 : round l = false) {i : Nat} (h4 : bigR l = some i) : checkR l = (5, (i : Int)) := by simp [checkR, if_neg h, h1, h2, h3, h4]
theorem checkR_ok {l : List UInt8} (h : ¬ 240 < l.length) (h1 : place l = none) (h2 : misnamed l = none) (h3 : round l = false) (h4 : bigR l = none) : checkR l = (0, 0) := by simp [checkR, if_neg h, h1, h2, h3, h4]
end Wd
end Go.Proofs.Ytecmfdkhcffpmaa
/- Contracts of the document's 'starts' and 'Check'. -/
namespace Go.Proofs.Ytecmfdkhcffpmaa
open Go.RowKit
set_option linter.unusedSimpArgs false
set_option linter.unusedVariables false
set_option maxHeartbeats 400000

theorem Try.info3 : (Try.prog.info? 3).map (fun i => (i.zero, i.size, i.bytes)) = some (some (.int .i64 0), 1, 8) := by kernel_rfl

theorem startP_of (s : ByteArray) (k : Nat) (h : k < s.size) : Wd.startP s.data.toList k = (Wd.heads s.data.toList k && ((((s[k].toNat : Nat) : Int) == 116) || (((s[k].toNat : Nat) : Int) == 104))) := by
  rw [Wd.at_str s k h]; rfl

set_option maxHeartbeats 1000000 in
theorem starts_any (s : ByteArray) (w : World) (hs : s.size ≤ 10000) :
    Calls Try.prog 48 #[.string s] w fun e w' => ∃ v, e = .returned v ∧ w'.ownsRow w.heap.size 3 1 v (Wd.starts s.data.toList).length (Wd.intsV (Wd.starts s.data.toList)) ∧ Below w.heap.size w w' := by
  have HL := hide (Wd.len_str s)
  obtain ⟨i0, hi, hz0, hz1, hz2⟩ := info_parts Try.info3
  go_enter Try.func48, Try.ntmps48
  go_wp2
  go_loopw [3, 4] (fun a b wr => ∃ k : Nat, k ≤ s.size ∧ b = .int .i64 k ∧ wr.ownsRow w.heap.size 3 1 a (Wd.startsTo s.data.toList k).length (Wd.intsV (Wd.startsTo s.data.toList k)) ∧ Below w.heap.size w wr) (fun _ b _ => s.size - (intOf b).toNat)
  case atStart => exact ⟨0, Nat.zero_le _, rfl, World.ownsRow_nil _ _ _ _, Below.refl _ _⟩
  case round =>
    obtain ⟨k, hk, rfl, hown, hbe⟩ := hrel
    by_cases hlt : k < s.size
    · have HP := hide (startP_of s k hlt)
      have hln := Wd.startsTo_len s.data.toList k
      have HO := hide hown
      have HB := hide hbe
      clear hown hbe
      cases hh : Wd.heads s.data.toList k
      · go_wp2_with (go_at_call 78; refine (heads_any _ _ _ (by omega) (by omega)).mono ?_; rintro e w' ⟨rfl, rfl⟩)
        go_roundw
        case rel => exact ⟨k + 1, by omega, by go_num, by rw [Wd.startsTo_no (by rw [HP.out, hh]; rfl)]; exact HO.out, HB.out⟩
        case measure => simp [intOf]; omega
      · cases ht : (((s[k].toNat : Nat) : Int) == 116)
        · cases h4 : (((s[k].toNat : Nat) : Int) == 104)
          · go_wp2_with (go_at_call 78; refine (heads_any _ _ _ (by omega) (by omega)).mono ?_; rintro e w' ⟨rfl, rfl⟩)
            go_roundw
            case rel => exact ⟨k + 1, by omega, by go_num, by rw [Wd.startsTo_no (by rw [HP.out, hh, ht, h4]; rfl)]; exact HO.out, HB.out⟩
            case measure => simp [intOf]; omega
          · go_wp2_with (first | (go_at_call 78; refine (heads_any _ _ _ (by omega) (by omega)).mono ?_; rintro e w' ⟨rfl, rfl⟩) | (at_builtin; refine wpList_append_own _ rfl _ _ 64 rfl w.heap.size 3 i0 (.int .i64 0) 1 8 Try.underlying64 hi hz0 hz1 hz2 rfl (by decide) _ _ _ rfl (HO.out.alloc _) ⟨_, 0, none⟩ 1 1 [.int .i64 (k : Int)] rfl rfl (cell_one_new _ _ _) (fun x hx => by simp at hx; subst hx; rfl) (by unfold maxLen; omega) (by omega) (by have := HB.out.size; simp; omega) ?_; intro v' w3 hown' hgrow3 hnil3))
            refine ⟨⟨k + 1, by omega, by go_num, ?_, ?_⟩, by simp [intOf]; omega⟩
            · rw [Wd.startsTo_yes (by rw [HP.out, hh, ht, h4]; rfl)]
              simpa [Wd.intsV] using hown'
            · exact (HB.out.alloc HB.out.size _).grown hgrow3 (by have := HB.out.size; simp; omega) (fun b hb => (HO.out.lt b hb).1)
        · go_wp2_with (first | (go_at_call 78; refine (heads_any _ _ _ (by omega) (by omega)).mono ?_; rintro e w' ⟨rfl, rfl⟩) | (at_builtin; refine wpList_append_own _ rfl _ _ 64 rfl w.heap.size 3 i0 (.int .i64 0) 1 8 Try.underlying64 hi hz0 hz1 hz2 rfl (by decide) _ _ _ rfl (HO.out.alloc _) ⟨_, 0, none⟩ 1 1 [.int .i64 (k : Int)] rfl rfl (cell_one_new _ _ _) (fun x hx => by simp at hx; subst hx; rfl) (by unfold maxLen; omega) (by omega) (by have := HB.out.size; simp; omega) ?_; intro v' w3 hown' hgrow3 hnil3))
          refine ⟨⟨k + 1, by omega, by go_num, ?_, ?_⟩, by simp [intOf]; omega⟩
          · rw [Wd.startsTo_yes (by rw [HP.out, hh, ht]; rfl)]
            simpa [Wd.intsV] using hown'
          · exact (HB.out.alloc HB.out.size _).grown hgrow3 (by have := HB.out.size; simp; omega) (fun b hb => (HO.out.lt b hb).1)
    · go_wp2
      go_ret
      refine ⟨_, rfl, ?_, hbe⟩
      obtain rfl : k = s.size := by omega
      rw [Wd.starts, HL.out]
      exact hown
end Go.Proofs.Ytecmfdkhcffpmaa
