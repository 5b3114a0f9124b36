/- ProgB, ProgC, ProgD. -/
import Derived.Test.YtecmfdkhcffpmabB21
/- Contracts of the program's steps: sets of locks. -/
namespace Go.Proofs.Ytecmfdkhcffpmab
open Go.RowKit
set_option linter.unusedSimpArgs false
set_option linter.unusedVariables false
set_option maxHeartbeats 8000000
open Mc

/-- A set of locks in memory. -/
abbrev heldA (h : Nat) : Array Value := #[.bool (h.testBit 0), .bool (h.testBit 1), .bool (h.testBit 2), .bool (h.testBit 3), .bool (h.testBit 4), .bool (h.testBit 5)]

set_option maxRecDepth 100000 in
theorem has_any (h : Nat) (l : Int) (w : World) (h0 : -1000 ≤ l) (h1 : l ≤ 1000) :
    Calls Try.prog 76 #[.agg #[.bool (h.testBit 0), .bool (h.testBit 1), .bool (h.testBit 2), .bool (h.testBit 3), .bool (h.testBit 4), .bool (h.testBit 5)], .int .i64 l] w fun e w' => e = .returned (.bool (hasB h l)) ∧ Below w.heap.size w w' := by
  by_cases hlo : l < 0
  · have e : hasB h l = false := by simp [hasB]; omega
    rw [e]
    clear e
    go_enter Try.func76, Try.ntmps76
    go_wp2
    all_goals first | (exfalso; omega) | (go_ret; exact ⟨rfl, (Below.refl _ _).alloc (Nat.le_refl _) _⟩)
  by_cases hhi : 6 ≤ l
  · have e : hasB h l = false := by simp [hasB]; omega
    rw [e]
    clear e
    go_enter Try.func76, Try.ntmps76
    go_wp2
    all_goals first | (exfalso; omega) | (go_ret; exact ⟨rfl, (Below.refl _ _).alloc (Nat.le_refl _) _⟩)
  have hc : l = 0 ∨ l = 1 ∨ l = 2 ∨ l = 3 ∨ l = 4 ∨ l = 5 := by omega
  clear hlo hhi h0 h1
  rcases hc with rfl | rfl | rfl | rfl | rfl | rfl
  all_goals (
    go_enter Try.func76, Try.ntmps76
    go_wp2
    go_ret
    exact ⟨ret_bool (by simp [hasB, holds]), (Below.refl _ _).alloc (Nat.le_refl _) _⟩)

theorem zero_bits : ∀ h, h < 64 → ((!h.testBit 0 && !h.testBit 1 && !h.testBit 2 && !h.testBit 3 && !h.testBit 4 && !h.testBit 5) = (h == 0)) := by decide

theorem eq_held (b0 b1 b2 b3 b4 b5 : Bool) (w : World) : (Op.equalIn 10000 98 (.agg #[.bool b0, .bool b1, .bool b2, .bool b3, .bool b4, .bool b5]) (.agg #[.bool false, .bool false, .bool false, .bool false, .bool false, .bool false])).run Try.prog w = .ok (!(b0 || b1 || b2 || b3 || b4 || b5)) w := by
  cases b0 <;> cases b1 <;> cases b2 <;> cases b3 <;> cases b4 <;> cases b5 <;> kernel_rfl

set_option maxRecDepth 100000 in
theorem empty_any (h : Nat) (w : World) (hh : h < 64) :
    Calls Try.prog 101 #[.agg #[.bool (h.testBit 0), .bool (h.testBit 1), .bool (h.testBit 2), .bool (h.testBit 3), .bool (h.testBit 4), .bool (h.testBit 5)]] w fun e w' => e = .returned (.bool (h == 0)) ∧ Below w.heap.size w w' := by
  have HZ := hide (zero_bits h hh)
  generalize h.testBit 0 = b0 at *
  generalize h.testBit 1 = b1 at *
  generalize h.testBit 2 = b2 at *
  generalize h.testBit 3 = b3 at *
  generalize h.testBit 4 = b4 at *
  generalize h.testBit 5 = b5 at *
  have heq := fun w => eq_held b0 b1 b2 b3 b4 b5 w
  go_enter Try.func101, Try.ntmps101
  go_wp2
  go_ret
  exact ⟨ret_bool (by rw [HZ.out]), (Below.refl _ _).alloc (Nat.le_refl _) _⟩

theorem Try.iHeld : (Try.prog.info? 98).map (·.size) = some 6 := by kernel_rfl
set_option maxRecDepth 100000 in
theorem heldPut_any (b0 b1 b2 b3 b4 b5 v : Bool) (l : Nat) (w : World) (hl : l < 6) :
    Calls Try.prog 93 #[.agg #[.bool b0, .bool b1, .bool b2, .bool b3, .bool b4, .bool b5], .int .i64 l, .bool v] w fun e w' => e = .returned (.agg #[.bool (if l = 0 then v else b0), .bool (if l = 1 then v else b1), .bool (if l = 2 then v else b2), .bool (if l = 3 then v else b3), .bool (if l = 4 then v else b4), .bool (if l = 5 then v else b5)]) ∧ Below w.heap.size w w' := by
  have hc : l = 0 ∨ l = 1 ∨ l = 2 ∨ l = 3 ∨ l = 4 ∨ l = 5 := by omega
  rcases hc with rfl | rfl | rfl | rfl | rfl | rfl
  · go_enter Try.func93, Try.ntmps93
    go_wp2
    exact bodyPost_ret (v := .agg #[.bool v, .bool b1, .bool b2, .bool b3, .bool b4, .bool b5]) (results_cell_row Try.results93 _ _ (w.heap.size + 1) 98 #[.bool v, .bool b1, .bool b2, .bool b3, .bool b4, .bool b5] (0, 0) _ rfl (heap_alloc2_new _ _ _) Try.underlying98 rfl Try.iHeld) rfl ⟨rfl, ((Below.refl _ _).alloc (Nat.le_refl _) _).alloc (by simp) _⟩
  · go_enter Try.func93, Try.ntmps93
    go_wp2
    exact bodyPost_ret (v := .agg #[.bool b0, .bool v, .bool b2, .bool b3, .bool b4, .bool b5]) (results_cell_row Try.results93 _ _ (w.heap.size + 1) 98 #[.bool b0, .bool v, .bool b2, .bool b3, .bool b4, .bool b5] (0, 0) _ rfl (heap_alloc2_new _ _ _) Try.underlying98 rfl Try.iHeld) rfl ⟨rfl, ((Below.refl _ _).alloc (Nat.le_refl _) _).alloc (by simp) _⟩
  · go_enter Try.func93, Try.ntmps93
    go_wp2
    exact bodyPost_ret (v := .agg #[.bool b0, .bool b1, .bool v, .bool b3, .bool b4, .bool b5]) (results_cell_row Try.results93 _ _ (w.heap.size + 1) 98 #[.bool b0, .bool b1, .bool v, .bool b3, .bool b4, .bool b5] (0, 0) _ rfl (heap_alloc2_new _ _ _) Try.underlying98 rfl Try.iHeld) rfl ⟨rfl, ((Below.refl _ _).alloc (Nat.le_refl _) _).alloc (by simp) _⟩
  · go_enter Try.func93, Try.ntmps93
    go_wp2
    exact bodyPost_ret (v := .agg #[.bool b0, .bool b1, .bool b2, .bool v, .bool b4, .bool b5]) (results_cell_row Try.results93 _ _ (w.heap.size + 1) 98 #[.bool b0, .bool b1, .bool b2, .bool v, .bool b4, .bool b5] (0, 0) _ rfl (heap_alloc2_new _ _ _) Try.underlying98 rfl Try.iHeld) rfl ⟨rfl, ((Below.refl _ _).alloc (Nat.le_refl _) _).alloc (by simp) _⟩
  · go_enter Try.func93, Try.ntmps93
    go_wp2
    exact bodyPost_ret (v := .agg #[.bool b0, .bool b1, .bool b2, .bool b3, .bool v, .bool b5]) (results_cell_row Try.results93 _ _ (w.heap.size + 1) 98 #[.bool b0, .bool b1, .bool b2, .bool b3, .bool v, .bool b5] (0, 0) _ rfl (heap_alloc2_new _ _ _) Try.underlying98 rfl Try.iHeld) rfl ⟨rfl, ((Below.refl _ _).alloc (Nat.le_refl _) _).alloc (by simp) _⟩
  · go_enter Try.func93, Try.ntmps93
    go_wp2
    exact bodyPost_ret (v := .agg #[.bool b0, .bool b1, .bool b2, .bool b3, .bool b4, .bool v]) (results_cell_row Try.results93 _ _ (w.heap.size + 1) 98 #[.bool b0, .bool b1, .bool b2, .bool b3, .bool b4, .bool v] (0, 0) _ rfl (heap_alloc2_new _ _ _) Try.underlying98 rfl Try.iHeld) rfl ⟨rfl, ((Below.refl _ _).alloc (Nat.le_refl _) _).alloc (by simp) _⟩
theorem bits_put : ∀ h, h < 64 → ∀ l, l < 6 → h.testBit l = false → ∀ i, i < 6 → (h + 2 ^ l).testBit i = (if l = i then true else h.testBit i) := by decide
theorem bits_cut : ∀ h, h < 64 → ∀ l, l < 6 → h.testBit l = true → ∀ i, i < 6 → (h - 2 ^ l).testBit i = (if l = i then false else h.testBit i) := by decide
end Go.Proofs.Ytecmfdkhcffpmab
/- Contracts of the program's steps: what stands at a place. -/
namespace Go.Proofs.Ytecmfdkhcffpmab
open Go.RowKit
set_option linter.unusedSimpArgs false
set_option linter.unusedVariables false
set_option maxHeartbeats 8000000
open Mc

set_option maxRecDepth 100000 in
theorem codeAt_any (hd : Bool) (s : ByteArray) (la : Option Addr) (ln lc p : Nat) (w : World) (hs : s.size ≤ 10000) (hp : p ≤ 20000) :
    Calls Try.prog 75 #[.agg #[.bool hd, .string s, .slice la ln lc], .int .i64 p] w fun e w' => e = .returned (.int .u8 (atB s.data.toList p)) ∧ Below w.heap.size w w' := by
  by_cases h : p < s.size
  · rw [atB_in s p h]
    go_enter Try.func75, Try.ntmps75
    go_wp2
    all_goals first | (exfalso; omega) | (go_ret; exact ⟨rfl, (Below.refl _ _).alloc (Nat.le_refl _) _⟩)
  · rw [atB_out s p h]
    go_enter Try.func75, Try.ntmps75
    go_wp2
    all_goals first | (exfalso; omega) | (go_ret; exact ⟨rfl, (Below.refl _ _).alloc (Nat.le_refl _) _⟩)
set_option maxRecDepth 100000 in
theorem codeNumber_any (hd : Bool) (s : ByteArray) (la : Option Addr) (ln lc p : Nat) (w : World) (hs : s.size ≤ 10000) (hp : p ≤ 20000) (hok : PairOK s.data.toList) :
    Calls Try.prog 74 #[.agg #[.bool hd, .string s, .slice la ln lc], .int .i64 p] w fun e w' => e = .returned (.int .i64 (numP s.data.toList p)) ∧ Below w.heap.size w w' := by
  by_cases h : p + 1 < s.size
  · have hp' : p < s.size := by omega
    have hk := hok p (by rw [Wd.len_str]; exact hp')
    rw [Wd.len_str, ← Wd.at_str s p hp', ← Wd.at_str s (p + 1) h] at hk
    have e0 : atB s.data.toList p = ((s[p].toNat : Nat) : Int) := atB_in s p hp'
    have en : num s.data.toList p = if 97 ≤ ((s[p + 1].toNat : Nat) : Int) then ((s[p + 1].toNat : Nat) : Int) - 97 else ((s[p + 1].toNat : Nat) : Int) - 48 := by
      rw [num, Wd.len_str, if_pos h, ← Wd.at_str s (p + 1) h]
    have hb := Wd.at_lo s.data.toList (p + 1)
    have hb2 := Wd.at_hi s.data.toList (p + 1)
    rw [← Wd.at_str s (p + 1) h] at hb hb2
    unfold numP
    rw [e0, en]
    clear e0 en hok
    have hpi : (p : Int) + 1 < (s.size : Int) := by omega
    by_cases hv : ((s[p].toNat : Nat) : Int) = 43
    · have hz := hk.1 (by rw [hv]; decide)
      have hif : (((s[p + 1].toNat : Nat) : Int) - 97) = (if 97 ≤ ((s[p + 1].toNat : Nat) : Int) then ((s[p + 1].toNat : Nat) : Int) - 97 else ((s[p + 1].toNat : Nat) : Int) - 48) := by split <;> omega
      rw [if_pos (by rw [hv]; decide), ← hif]
      have n43 : (((s[p].toNat : Nat) : Int) == 43) = true := by rw [hv]; rfl
      have n45 : (((s[p].toNat : Nat) : Int) == 45) = false := by rw [hv]; rfl
      have n114 : (((s[p].toNat : Nat) : Int) == 114) = false := by rw [hv]; rfl
      have n119 : (((s[p].toNat : Nat) : Int) == 119) = false := by rw [hv]; rfl
      have hw : IntKind.i64.wrap (((s[p + 1].toNat : Nat) : Int) - 97) = ((s[p + 1].toNat : Nat) : Int) - 97 := by rw [IntKind.wrap_i64]; omega
      clear hif hv hk
      go_enter Try.func74, Try.ntmps74
      go_wp2
      all_goals first | (exfalso; omega) | (go_ret; exact ⟨rfl, (Below.refl _ _).alloc (Nat.le_refl _) _⟩)
    have n43 : (((s[p].toNat : Nat) : Int) == 43) = false := by simp; omega
    by_cases hv : ((s[p].toNat : Nat) : Int) = 45
    · have hz := hk.1 (by rw [hv]; decide)
      have hif : (((s[p + 1].toNat : Nat) : Int) - 97) = (if 97 ≤ ((s[p + 1].toNat : Nat) : Int) then ((s[p + 1].toNat : Nat) : Int) - 97 else ((s[p + 1].toNat : Nat) : Int) - 48) := by split <;> omega
      rw [if_pos (by rw [hv]; decide), ← hif]
      have n43 : (((s[p].toNat : Nat) : Int) == 43) = false := by rw [hv]; rfl
      have n45 : (((s[p].toNat : Nat) : Int) == 45) = true := by rw [hv]; rfl
      have n114 : (((s[p].toNat : Nat) : Int) == 114) = false := by rw [hv]; rfl
      have n119 : (((s[p].toNat : Nat) : Int) == 119) = false := by rw [hv]; rfl
      have hw : IntKind.i64.wrap (((s[p + 1].toNat : Nat) : Int) - 97) = ((s[p + 1].toNat : Nat) : Int) - 97 := by rw [IntKind.wrap_i64]; omega
      clear hif hv hk
      go_enter Try.func74, Try.ntmps74
      go_wp2
      all_goals first | (exfalso; omega) | (go_ret; exact ⟨rfl, (Below.refl _ _).alloc (Nat.le_refl _) _⟩)
    have n45 : (((s[p].toNat : Nat) : Int) == 45) = false := by simp; omega
    by_cases hv : ((s[p].toNat : Nat) : Int) = 114
    · have hz := hk.2 (by rw [hv]; decide)
      have hif : (((s[p + 1].toNat : Nat) : Int) - 48) = (if 97 ≤ ((s[p + 1].toNat : Nat) : Int) then ((s[p + 1].toNat : Nat) : Int) - 97 else ((s[p + 1].toNat : Nat) : Int) - 48) := by split <;> omega
      rw [if_pos (by rw [hv]; decide), ← hif]
      have n43 : (((s[p].toNat : Nat) : Int) == 43) = false := by rw [hv]; rfl
      have n45 : (((s[p].toNat : Nat) : Int) == 45) = false := by rw [hv]; rfl
      have n114 : (((s[p].toNat : Nat) : Int) == 114) = true := by rw [hv]; rfl
      have n119 : (((s[p].toNat : Nat) : Int) == 119) = false := by rw [hv]; rfl
      have hw : IntKind.i64.wrap (((s[p + 1].toNat : Nat) : Int) - 48) = ((s[p + 1].toNat : Nat) : Int) - 48 := by rw [IntKind.wrap_i64]; omega
      clear hif hv hk
      go_enter Try.func74, Try.ntmps74
      go_wp2
      all_goals first | (exfalso; omega) | (go_ret; exact ⟨rfl, (Below.refl _ _).alloc (Nat.le_refl _) _⟩)
    have n114 : (((s[p].toNat : Nat) : Int) == 114) = false := by simp; omega
    by_cases hv : ((s[p].toNat : Nat) : Int) = 119
    · have hz := hk.2 (by rw [hv]; decide)
      have hif : (((s[p + 1].toNat : Nat) : Int) - 48) = (if 97 ≤ ((s[p + 1].toNat : Nat) : Int) then ((s[p + 1].toNat : Nat) : Int) - 97 else ((s[p + 1].toNat : Nat) : Int) - 48) := by split <;> omega
      rw [if_pos (by rw [hv]; decide), ← hif]
      have n43 : (((s[p].toNat : Nat) : Int) == 43) = false := by rw [hv]; rfl
      have n45 : (((s[p].toNat : Nat) : Int) == 45) = false := by rw [hv]; rfl
      have n114 : (((s[p].toNat : Nat) : Int) == 114) = false := by rw [hv]; rfl
      have n119 : (((s[p].toNat : Nat) : Int) == 119) = true := by rw [hv]; rfl
      have hw : IntKind.i64.wrap (((s[p + 1].toNat : Nat) : Int) - 48) = ((s[p + 1].toNat : Nat) : Int) - 48 := by rw [IntKind.wrap_i64]; omega
      clear hif hv hk
      go_enter Try.func74, Try.ntmps74
      go_wp2
      all_goals first | (exfalso; omega) | (go_ret; exact ⟨rfl, (Below.refl _ _).alloc (Nat.le_refl _) _⟩)
    have n119 : (((s[p].toNat : Nat) : Int) == 119) = false := by simp; omega
    rw [if_neg (by simp at n43 n45 n114 n119; omega)]
    clear hk
    go_enter Try.func74, Try.ntmps74
    go_wp2
    all_goals first | (exfalso; omega) | (go_ret; exact ⟨rfl, (Below.refl _ _).alloc (Nat.le_refl _) _⟩)
  · have e : numP s.data.toList p = -1 := by
      unfold numP
      rw [if_neg]
      intro hc
      have hp' : p < s.data.toList.length := atB_lt (by rcases hc with e | e | e | e <;> rw [e] <;> decide)
      have hk := hok p hp'
      rw [Wd.len_str] at hk
      simp only [atB, hp', if_true] at hc
      rcases hc with e | e | e | e
      · have := (hk.1 (Or.inl e)).1; omega
      · have := (hk.1 (Or.inr e)).1; omega
      · have := (hk.2 (Or.inl e)).1; omega
      · have := (hk.2 (Or.inr e)).1; omega
    rw [e]
    clear e hok
    go_enter Try.func74, Try.ntmps74
    go_wp2
    all_goals first | (exfalso; omega) | (go_ret; exact ⟨rfl, (Below.refl _ _).alloc (Nat.le_refl _) _⟩)
end Go.Proofs.Ytecmfdkhcffpmab
/- Contracts of the program's steps: a body made ready. -/
namespace Go.Proofs.Ytecmfdkhcffpmab
open Go.RowKit
set_option linter.unusedSimpArgs false
set_option linter.unusedVariables false
set_option maxHeartbeats 8000000
open Mc

theorem row3 {w : World} {g : Nat} {t : TypeId} {a b c : Value} (h : w.heap[g]? = some (.cells #[a, b, c] t (0, 0))) (a' b' c' : Value) :
    (((w.setCell ⟨g, 0, none⟩ a').setCell ⟨g, 1, none⟩ b').setCell ⟨g, 2, none⟩ c').heap[g]? = some (.cells #[a', b', c'] t (0, 0)) :=
  heap_setCell_same _ _ _ _ _ _ (heap_setCell_same _ _ _ _ _ _ (heap_setCell_same _ _ _ _ _ _ h))
theorem Try.iCode : (Try.prog.info? 97).map (·.size) = some 3 := by kernel_rfl

set_option maxRecDepth 100000 in
theorem of_any (hd : Bool) (s : ByteArray) (w : World) (hs : s.size ≤ 1000) :
    Calls Try.prog 66 #[.agg #[.bool hd, .string s]] w fun e w' => ∃ g, e = .returned (.agg #[.bool hd, .string s, .slice (some ⟨g, 0, none⟩) s.size s.size]) ∧ w.heap.size ≤ g ∧ Blk w' g s.size (fun i => .int .i64 ((leads s.data.toList i : Nat) : Int)) ∧ Below w.heap.size w w' := by
  have AL := hide (fun W => leadsOf_any s W hs)
  go_enter Try.func66, Try.ntmps66
  go_wp2_with fail
  have HT := hide (heap_alloc2_new w (.cells #[.bool hd, .string s] 69) (.cells #[.bool false, .string ⟨#[]⟩, .slice none 0 0] 97))
  have HI := hide (heap_alloc2_old w (.cells #[.bool hd, .string s] 69) (.cells #[.bool false, .string ⟨#[]⟩, .slice none 0 0] 97))
  have HB := hide (((Below.refl _ w).alloc (Nat.le_refl _) (.cells #[.bool hd, .string s] 69)).alloc (by simp) (.cells #[.bool false, .string ⟨#[]⟩, .slice none 0 0] 97))
  generalize (w.alloc (.cells #[.bool hd, .string s] 69)).alloc (.cells #[.bool false, .string ⟨#[]⟩, .slice none 0 0] 97) = W at *
  have a0 : W.cell? ⟨w.heap.size, 0, none⟩ = some (.bool hd) := row_cell HI.out rfl
  have a1 : W.cell? ⟨w.heap.size, 1, none⟩ = some (.string s) := row_cell HI.out rfl
  have lI : w.heap.size < W.heap.size := row_lt HI.out
  go_region_held3 (fun W' => W'.cell? ⟨w.heap.size, 0, none⟩ = some (.bool hd) ∧ W'.cell? ⟨w.heap.size, 1, none⟩ = some (.string s)) (go_keep) (first | (go_at_call 84; refine (AL.out _).mono ?_; rintro e w2 ⟨g, rfl, hg, hblk, hb2⟩; have HB2 := hide (below_go ((Below.refl _ W).drew) hb2); have HBK := hide hblk; have hgl : W.heap.size ≤ g := hg; have k0 := (HB2.out.cell (p := ⟨w.heap.size, 0, none⟩) lI).trans a0; have k1 := (HB2.out.cell (p := ⟨w.heap.size, 1, none⟩) lI).trans a1; have HT2 := hide (below_row HB2.out HT.out); have z0 : w2.cell? ⟨w.heap.size + 1, 0, none⟩ = some (.bool false) := row_cell HT2.out rfl; have z1 : w2.cell? ⟨w.heap.size + 1, 1, none⟩ = some (.string ⟨#[]⟩) := row_cell HT2.out rfl; have z2 : w2.cell? ⟨w.heap.size + 1, 2, none⟩ = some (.slice none 0 0) := row_cell HT2.out rfl; have y0 := frozen_of_row w2 (w.heap.size + 1) 0 _ _ HT2.out; have y1 := frozen_of_row w2 (w.heap.size + 1) 1 _ _ HT2.out; have y2 := frozen_of_row w2 (w.heap.size + 1) 2 _ _ HT2.out; clear hblk hb2 hg))
  go_wp2
  have lT : w.heap.size + 1 < W.heap.size := row_lt HT.out
  have hsz := HB.out.size
  refine bodyPost_ret (v := .agg #[.bool hd, .string s, .slice (some ⟨g, 0, none⟩) s.size s.size]) (results_cell_row Try.results66 _ _ (w.heap.size + 1) 97 #[.bool hd, .string s, .slice (some ⟨g, 0, none⟩) s.size s.size] (0, 0) _ rfl (row3 HT2.out _ _ _) Try.underlying97 rfl Try.iCode) rfl ⟨g, rfl, by omega, HBK.out.same ?_, ?_⟩
  · rw [heap_setCell_other _ _ _ _ (by show g ≠ w.heap.size + 1; omega), heap_setCell_other _ _ _ _ (by show g ≠ w.heap.size + 1; omega), heap_setCell_other _ _ _ _ (by show g ≠ w.heap.size + 1; omega)]
  · exact (((HB.out.trans (HB2.out.mono hsz)).setCell (p := ⟨w.heap.size + 1, 0, none⟩) (by simp) _).setCell (p := ⟨w.heap.size + 1, 1, none⟩) (by simp) _).setCell (p := ⟨w.heap.size + 1, 2, none⟩) (by simp) _
end Go.Proofs.Ytecmfdkhcffpmab
