/- StI, StE. -/
import Derived.Test.YtecmfdkhcffpmabB37
import Derived.Test.YtecmfdkhcffpmabB38
import Derived.Test.YtecmfdkhcffpmabB14
import Derived.Test.YtecmfdkhcffpmabB15
import Derived.Test.YtecmfdkhcffpmabB35
/- Contracts of the program's reports: what a state takes. -/
namespace Go.Proofs.Ytecmfdkhcffpmab
open Go.RowKit
set_option linter.unusedSimpArgs false
set_option linter.unusedVariables false
set_option maxHeartbeats 8000000
open Mc

theorem heldA_bs (h : Nat) : heldA h = bsA 6 (fun i => h.testBit i) := rfl
theorem heldOr_any (a b : Nat) (w : World) : Calls Try.prog 59 #[.agg (heldA a), .agg (heldA b)] w fun e w' => e = .returned (.agg (heldA (a ||| b))) ∧ Below w.heap.size w w' := by
  rw [heldA_bs, heldA_bs, heldA_bs]
  have := heldOrB (fun i => a.testBit i) (fun i => b.testBit i) w
  simpa only [Nat.testBit_or] using this
theorem ewith_any (T : Tb) (a b : Nat) (w : World) : Calls Try.prog 58 #[.agg (tbA T), .agg (heldA a), .agg (heldA b)] w fun e w' => e = .returned (.agg (tbA (withT T a b))) ∧ Below w.heap.size w w' := by
  rw [heldA_bs, heldA_bs]
  exact withB T _ _ w
theorem heldA_one : ∀ l, l < 6 → heldA (2 ^ l) = #[.bool (if l = 0 then true else false), .bool (if l = 1 then true else false), .bool (if l = 2 then true else false), .bool (if l = 3 then true else false), .bool (if l = 4 then true else false), .bool (if l = 5 then true else false)] := by
  intro l hl
  have hc : l = 0 ∨ l = 1 ∨ l = 2 ∨ l = 3 ∨ l = 4 ∨ l = 5 := by omega
  rcases hc with rfl | rfl | rfl | rfl | rfl | rfl <;> rfl
theorem heldWith_any (l : Nat) (w : World) (hl : l < 6) : Calls Try.prog 77 #[.agg #[.bool false, .bool false, .bool false, .bool false, .bool false, .bool false], .int .i64 l] w fun e w' => e = .returned (.agg (heldA (2 ^ l))) ∧ Below w.heap.size w w' := by
  have AP := hide (fun W => heldPut_any false false false false false false true l W hl)
  rw [← heldA_one l hl] at AP
  have ZA := hide (Row.two w #[.bool false, .bool false, .bool false, .bool false, .bool false, .bool false] #[.bool false, .bool false, .bool false, .bool false, .bool false, .bool false] 98 98)
  have ZB := hide (below_two w (.cells #[.bool false, .bool false, .bool false, .bool false, .bool false, .bool false] 98) (.cells #[.bool false, .bool false, .bool false, .bool false, .bool false, .bool false] 98))
  have hl0 : (l : Int) < 6 := by omega
  rw [heldA_bs] at AP ⊢
  go_enter Try.func77, Try.ntmps77
  go_wp2_with (first | (refine wpList_store_row rfl 98 _ _ rfl (w.heap.size + 1) (bsA 6 (fun i => (2 ^ l).testBit i)) rfl rfl 98 #[.bool false, .bool false, .bool false, .bool false, .bool false, .bool false] ?_ (Try.iHeldB _) rfl (bsA_one _ _) ?_; (exact HR1.out.2.raw)) | (go_at_call 93; refine (AP.out _).mono ?_; rintro e w1 ⟨rfl, hb1⟩; have HR1 := hide (show Row w1 w.heap.size _ _ ∧ Row w1 (w.heap.size + 1) _ _ from ⟨ZA.out.1.below hb1, ZA.out.2.below hb1⟩); have HB1 := hide (below_go ZB.out hb1); clear hb1))
  exact bodyPost_ret (v := .agg (bsA 6 (fun i => (2 ^ l).testBit i))) (results_cell_row Try.results77 _ _ (w.heap.size + 1) 98 _ (0, 0) _ rfl (HR1.out.2.setRow _).raw Try.underlying98 rfl (Try.iHeldB _)) rfl ⟨rfl, below_setRow HB1.out (by omega) _⟩
/-- A reached state, by value. -/
def rcA (r : Rc) : Array Value := (rcV r).toArray
theorem rcA_size (r : Rc) : (rcA r).size = 10 := rfl
theorem rcA_one (r : Rc) : (rcA r).all (·.oneCell') = true := by simp [rcA, rcV, stA, Value.oneCell']
theorem Try.iRc (r : Rc) : (Try.prog.info? 118).map (·.size) = some (rcA r).size := by rw [rcA_size]; exact Try.iReached
theorem rcA_p (r : Rc) : (rcA r)[0]? = some (.int .i64 (r.p : Int)) := rfl
theorem rcA_off (r : Rc) : (rcA r)[7]? = some (.bool r.off) := rfl
theorem rcA_h (r : Rc) : ∀ i, i < 6 → (rcA r)[1 + i]? = some (.bool (r.h.testBit i)) := by
  intro i hi
  have hc : i = 0 ∨ i = 1 ∨ i = 2 ∨ i = 3 ∨ i = 4 ∨ i = 5 := by omega
  rcases hc with rfl | rfl | rfl | rfl | rfl | rfl <;> rfl
theorem Row.held6 {w : World} {g : Nat} {r : Rc} (h : Row w g (rcA r) 118) : ∀ i, i < 6 → w.cell? ⟨g, 1 + i, none⟩ = some (.bool (r.h.testBit i)) := fun i hi => h.cell _ (rcA_h r i hi)
theorem Row.code3 {w : World} {g : Nat} {hd : Bool} {s : ByteArray} {v3 v4 v0 : Value} (h : Row w g #[v0, .bool hd, .string s, v3, v4] 111) : w.rangeAt g 1 [.bool hd, .string s, v3] := h.range 1 _ (fun j v hj => by
  match j, hj with
  | 0, hj => cases hj; rfl
  | 1, hj => cases hj; rfl
  | 2, hj => cases hj; rfl
  | j + 3, hj => rw [List.getElem?_eq_none (by simp)] at hj; cases hj)
structure Q4 (w W : World) (hd : Bool) (s : ByteArray) (lg : Nat) (kv : Value) (r : Rc) : Prop where
  k : Row W w.heap.size #[.bool hd, .bool hd, .string s, .slice (some ⟨lg, 0, none⟩) s.size s.size, kv] 111
  r : Row W (w.heap.size + 1) (rcA r) 118
  z : Row W (w.heap.size + 2) #[.bool false, .bool false, .bool false, .bool false, .bool false, .bool false] 98
  y : Row W (w.heap.size + 3) #[.bool false, .bool false, .bool false, .bool false, .bool false, .bool false] 98
  b : Below w.heap.size w W
theorem Q4.below {w W W' : World} {hd : Bool} {s : ByteArray} {lg : Nat} {kv : Value} {r : Rc} (h : Q4 w W hd s lg kv r) (hb : Below W.heap.size W W') : Q4 w W' hd s lg kv r := ⟨h.k.below hb, h.r.below hb, h.z.below hb, h.y.below hb, below_go h.b hb⟩
theorem Q4.new (w : World) (hd : Bool) (s : ByteArray) (lg : Nat) (kv : Value) (r : Rc) : Q4 w ((((w.alloc (.cells #[.bool hd, .bool hd, .string s, .slice (some ⟨lg, 0, none⟩) s.size s.size, kv] 111)).alloc (.cells (rcA r) 118)).alloc (.cells #[.bool false, .bool false, .bool false, .bool false, .bool false, .bool false] 98)).alloc (.cells #[.bool false, .bool false, .bool false, .bool false, .bool false, .bool false] 98)) hd s lg kv r := by
  obtain ⟨a, b, c, d⟩ := Row.four w #[.bool hd, .bool hd, .string s, .slice (some ⟨lg, 0, none⟩) s.size s.size, kv] (rcA r) #[.bool false, .bool false, .bool false, .bool false, .bool false, .bool false] #[.bool false, .bool false, .bool false, .bool false, .bool false, .bool false] 111 118 98 98
  exact ⟨a, b, c, d, below_four w _ _ _ _⟩
set_option maxRecDepth 100000 in
theorem ktakes_any (hd : Bool) (s : ByteArray) (lg : Nat) (kao : Option Addr) (kn kc : Nat) (r : Rc) (w : World) (hs : s.size ≤ 300) (hp : r.p ≤ 20000) (hok : PairOK s.data.toList) :
    Calls Try.prog 57 #[.agg #[.bool hd, .bool hd, .string s, .slice (some ⟨lg, 0, none⟩) s.size s.size, .slice kao kn kc], .agg (rcA r)] w fun e w' => e = .returned (.agg (heldA (tkP s.data.toList r.p r.h))) ∧ Below w.heap.size w w' := by
  have AA := hide (fun W => codeAt_any hd s (some ⟨lg, 0, none⟩) s.size s.size r.p W (by omega) hp)
  have AN := hide (fun W => codeNumber_any hd s (some ⟨lg, 0, none⟩) s.size s.size r.p W (by omega) hp hok)
  have hn := numP_bd hok r.p
  obtain ⟨B, hB⟩ : ∃ B : Nat → Bool, B = fun i => r.h.testBit i := ⟨_, rfl⟩
  have HBH := hide hB
  clear hB
  have AH : Hid (∀ W, Calls Try.prog 76 #[.agg #[.bool (B 0), .bool (B 1), .bool (B 2), .bool (B 3), .bool (B 4), .bool (B 5)], .int .i64 (numP s.data.toList r.p)] W fun e w' => e = .returned (.bool (hasB r.h (numP s.data.toList r.p))) ∧ Below W.heap.size W w') := hide (fun W => by rw [HBH.out]; exact has_any r.h _ W (by omega) (by omega))
  have AW : Hid (∀ l : Nat, ∀ W, l < 6 → Calls Try.prog 77 #[.agg #[.bool false, .bool false, .bool false, .bool false, .bool false, .bool false], .int .i64 l] W fun e w' => e = .returned (.agg (bsA 6 (fun i => (2 ^ l).testBit i))) ∧ Below W.heap.size W w') := hide (fun l W hl => heldWith_any l W hl)
  have ZA := hide (Q4.new w hd s lg (.slice kao kn kc) r)
  have hz : Hid (heldA 0 = #[.bool false, .bool false, .bool false, .bool false, .bool false, .bool false]) := hide rfl
  have htk : Hid (tkP s.data.toList r.p r.h = if atB s.data.toList r.p = 43 ∧ hasB r.h (numP s.data.toList r.p) = false then 2 ^ (numP s.data.toList r.p).toNat else 0) := hide rfl
  have hpos : atB s.data.toList r.p = 43 → 0 ≤ numP s.data.toList r.p := fun h => by
    unfold numP
    rw [if_pos (Or.inl h)]
    have := num_lockB hok (Or.inl h)
    omega
  generalize tkP s.data.toList r.p r.h = tk at *
  have hbd := atB_bd s.data.toList r.p
  clear hok
  generalize atB s.data.toList r.p = c at *
  generalize numP s.data.toList r.p = n at *
  have x0 : ((((w.alloc (.cells #[.bool hd, .bool hd, .string s, .slice (some ⟨lg, 0, none⟩) s.size s.size, .slice kao kn kc] 111)).alloc (.cells (rcA r) 118)).alloc (.cells #[.bool false, .bool false, .bool false, .bool false, .bool false, .bool false] 98)).alloc (.cells #[.bool false, .bool false, .bool false, .bool false, .bool false, .bool false] 98)).cell? ⟨w.heap.size + 1, 0, none⟩ = some (.int .i64 (r.p : Int)) := ZA.out.r.cell 0 (rcA_p r)
  by_cases hc : c = 43
  · subst hc
    have hn0 := hpos rfl
    obtain ⟨l, hl⟩ : ∃ l : Nat, n = (l : Int) := ⟨n.toNat, by omega⟩
    subst hl
    have hl6 : l < 6 := by omega
    cases hh : hasB r.h (l : Int)
    · have HH := hide hh
      rw [hh] at AH htk
      clear hh
      have htk' : Hid (heldA tk = bsA 6 (fun i => (2 ^ l).testBit i)) := hide (by rw [htk.out, if_pos ⟨rfl, rfl⟩]; rfl)
      rw [htk'.out]
      clear htk hz hpos
      go_enter Try.func57, Try.ntmps57
      go_wp2_with (first | (go_at_call 77; refine (AW.out _ _ hl6).mono ?_; rintro e w4 ⟨rfl, hb4⟩; have HQ4 := hide (HQ3.out.below hb4); clear hb4) | (refine wpList_load_row rfl 98 _ rfl _ rfl 98 #[.bool false, .bool false, .bool false, .bool false, .bool false, .bool false] (0, 0) _ ?_ Try.underlying98 rfl Try.iHeld ?_; (exact HQ3.out.y.raw)) | (go_at_call 76; refine (AH.out _).mono ?_; rintro e w3 ⟨rfl, hb3⟩; have HQ3 := hide (HQ2.out.below hb3); clear hb3) | (go_at_call 75; refine (AA.out _).mono ?_; rintro e w2 ⟨rfl, hb2⟩; have HQ2 := hide (HQ1.out.below hb2); clear hb2; have y0 : w2.cell? ⟨w.heap.size + 1, 1, none⟩ = some (.bool (B 0)) := (by rw [HBH.out]; exact HQ2.out.r.held6 0 (by omega)); have y1 : w2.cell? ⟨w.heap.size + 1, 2, none⟩ = some (.bool (B 1)) := (by rw [HBH.out]; exact HQ2.out.r.held6 1 (by omega)); have y2 : w2.cell? ⟨w.heap.size + 1, 3, none⟩ = some (.bool (B 2)) := (by rw [HBH.out]; exact HQ2.out.r.held6 2 (by omega)); have y3 : w2.cell? ⟨w.heap.size + 1, 4, none⟩ = some (.bool (B 3)) := (by rw [HBH.out]; exact HQ2.out.r.held6 3 (by omega)); have y4 : w2.cell? ⟨w.heap.size + 1, 5, none⟩ = some (.bool (B 4)) := (by rw [HBH.out]; exact HQ2.out.r.held6 4 (by omega)); have y5 : w2.cell? ⟨w.heap.size + 1, 6, none⟩ = some (.bool (B 5)) := (by rw [HBH.out]; exact HQ2.out.r.held6 5 (by omega))) | (refine wpList_load_mid rfl 97 _ rfl _ _ rfl [.bool hd, .string s, .slice (some ⟨lg, 0, none⟩) s.size s.size] _ ?_ Try.underlying97 rfl Try.iCode ?_; (exact HQ1.out.k.code3)) | (go_at_call 74; refine (AN.out _).mono ?_; rintro e w1 ⟨rfl, hb1⟩; have HQ1 := hide (ZA.out.below hb1); clear hb1) | (refine wpList_load_mid rfl 97 _ rfl _ _ rfl [.bool hd, .string s, .slice (some ⟨lg, 0, none⟩) s.size s.size] _ ?_ Try.underlying97 rfl Try.iCode ?_; (exact ZA.out.k.code3)) | (refine wpList_store_row rfl 98 _ _ rfl (w.heap.size + 2) (bsA 6 (fun i => (2 ^ l).testBit i)) rfl rfl 98 #[.bool false, .bool false, .bool false, .bool false, .bool false, .bool false] ?_ (Try.iHeldB _) rfl (bsA_one _ _) ?_; (exact HQ4.out.z.raw)))
      exact bodyPost_ret (v := .agg (bsA 6 (fun i => (2 ^ l).testBit i))) (results_cell_row Try.results57 _ _ (w.heap.size + 2) 98 _ (0, 0) _ rfl (HQ4.out.z.setRow _).raw Try.underlying98 rfl (Try.iHeldB _)) rfl ⟨rfl, below_setRow HQ4.out.b (by omega) _⟩
    · have HH := hide hh
      rw [hh] at AH htk
      clear hh
      have htk' : Hid (heldA tk = #[.bool false, .bool false, .bool false, .bool false, .bool false, .bool false]) := hide (by rw [htk.out, if_neg (by simp)]; rfl)
      rw [htk'.out]
      clear htk hz hpos AW
      go_enter Try.func57, Try.ntmps57
      go_wp2_with (first | (refine wpList_load_row rfl 98 _ rfl _ rfl 98 #[.bool false, .bool false, .bool false, .bool false, .bool false, .bool false] (0, 0) _ ?_ Try.underlying98 rfl Try.iHeld ?_; (exact HQ3.out.y.raw)) | (go_at_call 76; refine (AH.out _).mono ?_; rintro e w3 ⟨rfl, hb3⟩; have HQ3 := hide (HQ2.out.below hb3); clear hb3) | (go_at_call 75; refine (AA.out _).mono ?_; rintro e w2 ⟨rfl, hb2⟩; have HQ2 := hide (HQ1.out.below hb2); clear hb2; have y0 : w2.cell? ⟨w.heap.size + 1, 1, none⟩ = some (.bool (B 0)) := (by rw [HBH.out]; exact HQ2.out.r.held6 0 (by omega)); have y1 : w2.cell? ⟨w.heap.size + 1, 2, none⟩ = some (.bool (B 1)) := (by rw [HBH.out]; exact HQ2.out.r.held6 1 (by omega)); have y2 : w2.cell? ⟨w.heap.size + 1, 3, none⟩ = some (.bool (B 2)) := (by rw [HBH.out]; exact HQ2.out.r.held6 2 (by omega)); have y3 : w2.cell? ⟨w.heap.size + 1, 4, none⟩ = some (.bool (B 3)) := (by rw [HBH.out]; exact HQ2.out.r.held6 3 (by omega)); have y4 : w2.cell? ⟨w.heap.size + 1, 5, none⟩ = some (.bool (B 4)) := (by rw [HBH.out]; exact HQ2.out.r.held6 4 (by omega)); have y5 : w2.cell? ⟨w.heap.size + 1, 6, none⟩ = some (.bool (B 5)) := (by rw [HBH.out]; exact HQ2.out.r.held6 5 (by omega))) | (refine wpList_load_mid rfl 97 _ rfl _ _ rfl [.bool hd, .string s, .slice (some ⟨lg, 0, none⟩) s.size s.size] _ ?_ Try.underlying97 rfl Try.iCode ?_; (exact HQ1.out.k.code3)) | (go_at_call 74; refine (AN.out _).mono ?_; rintro e w1 ⟨rfl, hb1⟩; have HQ1 := hide (ZA.out.below hb1); clear hb1) | (refine wpList_load_mid rfl 97 _ rfl _ _ rfl [.bool hd, .string s, .slice (some ⟨lg, 0, none⟩) s.size s.size] _ ?_ Try.underlying97 rfl Try.iCode ?_; (exact ZA.out.k.code3)) | (refine wpList_store_row rfl 98 _ _ rfl (w.heap.size + 2) #[.bool false, .bool false, .bool false, .bool false, .bool false, .bool false] rfl rfl 98 #[.bool false, .bool false, .bool false, .bool false, .bool false, .bool false] ?_ Try.iHeld rfl (by simp [Value.oneCell']) ?_; (exact HQ3.out.z.raw)))
      exact bodyPost_ret (v := .agg #[.bool false, .bool false, .bool false, .bool false, .bool false, .bool false]) (results_cell_row Try.results57 _ _ (w.heap.size + 2) 98 _ (0, 0) _ rfl (HQ3.out.z.setRow _).raw Try.underlying98 rfl Try.iHeld) rfl ⟨rfl, below_setRow HQ3.out.b (by omega) _⟩
  · have htk' : Hid (heldA tk = #[.bool false, .bool false, .bool false, .bool false, .bool false, .bool false]) := hide (by rw [htk.out, if_neg (fun h => hc h.1)]; rfl)
    rw [htk'.out]
    clear htk hz hpos AW AH
    go_enter Try.func57, Try.ntmps57
    go_wp2_with (first | (refine wpList_load_row rfl 98 _ rfl _ rfl 98 #[.bool false, .bool false, .bool false, .bool false, .bool false, .bool false] (0, 0) _ ?_ Try.underlying98 rfl Try.iHeld ?_; (exact HQ2.out.y.raw)) | (go_at_call 75; refine (AA.out _).mono ?_; rintro e w2 ⟨rfl, hb2⟩; have HQ2 := hide (HQ1.out.below hb2); clear hb2; have y0 : w2.cell? ⟨w.heap.size + 1, 1, none⟩ = some (.bool (B 0)) := (by rw [HBH.out]; exact HQ2.out.r.held6 0 (by omega)); have y1 : w2.cell? ⟨w.heap.size + 1, 2, none⟩ = some (.bool (B 1)) := (by rw [HBH.out]; exact HQ2.out.r.held6 1 (by omega)); have y2 : w2.cell? ⟨w.heap.size + 1, 3, none⟩ = some (.bool (B 2)) := (by rw [HBH.out]; exact HQ2.out.r.held6 2 (by omega)); have y3 : w2.cell? ⟨w.heap.size + 1, 4, none⟩ = some (.bool (B 3)) := (by rw [HBH.out]; exact HQ2.out.r.held6 3 (by omega)); have y4 : w2.cell? ⟨w.heap.size + 1, 5, none⟩ = some (.bool (B 4)) := (by rw [HBH.out]; exact HQ2.out.r.held6 4 (by omega)); have y5 : w2.cell? ⟨w.heap.size + 1, 6, none⟩ = some (.bool (B 5)) := (by rw [HBH.out]; exact HQ2.out.r.held6 5 (by omega))) | (refine wpList_load_mid rfl 97 _ rfl _ _ rfl [.bool hd, .string s, .slice (some ⟨lg, 0, none⟩) s.size s.size] _ ?_ Try.underlying97 rfl Try.iCode ?_; (exact HQ1.out.k.code3)) | (go_at_call 74; refine (AN.out _).mono ?_; rintro e w1 ⟨rfl, hb1⟩; have HQ1 := hide (ZA.out.below hb1); clear hb1) | (refine wpList_load_mid rfl 97 _ rfl _ _ rfl [.bool hd, .string s, .slice (some ⟨lg, 0, none⟩) s.size s.size] _ ?_ Try.underlying97 rfl Try.iCode ?_; (exact ZA.out.k.code3)) | (refine wpList_store_row rfl 98 _ _ rfl (w.heap.size + 2) #[.bool false, .bool false, .bool false, .bool false, .bool false, .bool false] rfl rfl 98 #[.bool false, .bool false, .bool false, .bool false, .bool false, .bool false] ?_ Try.iHeld rfl (by simp [Value.oneCell']) ?_; (exact HQ2.out.z.raw)))
    exact bodyPost_ret (v := .agg #[.bool false, .bool false, .bool false, .bool false, .bool false, .bool false]) (results_cell_row Try.results57 _ _ (w.heap.size + 2) 98 _ (0, 0) _ rfl (HQ2.out.z.setRow _).raw Try.underlying98 rfl Try.iHeld) rfl ⟨rfl, below_setRow HQ2.out.b (by omega) _⟩
end Go.Proofs.Ytecmfdkhcffpmab
/- Contracts of the program's reports: all items are looked through. -/
namespace Go.Proofs.Ytecmfdkhcffpmab
open Go.RowKit
set_option linter.unusedSimpArgs false
set_option linter.unusedVariables false
set_option maxHeartbeats 8000000
open Mc

theorem Try.infoKnown : (Try.prog.info? 111).map (fun i => (i.zero, i.size, i.bytes)) = some (some (.agg #[.bool false, .bool false, .string ⟨#[]⟩, .slice none 0 0, .slice none 0 0]), 5, 80) := by kernel_rfl
/-- What is known belongs to the items. -/
structure KnOf (its : List Wd.It) (K : List Kn) : Prop where
  len : K.length = its.length
  at_ : ∀ (i : Nat) (k : Kn), K[i]? = some k → k.hd = isH its i ∧ k.s = Wd.mkS (bodyOf its i)
def kp (k : Kn) : Kp3 := ⟨k.hd, k.s.data.toList, k.L⟩
theorem KnOf.kof {w : World} {v : Value} {its : List Wd.It} {K : List Kn} (h : KnOf its K) (ha : KnAll w v K) : KOf its (K.map kp) ∧ ∀ k ∈ K.map kp, KpOK k := by
  refine ⟨⟨by rw [List.length_map, h.len], fun i k hk => ?_⟩, fun k hk => ?_⟩
  · rw [List.getElem?_map] at hk
    cases hq : K[i]? with
    | none => rw [hq] at hk; cases hk
    | some x =>
      rw [hq] at hk
      cases hk
      obtain ⟨e1, e2⟩ := h.at_ i x hq
      refine ⟨e1, ?_, fun s => (ha.each x (List.mem_of_getElem? hq)).fin.all s⟩
      show x.s.data.toList = _
      rw [e2]; exact Wd.mkS_list _
  · obtain ⟨x, hx, rfl⟩ := List.mem_map.1 hk
    have hi := ha.each x hx
    exact ⟨fun s => hi.fin.all s, fun r hr => (hi.fin.ok hi.gb hr).1⟩
/-- While they are looked through. -/
structure LkI (w w' : World) (its : List Wd.It) (v : Value) (K : List Kn) : Prop where
  own : w'.ownsRow w.heap.size 111 5 v K.length (K.flatMap knV)
  each : ∀ k ∈ K, KnIn w' k ∧ (∀ j, k.v.ownBlock = some j → v.ownBlock ≠ some j)
  at_ : ∀ (i : Nat) (k : Kn), K[i]? = some k → k.hd = isH its i ∧ k.s = Wd.mkS (bodyOf its i)
  bel : Below w.heap.size w w'
theorem own_lt0 {w : World} {base : Nat} {t : TypeId} {n m : Nat} {v : Value} {xs : List Value} (h : w.ownsRow base t n v m xs) {j : Nat} (hj : v.ownBlock = some j) : base ≤ j ∧ j < w.heap.size := by
  rcases h.2 with ⟨rfl, _⟩ | ⟨g, cap, cur, rfl, hb, hg, _⟩
  · cases hj
  · injection hj with hj
    subst hj
    exact ⟨hb, row_lt hg⟩
theorem own_keep {w w' : World} {base : Nat} {t : TypeId} {n m : Nat} {v : Value} {xs : List Value} (h : w.ownsRow base t n v m xs) (hs : ∀ j, v.ownBlock = some j → w'.heap[j]? = w.heap[j]?) : w'.ownsRow base t n v m xs := by
  refine ⟨h.1, ?_⟩
  rcases h.2 with a | ⟨g, cap, cur, rfl, hb, hg, r⟩
  · exact .inl a
  · exact .inr ⟨g, cap, cur, rfl, hb, by rw [hs g rfl]; exact hg, r⟩
theorem LkI.push {w w1 w2 w3 w4 : World} {its : List Wd.It} {v v' : Value} {K : List Kn} {k : Kn} (h : LkI w w1 its v K) (hb12 : Below w1.heap.size w1 w2) (hin : KnIn w2 k) (hk1 : ∀ j, k.v.ownBlock = some j → w1.heap.size ≤ j) (hk2 : ∀ j, k.v.ownBlock = some j → j < w2.heap.size) (hb23 : Below w2.heap.size w2 w3) (hown : w4.ownsRow w.heap.size 111 5 v' (K ++ [k]).length ((K ++ [k]).flatMap knV)) (hbel : Below w.heap.size w3 w4) (hs : ∀ j, j < w3.heap.size → v.ownBlock ≠ some j → w4.heap[j]? = w3.heap[j]?) (hat : v'.ownBlock = v.ownBlock ∨ v'.ownBlock = some w3.heap.size) (e1 : k.hd = isH its K.length) (e2 : k.s = Wd.mkS (bodyOf its K.length)) : LkI w w4 its v' (K ++ [k]) := by
  have hz0 := h.bel.size
  have hz1 := hb12.size
  have hz2 := hb23.size
  refine ⟨hown, fun x hx => ?_, fun i x hx => ?_, ((h.bel.trans (hb12.mono (by omega))).trans (hb23.mono (by omega))).trans hbel⟩
  · have key : ∀ x : Kn, KnIn w2 x → (∀ j, x.v.ownBlock = some j → j < w2.heap.size ∧ v.ownBlock ≠ some j) → KnIn w4 x ∧ (∀ j, x.v.ownBlock = some j → v'.ownBlock ≠ some j) := by
      intro x hi hj
      refine ⟨⟨own_keep hi.own (fun j e => ?_), hi.fin, hi.gb, hi.short⟩, fun j e e' => ?_⟩
      · obtain ⟨h1, h2⟩ := hj j e
        rw [hs j (by omega) h2, hb23.block j h1]
      · obtain ⟨h1, h2⟩ := hj j e
        rcases hat with a | a
        · rw [a] at e'; exact h2 e'
        · rw [a] at e'; injection e' with e'; omega
    rcases List.mem_append.1 hx with hx | hx
    · obtain ⟨hi, hj⟩ := h.each x hx
      refine key x (hi.below hb12) (fun j e => ⟨?_, hj j e⟩)
      have := (own_lt0 hi.own e).2
      omega
    · have hx' : x = k := by simpa using hx
      subst hx'
      refine key x hin (fun j e => ⟨hk2 j e, fun e' => ?_⟩)
      have h1 := (own_lt0 h.own e').2
      have h2 := hk1 j e
      omega
  · by_cases hl : i < K.length
    · rw [List.getElem?_append_left hl] at hx
      exact h.at_ i x hx
    · rw [List.getElem?_append_right (by omega)] at hx
      have e : i - K.length = 0 := by
        by_cases e : i - K.length = 0
        · exact e
        · rw [List.getElem?_eq_none (by simp; omega)] at hx; cases hx
      rw [e] at hx
      cases hx
      have : i = K.length := by omega
      rw [this]
      exact ⟨e1, e2⟩
set_option maxRecDepth 100000 in
theorem lookThrough_ok (s : ByteArray) (w : World) (its : List Wd.It) (hs : s.size ≤ maxLen) (hread : Wd.readP s.data.toList = .ok its) :
    Calls Try.prog 42 #[.string s] w fun e w' => ∃ ao cc K, e = .returned (.tuple #[.slice ao its.length cc, .int .i64 0]) ∧ KnAll w' (.slice ao its.length cc) K ∧ KnOf its K ∧ Below w.heap.size w w' := by
  have HF := hide (fine_of hread)
  have HX := sourceUnfold_any s w hs
  rw [hread] at HX
  have HXX := hide HX
  clear HX hread
  have hlen8 := HF.out.len
  obtain ⟨i0, hj0, hz0, hz1, hz2⟩ := info_parts Try.infoKnown
  go_enter Try.func42, Try.ntmps42
  go_wp2_with (first | (go_at_call 39; refine (HXX.out).mono ?_; rintro e w1 ⟨hb1, g0, c0, rfl, hown1⟩; have HB1 := hide hb1; have HO1 := hide hown1; clear hb1 hown1))
  have HLK : Hid (LkI w (w1.alloc (.cells #[] 111)) its (.slice (some ⟨w1.heap.size, 0, none⟩) 0 0) []) := hide ⟨⟨rfl, .inr ⟨w1.heap.size, 0, #[], rfl, HB1.out.size, heap_alloc_last _ _, Nat.le_refl _, by decide, rfl, rfl⟩⟩, fun k hk => (by cases hk), fun i k hk => (by cases hk), below_new HB1.out _⟩
  have HIT : Hid (∀ k, k < its.length → w1.cell? ⟨g0, k * 2, none⟩ = some (.bool (isH its k)) ∧ w1.cell? ⟨g0, k * 2 + 1, none⟩ = some (.string (Wd.mkS (bodyOf its k))) ∧ g0 < w1.heap.size) := by
    apply hide
    intro k hk
    obtain ⟨g, cap, hv, hb, hlt, hr⟩ := own_el (f := Wd.itV) (n := 2) (L := its) (fun _ => rfl) HO1.out (i := k) (r := its[k]) (List.getElem?_eq_getElem hk)
    cases hv
    have e1 : isH its k = its[k].handler := by simp [isH, List.getD, hk]
    have e2 : bodyOf its k = its[k].body := by simp [bodyOf, List.getD, hk]
    rw [e1, e2]
    exact ⟨hr.2.2 0 _ rfl, hr.2.2 1 _ rfl, hlt⟩
  have hs1 : w.heap.size ≤ w1.heap.size := HB1.out.size
  have HW1 : Hid (Below w1.heap.size w1 (w1.alloc (.cells #[] 111))) := hide (below_one _ _)
  have hsz1 : w1.heap.size < (w1.alloc (.cells #[] 111)).heap.size := by simp
  go_loopw [6, 21] (fun a c wr => ∃ (k : Nat) (K : List Kn), k ≤ its.length ∧ K.length = k ∧ c = .int .i64 k ∧ LkI w wr its a K ∧ w1.heap.size ≤ wr.heap.size ∧ Below w1.heap.size w1 wr ∧ (∀ j, a.ownBlock = some j → w1.heap.size ≤ j)) (fun _ c _ => its.length - (intOf c).toNat)
  case atStart => exact ⟨0, [], by omega, rfl, rfl, HLK.out, by omega, HW1.out, fun j hj => by simp [Value.ownBlock] at hj; omega⟩
  case round =>
    clear HLK hsz1 HW1
    obtain ⟨k, K, hk, hKl, rfl, hlk, hsz, hbw, hnw⟩ := hrel
    subst hKl
    have HLK := hide hlk
    have HBW := hide hbw
    have HNW := hide hnw
    clear hlk hbw hnw
    obtain ⟨ao, cc, hv⟩ := own_v HLK.out.own
    subst hv
    by_cases hlt : K.length < its.length
    · obtain ⟨d0, d1, hg0⟩ := HIT.out K.length hlt
      have c0' : wr.cell? ⟨g0, K.length * 2, none⟩ = some (.bool (isH its K.length)) := by rw [HBW.out.cell (by exact hg0)]; exact d0
      have c1' : wr.cell? ⟨g0, K.length * 2 + 1, none⟩ = some (.string (Wd.mkS (bodyOf its K.length))) := by rw [HBW.out.cell (by exact hg0)]; exact d1
      have hgb := hide (HF.out.gb hlt)
      have hbl : (bodyOf its K.length).length ≤ 300 := hgb.out.short
      have AK := hide (fun W => knownOf_any (isH its K.length) (Wd.mkS (bodyOf its K.length)) W (by rw [Wd.mkS_size]; exact hbl) (by rw [Wd.mkS_list]; exact hgb.out))
      simp only [Wd.mkS_size, Wd.mkS_list] at AK
      clear d0 d1
      have hk0 : (0 : Int) ≤ (K.length : Int) := by omega
      go_wp2_with fail
      have HB1' := hide (below_one wr (.cells #[.bool (isH its K.length), .string (Wd.mkS (bodyOf its K.length))] 69))
      have hsz' : wr.heap.size < (wr.alloc (.cells #[.bool (isH its K.length), .string (Wd.mkS (bodyOf its K.length))] 69)).heap.size := by simp
      generalize wr.alloc (.cells #[.bool (isH its K.length), .string (Wd.mkS (bodyOf its K.length))] 69) = w1' at *
      go_at_call 52
      refine (AK.out _).mono ?_
      rintro e w2 ⟨kv, RL, g, rfl, hown2, hfin2, hb2⟩
      obtain ⟨rao, rcc, hkv⟩ := own_v hown2
      subst hkv
      have HOR := hide hown2
      have HFN := hide hfin2
      have HB2 := hide (below_go HB1'.out hb2)
      have HKB := hide (fun j hj => own_lt0 hown2 (j := j) hj)
      have HOW2 := hide (own_same HLK.out.own (fun j hj hl => HB2.out.block j hl))
      have KNV : Hid (knV ⟨isH its K.length, Wd.mkS (bodyOf its K.length), g, .slice rao RL.length rcc, RL⟩ = #[.bool (isH its K.length), .bool (isH its K.length), .string (Wd.mkS (bodyOf its K.length)), .slice (some ⟨g, 0, none⟩) (bodyOf its K.length).length (bodyOf its K.length).length, .slice rao RL.length rcc].toList) := hide (by unfold knV; simp only [Wd.mkS_size])
      have hs2 : w1'.heap.size ≤ w2.heap.size := hb2.size
      clear hown2 hfin2 hb2 c0' c1'
      go_wp2_with (first | (refine wpList_store_row rfl 111 _ _ rfl w2.heap.size #[.bool (isH its K.length), .bool (isH its K.length), .string (Wd.mkS (bodyOf its K.length)), .slice (some ⟨g, 0, none⟩) (bodyOf its K.length).length (bodyOf its K.length).length, .slice rao RL.length rcc] rfl rfl 111 #[.bool false, .bool false, .string ⟨#[]⟩, .slice none 0 0, .slice none 0 0] ?_ Try.iKnown rfl (by simp [Value.oneCell']) ?_; (exact (Row.new w2 #[.bool false, .bool false, .string ⟨#[]⟩, .slice none 0 0, .slice none 0 0] 111).raw); rw [World.setRow_alloc_new]; have HKR3 := hide (Row.new w2 #[.bool (isH its K.length), .bool (isH its K.length), .string (Wd.mkS (bodyOf its K.length)), .slice (some ⟨g, 0, none⟩) (bodyOf its K.length).length (bodyOf its K.length).length, .slice rao RL.length rcc] 111); have HB3 := hide (below_one w2 (.cells #[.bool (isH its K.length), .bool (isH its K.length), .string (Wd.mkS (bodyOf its K.length)), .slice (some ⟨g, 0, none⟩) (bodyOf its K.length).length (bodyOf its K.length).length, .slice rao RL.length rcc] 111)); have HOW3 := hide (HOW2.out.alloc (.cells #[.bool (isH its K.length), .bool (isH its K.length), .string (Wd.mkS (bodyOf its K.length)), .slice (some ⟨g, 0, none⟩) (bodyOf its K.length).length (bodyOf its K.length).length, .slice rao RL.length rcc] 111)); generalize w2.alloc (.cells #[.bool (isH its K.length), .bool (isH its K.length), .string (Wd.mkS (bodyOf its K.length)), .slice (some ⟨g, 0, none⟩) (bodyOf its K.length).length (bodyOf its K.length).length, .slice rao RL.length rcc] 111) = w3 at *; have hs3 : w2.heap.size < w3.heap.size := HKR3.out.lt) | (refine wpList_load_row rfl 111 _ rfl _ rfl 111 #[.bool (isH its K.length), .bool (isH its K.length), .string (Wd.mkS (bodyOf its K.length)), .slice (some ⟨g, 0, none⟩) (bodyOf its K.length).length (bodyOf its K.length).length, .slice rao RL.length rcc] (0, 0) _ ?_ Try.underlying111 rfl Try.iKnown ?_; (exact HKR3.out.raw)) | (at_builtin; refine wpList_push (f := knV) knV_len rfl _ _ 83 rfl w.heap.size 111 i0 _ 80 Try.underlying83 hj0 hz0 hz1 hz2 rfl (by decide) _ K ⟨isH its K.length, Wd.mkS (bodyOf its K.length), g, .slice rao RL.length rcc, RL⟩ rfl ⟨_, 0, none⟩ rfl ?_ ?_ ?_ ?_ ?_ ?_ ?_; (exact HOW3.out.alloc _); (rw [KNV.out]; exact newsL _ _ _); (rw [KNV.out]; intro x hx; simp at hx; rcases hx with rfl | rfl | rfl | rfl <;> rfl); (unfold maxLen; omega); (omega); (simp; omega); intro ao' cc' w5 hown' hbel' hsame' hat'; have HO5 := hide hown'; have HBL5 := hide hbel'; have HS5 := hide hsame'; have HA5 := hide hat'; clear hown' hbel' hsame' hat'))
      go_round
      case measure => simp [intOf]; omega
      case rel =>
        refine ⟨K.length + 1, K ++ [⟨isH its K.length, Wd.mkS (bodyOf its K.length), g, .slice rao RL.length rcc, RL⟩], by omega, by simp, by go_num, ?_, ?_, ?_, ?_⟩
        · have hin : KnIn w2 ⟨isH its K.length, Wd.mkS (bodyOf its K.length), g, .slice rao RL.length rcc, RL⟩ := ⟨own_mono HOR.out (Nat.zero_le _), by show RFin _ (Wd.mkS _).data.toList _; rw [Wd.mkS_list]; exact HFN.out, by show GB (Wd.mkS _).data.toList; rw [Wd.mkS_list]; exact hgb.out, by show (Wd.mkS _).size ≤ 300; rw [Wd.mkS_size]; exact hbl⟩
          exact HLK.out.push HB2.out hin (fun j hj => by have := HKB.out j hj; omega) (fun j hj => (HKB.out j hj).2) (below_new HB3.out _) HO5.out HBL5.out HS5.out HA5.out rfl rfl
        · have h1 := HB2.out.size
          have h2 := HB3.out.size
          have h3 := HBL5.out.size
          simp at h3
          omega
        · have h1 := HB2.out.size
          have h2 := HB3.out.size
          have hlt0 : ∀ j, (Value.slice ao K.length cc).ownBlock = some j → w1.heap.size ≤ j := fun j hj => HNW.out j hj
          refine (HBW.out.trans (HB2.out.mono (by omega))).trans ((HB3.out.mono (by omega)).trans ?_)
          refine ((Below.refl _ _).alloc (by omega) _).trans ⟨HBL5.out.os, HBL5.out.tape, HBL5.out.output, HBL5.out.size, fun j hj => ?_⟩
          exact HS5.out j (by simp; omega) (fun e => by have := hlt0 j e; omega)
        · intro j hj
          have h1 := HB2.out.size
          have h2 := HB3.out.size
          rcases HA5.out with e | e
          · rw [e] at hj; exact HNW.out j hj
          · rw [e] at hj; injection hj with hj; simp at hj; omega
    · have e : K.length = its.length := by omega
      go_wp2
      go_ret2
      exact ⟨ao, cc, K, by rw [← e]; rfl, by rw [← e]; exact ⟨own_mono HLK.out.own (Nat.zero_le _), fun k hk => (HLK.out.each k hk).1, by omega⟩, ⟨e, HLK.out.at_⟩, HLK.out.bel⟩
end Go.Proofs.Ytecmfdkhcffpmab
