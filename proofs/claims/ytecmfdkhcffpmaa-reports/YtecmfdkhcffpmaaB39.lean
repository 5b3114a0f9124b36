/- StI. -/
import Derived.Test.YtecmfdkhcffpmaaB35
import Derived.Test.YtecmfdkhcffpmaaB38
/- Contracts of the program's reports: what a state takes. -/
namespace Go.Proofs.Ytecmfdkhcffpmaa
open Go.RowKit
set_option linter.unusedSimpArgs false
set_option linter.unusedVariables false
set_option maxHeartbeats 8000000
open Mc

theorem heldA_bs (h : Nat) : heldA h = bsA 6 (fun i => h.testBit i) := rfl
theorem heldOr_any (a b : Nat) (w : World) : Calls Try.prog 131 #[.agg (heldA a), .agg (heldA b)] w fun e w' => e = .returned (.agg (heldA (a ||| b))) ∧ Below w.heap.size w w' := by
  rw [heldA_bs, heldA_bs, heldA_bs]
  have := heldOrB (fun i => a.testBit i) (fun i => b.testBit i) w
  simpa only [Nat.testBit_or] using this
theorem ewith_any (T : Tb) (a b : Nat) (w : World) : Calls Try.prog 130 #[.agg (tbA T), .agg (heldA a), .agg (heldA b)] w fun e w' => e = .returned (.agg (tbA (withT T a b))) ∧ Below w.heap.size w w' := by
  rw [heldA_bs, heldA_bs]
  exact withB T _ _ w
theorem heldA_one : ∀ l, l < 6 → heldA (2 ^ l) = #[.bool (if l = 0 then true else false), .bool (if l = 1 then true else false), .bool (if l = 2 then true else false), .bool (if l = 3 then true else false), .bool (if l = 4 then true else false), .bool (if l = 5 then true else false)] := by
  intro l hl
  have hc : l = 0 ∨ l = 1 ∨ l = 2 ∨ l = 3 ∨ l = 4 ∨ l = 5 := by omega
  rcases hc with rfl | rfl | rfl | rfl | rfl | rfl <;> rfl
theorem heldWith_any (l : Nat) (w : World) (hl : l < 6) : Calls Try.prog 156 #[.agg #[.bool false, .bool false, .bool false, .bool false, .bool false, .bool false], .int .i64 l] w fun e w' => e = .returned (.agg (heldA (2 ^ l))) ∧ Below w.heap.size w w' := by
  have AP := hide (fun W => heldPut_any false false false false false false true l W hl)
  rw [← heldA_one l hl] at AP
  have ZA := hide (Row.two w #[.bool false, .bool false, .bool false, .bool false, .bool false, .bool false] #[.bool false, .bool false, .bool false, .bool false, .bool false, .bool false] 112 112)
  have ZB := hide (below_two w (.cells #[.bool false, .bool false, .bool false, .bool false, .bool false, .bool false] 112) (.cells #[.bool false, .bool false, .bool false, .bool false, .bool false, .bool false] 112))
  have hl0 : (l : Int) < 6 := by omega
  rw [heldA_bs] at AP ⊢
  go_enter Try.func156, Try.ntmps156
  go_wp2_with (first | (refine wpList_store_row rfl 112 _ _ rfl (w.heap.size + 1) (bsA 6 (fun i => (2 ^ l).testBit i)) rfl rfl 112 #[.bool false, .bool false, .bool false, .bool false, .bool false, .bool false] ?_ (Try.iHeldB _) rfl (bsA_one _ _) ?_; (exact HR1.out.2.raw)) | (go_at_call 170; refine (AP.out _).mono ?_; rintro e w1 ⟨rfl, hb1⟩; have HR1 := hide (show Row w1 w.heap.size _ _ ∧ Row w1 (w.heap.size + 1) _ _ from ⟨ZA.out.1.below hb1, ZA.out.2.below hb1⟩); have HB1 := hide (below_go ZB.out hb1); clear hb1))
  exact bodyPost_ret (v := .agg (bsA 6 (fun i => (2 ^ l).testBit i))) (results_cell_row Try.results156 _ _ (w.heap.size + 1) 112 _ (0, 0) _ rfl (HR1.out.2.setRow _).raw Try.underlying112 rfl (Try.iHeldB _)) rfl ⟨rfl, below_setRow HB1.out (by omega) _⟩
/-- A reached state, by value. -/
def rcA (r : Rc) : Array Value := (rcV r).toArray
theorem rcA_size (r : Rc) : (rcA r).size = 10 := rfl
theorem rcA_one (r : Rc) : (rcA r).all (·.oneCell') = true := by simp [rcA, rcV, stA, Value.oneCell']
theorem Try.iRc (r : Rc) : (Try.prog.info? 153).map (·.size) = some (rcA r).size := by rw [rcA_size]; exact Try.iReached
theorem rcA_p (r : Rc) : (rcA r)[0]? = some (.int .i64 (r.p : Int)) := rfl
theorem rcA_off (r : Rc) : (rcA r)[7]? = some (.bool r.off) := rfl
theorem rcA_fr (r : Rc) : (rcA r)[8]? = some (.int .i64 (r.fr : Int)) := rfl
theorem rcA_cm (r : Rc) : (rcA r)[9]? = some (.bool r.comma) := rfl
theorem rcA_h (r : Rc) : ∀ i, i < 6 → (rcA r)[1 + i]? = some (.bool (r.h.testBit i)) := by
  intro i hi
  have hc : i = 0 ∨ i = 1 ∨ i = 2 ∨ i = 3 ∨ i = 4 ∨ i = 5 := by omega
  rcases hc with rfl | rfl | rfl | rfl | rfl | rfl <;> rfl
theorem Row.held6 {w : World} {g : Nat} {r : Rc} (h : Row w g (rcA r) 153) : ∀ i, i < 6 → w.cell? ⟨g, 1 + i, none⟩ = some (.bool (r.h.testBit i)) := fun i hi => h.cell _ (rcA_h r i hi)
theorem Row.code3 {w : World} {g : Nat} {hd : Bool} {s : ByteArray} {v3 v4 v0 : Value} (h : Row w g #[v0, .bool hd, .string s, v3, v4] 150) : w.rangeAt g 1 [.bool hd, .string s, v3] := h.range 1 _ (fun j v hj => by
  match j, hj with
  | 0, hj => cases hj; rfl
  | 1, hj => cases hj; rfl
  | 2, hj => cases hj; rfl
  | j + 3, hj => rw [List.getElem?_eq_none (by simp)] at hj; cases hj)
theorem tkP_lt {b : List UInt8} (hok : PairOK b) (p h : Nat) : tkP b p h < 64 := by
  unfold tkP
  split
  · have := numP_bd hok p
    have hl : (numP b p).toNat < 6 := by omega
    have hp : ∀ l, l < 6 → 2 ^ l < 64 := by decide
    exact hp _ hl
  · decide
structure Q4 (w W : World) (hd : Bool) (s : ByteArray) (lg : Nat) (kv : Value) (r : Rc) : Prop where
  k : Row W w.heap.size #[.bool hd, .bool hd, .string s, .slice (some ⟨lg, 0, none⟩) s.size s.size, kv] 150
  r : Row W (w.heap.size + 1) (rcA r) 153
  z : Row W (w.heap.size + 2) #[.bool false, .bool false, .bool false, .bool false, .bool false, .bool false] 112
  y : Row W (w.heap.size + 3) #[.bool false, .bool false, .bool false, .bool false, .bool false, .bool false] 112
  b : Below w.heap.size w W
theorem Q4.below {w W W' : World} {hd : Bool} {s : ByteArray} {lg : Nat} {kv : Value} {r : Rc} (h : Q4 w W hd s lg kv r) (hb : Below W.heap.size W W') : Q4 w W' hd s lg kv r := ⟨h.k.below hb, h.r.below hb, h.z.below hb, h.y.below hb, below_go h.b hb⟩
theorem Q4.new (w : World) (hd : Bool) (s : ByteArray) (lg : Nat) (kv : Value) (r : Rc) : Q4 w ((((w.alloc (.cells #[.bool hd, .bool hd, .string s, .slice (some ⟨lg, 0, none⟩) s.size s.size, kv] 150)).alloc (.cells (rcA r) 153)).alloc (.cells #[.bool false, .bool false, .bool false, .bool false, .bool false, .bool false] 112)).alloc (.cells #[.bool false, .bool false, .bool false, .bool false, .bool false, .bool false] 112)) hd s lg kv r := by
  obtain ⟨a, b, c, d⟩ := Row.four w #[.bool hd, .bool hd, .string s, .slice (some ⟨lg, 0, none⟩) s.size s.size, kv] (rcA r) #[.bool false, .bool false, .bool false, .bool false, .bool false, .bool false] #[.bool false, .bool false, .bool false, .bool false, .bool false, .bool false] 150 153 112 112
  exact ⟨a, b, c, d, below_four w _ _ _ _⟩
set_option maxRecDepth 100000 in
theorem ktakes_any (hd : Bool) (s : ByteArray) (lg : Nat) (kao : Option Addr) (kn kc : Nat) (r : Rc) (w : World) (hs : s.size ≤ 300) (hp : r.p ≤ 20000) (hok : PairOK s.data.toList) :
    Calls Try.prog 129 #[.agg #[.bool hd, .bool hd, .string s, .slice (some ⟨lg, 0, none⟩) s.size s.size, .slice kao kn kc], .agg (rcA r)] w fun e w' => e = .returned (.agg (heldA (tkP s.data.toList r.p r.h))) ∧ Below w.heap.size w w' := by
  have AA := hide (fun W => codeAt_any hd s (some ⟨lg, 0, none⟩) s.size s.size r.p W (by omega) hp)
  have AN := hide (fun W => codeNumber_any hd s (some ⟨lg, 0, none⟩) s.size s.size r.p W (by omega) hp hok)
  have hn := numP_bd hok r.p
  obtain ⟨B, hB⟩ : ∃ B : Nat → Bool, B = fun i => r.h.testBit i := ⟨_, rfl⟩
  have HBH := hide hB
  clear hB
  have AH : Hid (∀ W, Calls Try.prog 154 #[.agg #[.bool (B 0), .bool (B 1), .bool (B 2), .bool (B 3), .bool (B 4), .bool (B 5)], .int .i64 (numP s.data.toList r.p)] W fun e w' => e = .returned (.bool (hasB r.h (numP s.data.toList r.p))) ∧ Below W.heap.size W w') := hide (fun W => by rw [HBH.out]; exact has_any r.h _ W (by omega) (by omega))
  have AW : Hid (∀ l : Nat, ∀ W, l < 6 → Calls Try.prog 156 #[.agg #[.bool false, .bool false, .bool false, .bool false, .bool false, .bool false], .int .i64 l] W fun e w' => e = .returned (.agg (bsA 6 (fun i => (2 ^ l).testBit i))) ∧ Below W.heap.size W w') := hide (fun l W hl => heldWith_any l W hl)
  have ZA := hide (Q4.new w hd s lg (.slice kao kn kc) r)
  have hz : Hid (heldA 0 = #[.bool false, .bool false, .bool false, .bool false, .bool false, .bool false]) := hide rfl
  have htk : Hid (tkP s.data.toList r.p r.h = if atB s.data.toList r.p = 43 ∧ hasB r.h (numP s.data.toList r.p) = false then 2 ^ (numP s.data.toList r.p).toNat else 0) := hide rfl
  have hpos : atB s.data.toList r.p = 43 → 0 ≤ numP s.data.toList r.p := fun h => by
    unfold numP
    rw [if_pos (Or.inl h)]
    have := num_lockB hok (Or.inl h)
    omega
  generalize tkP s.data.toList r.p r.h = tk at *
  have hbd := atB_bd s.data.toList r.p
  clear hok
  generalize atB s.data.toList r.p = c at *
  generalize numP s.data.toList r.p = n at *
  have x0 : ((((w.alloc (.cells #[.bool hd, .bool hd, .string s, .slice (some ⟨lg, 0, none⟩) s.size s.size, .slice kao kn kc] 150)).alloc (.cells (rcA r) 153)).alloc (.cells #[.bool false, .bool false, .bool false, .bool false, .bool false, .bool false] 112)).alloc (.cells #[.bool false, .bool false, .bool false, .bool false, .bool false, .bool false] 112)).cell? ⟨w.heap.size + 1, 0, none⟩ = some (.int .i64 (r.p : Int)) := ZA.out.r.cell 0 (rcA_p r)
  by_cases hc : c = 43
  · subst hc
    have hn0 := hpos rfl
    obtain ⟨l, hl⟩ : ∃ l : Nat, n = (l : Int) := ⟨n.toNat, by omega⟩
    subst hl
    have hl6 : l < 6 := by omega
    cases hh : hasB r.h (l : Int)
    · have HH := hide hh
      rw [hh] at AH htk
      clear hh
      have htk' : Hid (heldA tk = bsA 6 (fun i => (2 ^ l).testBit i)) := hide (by rw [htk.out, if_pos ⟨rfl, rfl⟩]; rfl)
      rw [htk'.out]
      clear htk hz hpos
      go_enter Try.func129, Try.ntmps129
      go_wp2_with (first | (go_at_call 156; refine (AW.out _ _ hl6).mono ?_; rintro e w4 ⟨rfl, hb4⟩; have HQ4 := hide (HQ3.out.below hb4); clear hb4) | (refine wpList_load_row rfl 112 _ rfl _ rfl 112 #[.bool false, .bool false, .bool false, .bool false, .bool false, .bool false] (0, 0) _ ?_ Try.underlying112 rfl Try.iHeld ?_; (exact HQ3.out.y.raw)) | (go_at_call 154; refine (AH.out _).mono ?_; rintro e w3 ⟨rfl, hb3⟩; have HQ3 := hide (HQ2.out.below hb3); clear hb3) | (go_at_call 128; refine (AA.out _).mono ?_; rintro e w2 ⟨rfl, hb2⟩; have HQ2 := hide (HQ1.out.below hb2); clear hb2; have y0 : w2.cell? ⟨w.heap.size + 1, 1, none⟩ = some (.bool (B 0)) := (by rw [HBH.out]; exact HQ2.out.r.held6 0 (by omega)); have y1 : w2.cell? ⟨w.heap.size + 1, 2, none⟩ = some (.bool (B 1)) := (by rw [HBH.out]; exact HQ2.out.r.held6 1 (by omega)); have y2 : w2.cell? ⟨w.heap.size + 1, 3, none⟩ = some (.bool (B 2)) := (by rw [HBH.out]; exact HQ2.out.r.held6 2 (by omega)); have y3 : w2.cell? ⟨w.heap.size + 1, 4, none⟩ = some (.bool (B 3)) := (by rw [HBH.out]; exact HQ2.out.r.held6 3 (by omega)); have y4 : w2.cell? ⟨w.heap.size + 1, 5, none⟩ = some (.bool (B 4)) := (by rw [HBH.out]; exact HQ2.out.r.held6 4 (by omega)); have y5 : w2.cell? ⟨w.heap.size + 1, 6, none⟩ = some (.bool (B 5)) := (by rw [HBH.out]; exact HQ2.out.r.held6 5 (by omega))) | (refine wpList_load_mid rfl 111 _ rfl _ _ rfl [.bool hd, .string s, .slice (some ⟨lg, 0, none⟩) s.size s.size] _ ?_ Try.underlying111 rfl Try.iCode ?_; (exact HQ1.out.k.code3)) | (go_at_call 153; refine (AN.out _).mono ?_; rintro e w1 ⟨rfl, hb1⟩; have HQ1 := hide (ZA.out.below hb1); clear hb1) | (refine wpList_load_mid rfl 111 _ rfl _ _ rfl [.bool hd, .string s, .slice (some ⟨lg, 0, none⟩) s.size s.size] _ ?_ Try.underlying111 rfl Try.iCode ?_; (exact ZA.out.k.code3)) | (refine wpList_store_row rfl 112 _ _ rfl (w.heap.size + 2) (bsA 6 (fun i => (2 ^ l).testBit i)) rfl rfl 112 #[.bool false, .bool false, .bool false, .bool false, .bool false, .bool false] ?_ (Try.iHeldB _) rfl (bsA_one _ _) ?_; (exact HQ4.out.z.raw)))
      exact bodyPost_ret (v := .agg (bsA 6 (fun i => (2 ^ l).testBit i))) (results_cell_row Try.results129 _ _ (w.heap.size + 2) 112 _ (0, 0) _ rfl (HQ4.out.z.setRow _).raw Try.underlying112 rfl (Try.iHeldB _)) rfl ⟨rfl, below_setRow HQ4.out.b (by omega) _⟩
    · have HH := hide hh
      rw [hh] at AH htk
      clear hh
      have htk' : Hid (heldA tk = #[.bool false, .bool false, .bool false, .bool false, .bool false, .bool false]) := hide (by rw [htk.out, if_neg (by simp)]; rfl)
      rw [htk'.out]
      clear htk hz hpos AW
      go_enter Try.func129, Try.ntmps129
      go_wp2_with (first | (refine wpList_load_row rfl 112 _ rfl _ rfl 112 #[.bool false, .bool false, .bool false, .bool false, .bool false, .bool false] (0, 0) _ ?_ Try.underlying112 rfl Try.iHeld ?_; (exact HQ3.out.y.raw)) | (go_at_call 154; refine (AH.out _).mono ?_; rintro e w3 ⟨rfl, hb3⟩; have HQ3 := hide (HQ2.out.below hb3); clear hb3) | (go_at_call 128; refine (AA.out _).mono ?_; rintro e w2 ⟨rfl, hb2⟩; have HQ2 := hide (HQ1.out.below hb2); clear hb2; have y0 : w2.cell? ⟨w.heap.size + 1, 1, none⟩ = some (.bool (B 0)) := (by rw [HBH.out]; exact HQ2.out.r.held6 0 (by omega)); have y1 : w2.cell? ⟨w.heap.size + 1, 2, none⟩ = some (.bool (B 1)) := (by rw [HBH.out]; exact HQ2.out.r.held6 1 (by omega)); have y2 : w2.cell? ⟨w.heap.size + 1, 3, none⟩ = some (.bool (B 2)) := (by rw [HBH.out]; exact HQ2.out.r.held6 2 (by omega)); have y3 : w2.cell? ⟨w.heap.size + 1, 4, none⟩ = some (.bool (B 3)) := (by rw [HBH.out]; exact HQ2.out.r.held6 3 (by omega)); have y4 : w2.cell? ⟨w.heap.size + 1, 5, none⟩ = some (.bool (B 4)) := (by rw [HBH.out]; exact HQ2.out.r.held6 4 (by omega)); have y5 : w2.cell? ⟨w.heap.size + 1, 6, none⟩ = some (.bool (B 5)) := (by rw [HBH.out]; exact HQ2.out.r.held6 5 (by omega))) | (refine wpList_load_mid rfl 111 _ rfl _ _ rfl [.bool hd, .string s, .slice (some ⟨lg, 0, none⟩) s.size s.size] _ ?_ Try.underlying111 rfl Try.iCode ?_; (exact HQ1.out.k.code3)) | (go_at_call 153; refine (AN.out _).mono ?_; rintro e w1 ⟨rfl, hb1⟩; have HQ1 := hide (ZA.out.below hb1); clear hb1) | (refine wpList_load_mid rfl 111 _ rfl _ _ rfl [.bool hd, .string s, .slice (some ⟨lg, 0, none⟩) s.size s.size] _ ?_ Try.underlying111 rfl Try.iCode ?_; (exact ZA.out.k.code3)) | (refine wpList_store_row rfl 112 _ _ rfl (w.heap.size + 2) #[.bool false, .bool false, .bool false, .bool false, .bool false, .bool false] rfl rfl 112 #[.bool false, .bool false, .bool false, .bool false, .bool false, .bool false] ?_ Try.iHeld rfl (by simp [Value.oneCell']) ?_; (exact HQ3.out.z.raw)))
      exact bodyPost_ret (v := .agg #[.bool false, .bool false, .bool false, .bool false, .bool false, .bool false]) (results_cell_row Try.results129 _ _ (w.heap.size + 2) 112 _ (0, 0) _ rfl (HQ3.out.z.setRow _).raw Try.underlying112 rfl Try.iHeld) rfl ⟨rfl, below_setRow HQ3.out.b (by omega) _⟩
  · have htk' : Hid (heldA tk = #[.bool false, .bool false, .bool false, .bool false, .bool false, .bool false]) := hide (by rw [htk.out, if_neg (fun h => hc h.1)]; rfl)
    rw [htk'.out]
    clear htk hz hpos AW AH
    go_enter Try.func129, Try.ntmps129
    go_wp2_with (first | (refine wpList_load_row rfl 112 _ rfl _ rfl 112 #[.bool false, .bool false, .bool false, .bool false, .bool false, .bool false] (0, 0) _ ?_ Try.underlying112 rfl Try.iHeld ?_; (exact HQ2.out.y.raw)) | (go_at_call 128; refine (AA.out _).mono ?_; rintro e w2 ⟨rfl, hb2⟩; have HQ2 := hide (HQ1.out.below hb2); clear hb2; have y0 : w2.cell? ⟨w.heap.size + 1, 1, none⟩ = some (.bool (B 0)) := (by rw [HBH.out]; exact HQ2.out.r.held6 0 (by omega)); have y1 : w2.cell? ⟨w.heap.size + 1, 2, none⟩ = some (.bool (B 1)) := (by rw [HBH.out]; exact HQ2.out.r.held6 1 (by omega)); have y2 : w2.cell? ⟨w.heap.size + 1, 3, none⟩ = some (.bool (B 2)) := (by rw [HBH.out]; exact HQ2.out.r.held6 2 (by omega)); have y3 : w2.cell? ⟨w.heap.size + 1, 4, none⟩ = some (.bool (B 3)) := (by rw [HBH.out]; exact HQ2.out.r.held6 3 (by omega)); have y4 : w2.cell? ⟨w.heap.size + 1, 5, none⟩ = some (.bool (B 4)) := (by rw [HBH.out]; exact HQ2.out.r.held6 4 (by omega)); have y5 : w2.cell? ⟨w.heap.size + 1, 6, none⟩ = some (.bool (B 5)) := (by rw [HBH.out]; exact HQ2.out.r.held6 5 (by omega))) | (refine wpList_load_mid rfl 111 _ rfl _ _ rfl [.bool hd, .string s, .slice (some ⟨lg, 0, none⟩) s.size s.size] _ ?_ Try.underlying111 rfl Try.iCode ?_; (exact HQ1.out.k.code3)) | (go_at_call 153; refine (AN.out _).mono ?_; rintro e w1 ⟨rfl, hb1⟩; have HQ1 := hide (ZA.out.below hb1); clear hb1) | (refine wpList_load_mid rfl 111 _ rfl _ _ rfl [.bool hd, .string s, .slice (some ⟨lg, 0, none⟩) s.size s.size] _ ?_ Try.underlying111 rfl Try.iCode ?_; (exact ZA.out.k.code3)) | (refine wpList_store_row rfl 112 _ _ rfl (w.heap.size + 2) #[.bool false, .bool false, .bool false, .bool false, .bool false, .bool false] rfl rfl 112 #[.bool false, .bool false, .bool false, .bool false, .bool false, .bool false] ?_ Try.iHeld rfl (by simp [Value.oneCell']) ?_; (exact HQ2.out.z.raw)))
    exact bodyPost_ret (v := .agg #[.bool false, .bool false, .bool false, .bool false, .bool false, .bool false]) (results_cell_row Try.results129 _ _ (w.heap.size + 2) 112 _ (0, 0) _ rfl (HQ2.out.z.setRow _).raw Try.underlying112 rfl Try.iHeld) rfl ⟨rfl, below_setRow HQ2.out.b (by omega) _⟩
end Go.Proofs.Ytecmfdkhcffpmaa
