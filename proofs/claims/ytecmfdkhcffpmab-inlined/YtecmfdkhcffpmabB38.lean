/- StH, StD. -/
import Derived.Test.YtecmfdkhcffpmabB37
import Derived.Deep.MidRow
import Derived.Test.YtecmfdkhcffpmabB36
import Derived.Test.YtecmfdkhcffpmabB14
/- Contracts of the program's reports: visits that clash. -/
namespace Go.Proofs.Ytecmfdkhcffpmab
open Go.RowKit
set_option linter.unusedSimpArgs false
set_option linter.unusedVariables false
set_option maxHeartbeats 8000000
open Mc

theorem Try.uS64 : Try.prog.underlying 141 = some (.array 64 4) := by kernel_rfl
theorem Try.i64 : (Try.prog.info? 141).map (·.size) = some 64 := by kernel_rfl
theorem ixVb (f : Nat → Bool) (i : Nat) (hi : i < 64) (w : World) : (Instr.index 141 (.agg (bsA 64 f)) (.int .i64 (i : Int))).run Try.prog w = .ok (.bool (f i)) w := ixB 141 64 Try.uS64 _ i hi _ (bsA_at _ _ _ hi) w
theorem wpList_load_bs {ops : Array Oper} {rest : List Oper} {op : Oper} {a : Act} {w : World} {Q : Exit → Act → World → Prop} (hgd : op.guard = none) (ty : TypeId) (x : Operand) (ho : op.op = .load ty x)
    (b o : Nat) (hx : a.eval x = .pointer (some ⟨b, o, none⟩)) (n : Nat) (f : Nat → Bool) (d : TypeDesc) (hc : ∀ i, i < n → w.cell? ⟨b, o + i, none⟩ = some (.bool (f i)))
    (hu : Try.prog.underlying ty = some d) (hd : d.isRow = true) (hi : (Try.prog.info? ty).map (·.size) = some n)
    (h : wpList Try.prog ops Q rest (a.put op.dst (.agg (bsA n f))) w) : wpList Try.prog ops Q (op :: rest) a w := by
  refine wpList_load_mid hgd ty x ho b o hx ((List.range n).map (fun i => Value.bool (f i))) d ?_ hu hd (by simpa using hi) h
  intro j v hj
  rw [List.getElem?_map] at hj
  by_cases hjn : j < n
  · rw [List.getElem?_range hjn] at hj
    cases hj
    exact hc j hjn
  · rw [List.getElem?_eq_none (by simp; omega)] at hj
    cases hj
theorem Row.ei {w : World} {g : Nat} {v : Vi} (h : Row w g (viA v) 143) : ∀ i, i < 64 → w.cell? ⟨g, 64 + i, none⟩ = some (.bool (v.ei i)) := fun i hi => h.cell _ (viA_ei v i hi)
theorem bits_and0 (x y : Nat) (hx : x < 64) (hy : y < 64) : ((bits BinOp.and IntKind.i64 (x : Int) (y : Int) = 0) ↔ (x &&& y = 0)) := by
  have h : ∀ x : Fin 64, ∀ y : Fin 64, ((bits BinOp.and IntKind.i64 ((x.val : Nat) : Int) ((y.val : Nat) : Int) = 0) ↔ (x.val &&& y.val = 0)) := by decide
  exact h ⟨x, hx⟩ ⟨y, hy⟩
set_option maxRecDepth 100000 in
theorem vclash_any (v o : Vi) (w : World) :
    Calls Try.prog 73 #[.agg (viA v), .agg (viA o)] w fun e w' => e = .returned (.bool (clashV v o)) ∧ Below w.heap.size w w' := by
  have ZA := hide (Row.two w (viA v) (viA o) 143 143)
  have ZB := hide (below_two w (.cells (viA v) 143) (.cells (viA o) 143))
  go_enter Try.func73, Try.ntmps73
  go_wp2_with (first | (refine wpList_load_bs rfl 141 _ rfl _ _ rfl 64 v.ei _ ?_ Try.uS64 rfl Try.i64 ?_; (exact ZA.out.1.ei)))
  generalize (w.alloc (.cells (viA v) 143)).alloc (.cells (viA o) 143) = W at *
  go_loop [11] (fun c => ∃ x : Nat, x ≤ 64 ∧ c = .int .i64 x ∧ clashTo v o x = false) (fun c => 64 - (intOf c).toNat)
  case atStart => exact ⟨0, by omega, rfl, rfl⟩
  case round =>
    obtain ⟨x, hx, rfl, h1⟩ := hrel
    have H1 := hide h1
    clear h1
    by_cases hxt : x < 64
    · have hx0 : (0 : Int) ≤ (x : Int) := by omega
      have hix := hide (ixVb v.ei x hxt)
      go_wp2_with (first | (refine wpList_load_bs rfl 141 _ rfl _ _ rfl 64 o.ei _ ?_ Try.uS64 rfl Try.i64 ?_; (exact ZA.out.2.ei)) | (refine wpList_ixTo rfl _ _ _ rfl _ (hix.out _) ?_))
      go_loop [17] (fun c => ∃ y : Nat, y ≤ 64 ∧ c = .int .i64 y ∧ clashRow v o x y = false) (fun c => 64 - (intOf c).toNat)
      case atStart => exact ⟨0, by omega, rfl, rfl⟩
      case round =>
        clear hix
        obtain ⟨y, hy, rfl, h2⟩ := hrel
        have H2 := hide h2
        clear h2
        by_cases hyt : y < 64
        · have hy0 : (0 : Int) ≤ (y : Int) := by omega
          have hix := hide (ixVb o.ei y hyt)
          have c1 : W.cell? ⟨w.heap.size, x, none⟩ = some (.bool (v.wr x)) := ZA.out.1.cell _ (viA_wr v x hxt)
          have c2 : W.cell? ⟨w.heap.size + 1, y, none⟩ = some (.bool (o.wr y)) := ZA.out.2.cell _ (viA_wr o y hyt)
          have hs := hide (clashRow_succ v o x y)
          have hyes := hide (fun h => clashTo_of (n := 64) hxt (clashRow_of (v := v) (o := o) (x := x) (n := 64) hyt h))
          have hbz : (bits BinOp.and IntKind.i64 (x : Int) (y : Int) = 0) ↔ (x &&& y = 0) := bits_and0 x y hxt hyt
          generalize v.ei x = o1 at *
          generalize o.ei y = o2 at *
          generalize v.wr x = o3 at *
          generalize o.wr y = o4 at *
          cases o1
          · clear hbz
            go_wp2_with (refine wpList_ixTo rfl _ _ _ rfl _ (hix.out _) ?_)
            go_round
            case measure => simp [intOf]; omega
            case rel => exact ⟨y + 1, by omega, by go_num, by rw [hs.out, H2.out]; rfl⟩
          cases o2
          · clear hbz
            go_wp2_with (refine wpList_ixTo rfl _ _ _ rfl _ (hix.out _) ?_)
            go_round
            case measure => simp [intOf]; omega
            case rel => exact ⟨y + 1, by omega, by go_num, by rw [hs.out, H2.out]; rfl⟩
          by_cases hz : x &&& y = 0
          · have hz1 := hbz.2 hz
            have HZ := hide hz
            clear hbz hz
            cases o3
            · cases o4
              · go_wp2_with (refine wpList_ixTo rfl _ _ _ rfl _ (hix.out _) ?_)
                go_round
                case measure => simp [intOf]; omega
                case rel => exact ⟨y + 1, by omega, by go_num, by rw [hs.out, H2.out]; simp⟩
              · go_wp2_with (refine wpList_ixTo rfl _ _ _ rfl _ (hix.out _) ?_)
                go_ret
                exact ⟨ret_bool (by rw [← clashTo_all, hyes.out (by simp [HZ.out])]), ZB.out⟩
            · go_wp2_with (refine wpList_ixTo rfl _ _ _ rfl _ (hix.out _) ?_)
              go_ret
              exact ⟨ret_bool (by rw [← clashTo_all, hyes.out (by simp [HZ.out])]), ZB.out⟩
          · have hz1 : ¬ (bits BinOp.and IntKind.i64 (x : Int) (y : Int) = 0) := fun e => hz (hbz.1 e)
            have HZ := hide hz
            clear hbz hz
            go_wp2_with (refine wpList_ixTo rfl _ _ _ rfl _ (hix.out _) ?_)
            go_round
            case measure => simp [intOf]; omega
            case rel => exact ⟨y + 1, by omega, by go_num, by rw [hs.out, H2.out]; simp [HZ.out]⟩
        · have e : y = 64 := by omega
          subst e
          go_wp2
          go_round
          case measure => simp [intOf]; omega
          case rel => exact ⟨x + 1, by omega, by go_num, by rw [clashTo_succ, H1.out, H2.out]; rfl⟩
    · have e : x = 64 := by omega
      subst e
      go_wp2
      go_ret
      exact ⟨ret_bool (by rw [← clashTo_all]; exact H1.out.symm), ZB.out⟩
end Go.Proofs.Ytecmfdkhcffpmab
/- Contracts of the program's reports: kinds; what is known of an item. -/
namespace Go.Proofs.Ytecmfdkhcffpmab
open Go.RowKit
set_option linter.unusedSimpArgs false
set_option linter.unusedVariables false
set_option maxHeartbeats 8000000
open Mc

set_option maxRecDepth 100000 in
theorem kindAt_any (hd : Bool) (s : ByteArray) (la : Option Addr) (ln lc p h : Nat) (off : Bool) (w : World) (hs : s.size ≤ 10000) (hp : p ≤ 20000) (hh : h < 64) (hok : PairOK s.data.toList) :
    Calls Try.prog 71 #[.agg #[.bool hd, .string s, .slice la ln lc], .agg (stA p h off)] w fun e w' => e = .returned (.int .i64 (kindP (faultP hd s.data.toList p h off))) ∧ Below w.heap.size w w' := by
  have AF : Hid (∀ W, Calls Try.prog 91 #[.agg #[.bool hd, .string s, .slice la ln lc], .agg (stA p h off)] W fun e w' => e = .returned (.int .u8 (faultP hd s.data.toList p h off)) ∧ Below W.heap.size W w') := hide (fun W => fault_any hd s la ln lc p h off W hs hp hh hok)
  have hv := faultP_vals hd s.data.toList p h off
  have HR := hide (Row.two w #[.bool hd, .string s, .slice la ln lc] (stA p h off) 97 100)
  have HB := hide (below_two w (.cells #[.bool hd, .string s, .slice la ln lc] 97) (.cells (stA p h off) 100))
  clear hok
  generalize faultP hd s.data.toList p h off = F at *
  rcases hv with rfl | rfl | rfl | rfl | rfl | rfl
  all_goals (
    go_enter Try.func71, Try.ntmps71
    go_wp2_with (first | (refine wpList_load_row rfl 100 _ rfl _ rfl 100 (stA p h off) (0, 0) _ ?_ Try.underlying100 rfl (Try.iStA _ _ _) ?_; (exact HR.out.2.raw)) | (go_at_call 91; refine (AF.out _).mono ?_; rintro e w1 ⟨rfl, hb1⟩))
    go_ret
    exact ⟨rfl, below_go HB.out hb1⟩)
theorem Try.iKnown : (Try.prog.info? 111).map (·.size) = some 5 := by kernel_rfl
set_option maxRecDepth 100000 in
theorem knownOf_any (hd : Bool) (s : ByteArray) (w : World) (hs : s.size ≤ 300) (hg : GB s.data.toList) :
    Calls Try.prog 52 #[.agg #[.bool hd, .string s]] w fun e w' => ∃ v L g, e = .returned (.agg #[.bool hd, .bool hd, .string s, .slice (some ⟨g, 0, none⟩) s.size s.size, v]) ∧ w'.ownsRow w.heap.size 118 10 v L.length (rcsV L) ∧ RFin hd s.data.toList L ∧ Below w.heap.size w w' := by
  have AO := hide (fun W => of_any hd s W (by omega))
  have AS := hide (fun W g hL => statesOf_any hd s g W hs hg hL)
  clear hg
  have HR := hide (Row.two w #[.bool hd, .string s] #[.bool false, .bool false, .string ⟨#[]⟩, .slice none 0 0, .slice none 0 0] 69 111)
  have HB := hide (below_two w (.cells #[.bool hd, .string s] 69) (.cells #[.bool false, .bool false, .string ⟨#[]⟩, .slice none 0 0, .slice none 0 0] 111))
  go_enter Try.func52, Try.ntmps52
  go_wp2_with (first | (refine wpList_store_row rfl 97 _ _ rfl w1.heap.size #[.bool hd, .string s, .slice (some ⟨g, 0, none⟩) s.size s.size] rfl rfl 97 #[.bool false, .string ⟨#[]⟩, .slice none 0 0] ?_ Try.iCode rfl (by simp [Value.oneCell']) ?_; (exact (Row.new w1 #[.bool false, .string ⟨#[]⟩, .slice none 0 0] 97).raw); rw [World.setRow_alloc_new]; have HC2 := hide (Row.new w1 #[.bool hd, .string s, .slice (some ⟨g, 0, none⟩) s.size s.size] 97); have HI2 := hide (HI1.out.alloc (.cells #[.bool hd, .string s, .slice (some ⟨g, 0, none⟩) s.size s.size] 97)); have HK2 := hide (HK1.out.alloc (.cells #[.bool hd, .string s, .slice (some ⟨g, 0, none⟩) s.size s.size] 97)); have HB2 := hide (below_new HB1.out (.cells #[.bool hd, .string s, .slice (some ⟨g, 0, none⟩) s.size s.size] 97)); have HL2 := hide (HL1.out.alloc (.cells #[.bool hd, .string s, .slice (some ⟨g, 0, none⟩) s.size s.size] 97)); generalize w1.alloc (.cells #[.bool hd, .string s, .slice (some ⟨g, 0, none⟩) s.size s.size] 97) = w2 at *; skip) | (go_at_call 66; refine (AO.out _).mono ?_; rintro e w1 ⟨g, rfl, hg, hblk, hb1⟩; have HI1 := hide (HR.out.1.below hb1); have HK1 := hide (HR.out.2.below hb1); have HB1 := hide (below_go HB.out hb1); have HL1 := hide hblk; have hz1 : w.heap.size + 1 < w1.heap.size := HK1.out.lt; clear hblk hb1))
  have yi : w2.cell? ⟨w.heap.size, 0, none⟩ = some (.bool hd) := HI2.out.cell 0 rfl
  have yc0 : w2.cell? ⟨w1.heap.size, 0, none⟩ = some (.bool hd) := HC2.out.cell 0 rfl
  have yc1 : w2.cell? ⟨w1.heap.size, 1, none⟩ = some (.string s) := HC2.out.cell 1 rfl
  have yc2 : w2.cell? ⟨w1.heap.size, 2, none⟩ = some (.slice (some ⟨g, 0, none⟩) s.size s.size) := HC2.out.cell 2 rfl
  have hne1 : w.heap.size ≠ w.heap.size + 1 := by omega
  have hne2 : w1.heap.size ≠ w.heap.size + 1 := by omega
  have KEEP : Hid (∀ W' w3 va, W' = (((((w3.setCell ⟨w.heap.size + 1, 0, none⟩ (.bool hd)).setCell ⟨w.heap.size + 1, 1, none⟩ (.bool hd)).setCell ⟨w.heap.size + 1, 2, none⟩ (.string s)).setCell ⟨w.heap.size + 1, 3, none⟩ (.slice (some ⟨g, 0, none⟩) s.size s.size)).setCell ⟨w.heap.size + 1, 4, none⟩ va) → Row w3 w.heap.size #[.bool hd, .string s] 69 → Row w3 w1.heap.size #[.bool hd, .string s, .slice (some ⟨g, 0, none⟩) s.size s.size] 97 → W'.cell? ⟨w.heap.size, 0, none⟩ = some (.bool hd) ∧ W'.cell? ⟨w1.heap.size, 0, none⟩ = some (.bool hd) ∧ W'.cell? ⟨w1.heap.size, 1, none⟩ = some (.string s) ∧ W'.cell? ⟨w1.heap.size, 2, none⟩ = some (.slice (some ⟨g, 0, none⟩) s.size s.size)) := by
    apply hide
    rintro _ w3 va rfl h1 h2
    exact ⟨by rw [cellO hne1, cellO hne1, cellO hne1, cellO hne1, cellO hne1]; exact h1.cell 0 rfl, by rw [cellO hne2, cellO hne2, cellO hne2, cellO hne2, cellO hne2]; exact h2.cell 0 rfl, by rw [cellO hne2, cellO hne2, cellO hne2, cellO hne2, cellO hne2]; exact h2.cell 1 rfl, by rw [cellO hne2, cellO hne2, cellO hne2, cellO hne2, cellO hne2]; exact h2.cell 2 rfl⟩
  go_region_held3 (fun W' => W'.cell? ⟨w.heap.size, 0, none⟩ = some (.bool hd) ∧ W'.cell? ⟨w1.heap.size, 0, none⟩ = some (.bool hd) ∧ W'.cell? ⟨w1.heap.size, 1, none⟩ = some (.string s) ∧ W'.cell? ⟨w1.heap.size, 2, none⟩ = some (.slice (some ⟨g, 0, none⟩) s.size s.size)) (first | exact KEEP.out _ w3 _ (by with_reducible rfl) HI3.out HC3.out | go_keep) (first | (go_at_call 69; refine (AS.out _ g (HL2.out.below ((Below.refl _ _).drew))).mono ?_; rintro e w3 ⟨v, L, rfl, hown, hfin, hb3⟩; obtain ⟨ao, cc, hv⟩ := own_v hown; subst hv; have hb3' := below_go ((Below.refl w2.heap.size w2).drew) hb3; have HI3 := hide (HI2.out.below hb3'); have HC3 := hide (HC2.out.below hb3'); have HK3 := hide (HK2.out.below hb3'); have HO3 := hide hown; have HF3 := hide hfin; have xi : w3.cell? ⟨w.heap.size, 0, none⟩ = some (.bool hd) := HI3.out.cell 0 rfl; have xc0 : w3.cell? ⟨w1.heap.size, 0, none⟩ = some (.bool hd) := HC3.out.cell 0 rfl; have xc1 : w3.cell? ⟨w1.heap.size, 1, none⟩ = some (.string s) := HC3.out.cell 1 rfl; have xc2 : w3.cell? ⟨w1.heap.size, 2, none⟩ = some (.slice (some ⟨g, 0, none⟩) s.size s.size) := HC3.out.cell 2 rfl; have k0 : w3.cell? ⟨w.heap.size + 1, 0, none⟩ = some (.bool false) := HK3.out.cell 0 rfl; have f0 := HK3.out.frozen 0; have k1 : w3.cell? ⟨w.heap.size + 1, 1, none⟩ = some (.bool false) := HK3.out.cell 1 rfl; have f1 := HK3.out.frozen 1; have k2 : w3.cell? ⟨w.heap.size + 1, 2, none⟩ = some (.string ⟨#[]⟩) := HK3.out.cell 2 rfl; have f2 := HK3.out.frozen 2; have k3 : w3.cell? ⟨w.heap.size + 1, 3, none⟩ = some (.slice none 0 0) := HK3.out.cell 3 rfl; have f3 := HK3.out.frozen 3; have k4 : w3.cell? ⟨w.heap.size + 1, 4, none⟩ = some (.slice none 0 0) := HK3.out.cell 4 rfl; have f4 := HK3.out.frozen 4; clear hown hfin hb3))
  all_goals (
    have HK4 : Hid (Row (((((w3.setCell ⟨w.heap.size + 1, 0, none⟩ (.bool hd)).setCell ⟨w.heap.size + 1, 1, none⟩ (.bool hd)).setCell ⟨w.heap.size + 1, 2, none⟩ (.string s)).setCell ⟨w.heap.size + 1, 3, none⟩ (.slice (some ⟨g, 0, none⟩) s.size s.size)).setCell ⟨w.heap.size + 1, 4, none⟩ (.slice ao L.length cc)) (w.heap.size + 1) #[.bool hd, .bool hd, .string s, .slice (some ⟨g, 0, none⟩) s.size s.size, .slice ao L.length cc] 111) := by
      apply hide
      have := (((((HK3.out.set 0 (.bool hd)).set 1 (.bool hd)).set 2 (.string s)).set 3 (.slice (some ⟨g, 0, none⟩) s.size s.size)).set 4 (.slice ao L.length cc))
      simpa using this
    have hbw : Below w.heap.size w w3 := HB2.out.trans (hb3'.mono HB2.out.size)
    have HB4 := hide (((((hbw.setCell (p := ⟨w.heap.size + 1, 0, none⟩) (show w.heap.size ≤ w.heap.size + 1 by omega) (.bool hd)).setCell (p := ⟨w.heap.size + 1, 1, none⟩) (show w.heap.size ≤ w.heap.size + 1 by omega) (.bool hd)).setCell (p := ⟨w.heap.size + 1, 2, none⟩) (show w.heap.size ≤ w.heap.size + 1 by omega) (.string s)).setCell (p := ⟨w.heap.size + 1, 3, none⟩) (show w.heap.size ≤ w.heap.size + 1 by omega) (.slice (some ⟨g, 0, none⟩) s.size s.size)).setCell (p := ⟨w.heap.size + 1, 4, none⟩) (show w.heap.size ≤ w.heap.size + 1 by omega) (.slice ao L.length cc))
    have hsz : w.heap.size + 1 < w2.heap.size := HK2.out.lt
    have HO4 : Hid ((((((w3.setCell ⟨w.heap.size + 1, 0, none⟩ (.bool hd)).setCell ⟨w.heap.size + 1, 1, none⟩ (.bool hd)).setCell ⟨w.heap.size + 1, 2, none⟩ (.string s)).setCell ⟨w.heap.size + 1, 3, none⟩ (.slice (some ⟨g, 0, none⟩) s.size s.size)).setCell ⟨w.heap.size + 1, 4, none⟩ (.slice ao L.length cc)).ownsRow w.heap.size 118 10 (.slice ao L.length cc) L.length (rcsV L)) := by
      apply hide
      refine own_mono (own_same HO3.out (fun j hj hl => ?_)) (show w.heap.size ≤ w2.heap.size + 1 by omega)
      rw [heap_setCell_other _ _ _ _ (show j ≠ w.heap.size + 1 by simp at hj; omega), heap_setCell_other _ _ _ _ (show j ≠ w.heap.size + 1 by simp at hj; omega), heap_setCell_other _ _ _ _ (show j ≠ w.heap.size + 1 by simp at hj; omega), heap_setCell_other _ _ _ _ (show j ≠ w.heap.size + 1 by simp at hj; omega), heap_setCell_other _ _ _ _ (show j ≠ w.heap.size + 1 by simp at hj; omega)]
    clear KEEP
    generalize (((((w3.setCell ⟨w.heap.size + 1, 0, none⟩ (.bool hd)).setCell ⟨w.heap.size + 1, 1, none⟩ (.bool hd)).setCell ⟨w.heap.size + 1, 2, none⟩ (.string s)).setCell ⟨w.heap.size + 1, 3, none⟩ (.slice (some ⟨g, 0, none⟩) s.size s.size)).setCell ⟨w.heap.size + 1, 4, none⟩ (.slice ao L.length cc)) = w4 at *
    go_wp2
    exact bodyPost_ret (v := .agg #[.bool hd, .bool hd, .string s, .slice (some ⟨g, 0, none⟩) s.size s.size, .slice ao L.length cc]) (results_cell_row Try.results52 _ _ (w.heap.size + 1) 111 #[.bool hd, .bool hd, .string s, .slice (some ⟨g, 0, none⟩) s.size s.size, .slice ao L.length cc] (0, 0) _ rfl HK4.out.raw Try.underlying111 rfl Try.iKnown) rfl ⟨_, L, g, rfl, HO4.out, HF3.out, HB4.out⟩)
end Go.Proofs.Ytecmfdkhcffpmab
