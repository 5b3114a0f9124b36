/- StF, StH. -/
import Derived.Test.YtecmfdkhcffpmaaB41
import Derived.Deep.MidRow
/- Contracts of the program's reports: tables of edges. -/
namespace Go.Proofs.Ytecmfdkhcffpmaa
open Go.RowKit
set_option linter.unusedSimpArgs false
set_option linter.unusedVariables false
set_option maxHeartbeats 8000000
open Mc

theorem Try.uHeld : Try.prog.underlying 112 = some (.array 6 4) := by kernel_rfl
theorem ixHb (f : Nat → Bool) (i : Nat) (hi : i < 6) (w : World) : (Instr.index 112 (.agg (bsA 6 f)) (.int .i64 (i : Int))).run Try.prog w = .ok (.bool (f i)) w := ixB 112 6 Try.uHeld _ i hi _ (bsA_at _ _ _ hi) w
theorem Row.four (w : World) (a b c d : Array Value) (s t u v : TypeId) : Row ((((w.alloc (.cells a s)).alloc (.cells b t)).alloc (.cells c u)).alloc (.cells d v)) w.heap.size a s ∧ Row ((((w.alloc (.cells a s)).alloc (.cells b t)).alloc (.cells c u)).alloc (.cells d v)) (w.heap.size + 1) b t ∧ Row ((((w.alloc (.cells a s)).alloc (.cells b t)).alloc (.cells c u)).alloc (.cells d v)) (w.heap.size + 2) c u ∧ Row ((((w.alloc (.cells a s)).alloc (.cells b t)).alloc (.cells c u)).alloc (.cells d v)) (w.heap.size + 3) d v := by
  obtain ⟨h1, h2, h3⟩ := Row.three w a b c s t u
  refine ⟨h1.alloc _, h2.alloc _, h3.alloc _, ?_⟩
  have := Row.new (((w.alloc (.cells a s)).alloc (.cells b t)).alloc (.cells c u)) d v
  simpa using this
theorem below_four (w : World) (a b c d : Obj) : Below w.heap.size w ((((w.alloc a).alloc b).alloc c).alloc d) := (below_three w a b c).alloc (by simp; omega) d
/-- Held.Or -/
def orTo (fa fb : Nat → Bool) (k : Nat) : Nat → Bool := fun i => fa i || (decide (i < k) && fb i)
theorem orTo_zero (fa fb : Nat → Bool) : bsA 6 (orTo fa fb 0) = bsA 6 fa := bsA_congr (fun i _ => by simp [orTo])
theorem orTo_six (fa fb : Nat → Bool) : bsA 6 (orTo fa fb 6) = bsA 6 (fun i => fa i || fb i) := bsA_congr (fun i hi => by simp [orTo, hi])
theorem orTo_step (fa fb : Nat → Bool) (k : Nat) (hk : k < 6) : (bsA 6 (orTo fa fb k)).setIfInBounds k (.bool (orTo fa fb k k || fb k)) = bsA 6 (orTo fa fb (k + 1)) := by
  rw [bsA_set]
  refine bsA_congr (fun i hi => ?_)
  unfold orTo
  by_cases e : i = k
  · subst e; simp
  · rw [if_neg e]
    have : decide (i < k) = decide (i < k + 1) := by simp; omega
    rw [this]
set_option maxRecDepth 100000 in
theorem heldOrB (fa fb : Nat → Bool) (w : World) :
    Calls Try.prog 131 #[.agg (bsA 6 fa), .agg (bsA 6 fb)] w fun e w' => e = .returned (.agg (bsA 6 (fun i => fa i || fb i))) ∧ Below w.heap.size w w' := by
  have ZA := hide (Row.three w (bsA 6 fa) (bsA 6 fb) #[.bool false, .bool false, .bool false, .bool false, .bool false, .bool false] 112 112 112)
  have ZB := hide (below_three w (.cells (bsA 6 fa) 112) (.cells (bsA 6 fb) 112) (.cells #[.bool false, .bool false, .bool false, .bool false, .bool false, .bool false] 112))
  go_enter Try.func131, Try.ntmps131
  go_wp2_with (first | (refine wpList_load_row rfl 112 _ rfl _ rfl 112 (bsA 6 fb) (0, 0) _ ?_ Try.underlying112 rfl (Try.iHeldB _) ?_; (exact ZA.out.2.1.raw)))
  generalize ((w.alloc (.cells (bsA 6 fa) 112)).alloc (.cells (bsA 6 fb) 112)).alloc (.cells #[.bool false, .bool false, .bool false, .bool false, .bool false, .bool false] 112) = W at *
  go_loopw [8] (fun c wr => ∃ k : Nat, k ≤ 6 ∧ c = .int .i64 k ∧ Row wr w.heap.size (bsA 6 (orTo fa fb k)) 112 ∧ Row wr (w.heap.size + 2) #[.bool false, .bool false, .bool false, .bool false, .bool false, .bool false] 112 ∧ Below w.heap.size w wr) (fun c _ => 6 - (intOf c).toNat)
  case atStart => exact ⟨0, by omega, rfl, by rw [orTo_zero]; exact ZA.out.1, ZA.out.2.2, ZB.out⟩
  case round =>
    clear ZA ZB
    obtain ⟨k, hk, rfl, h1, h2, h3⟩ := hrel
    have H1 := hide h1
    have H2 := hide h2
    have H3 := hide h3
    clear h1 h2 h3
    by_cases hlt : k < 6
    · have c1 : wr.cell? ⟨w.heap.size, k, none⟩ = some (.bool (orTo fa fb k k)) := H1.out.cell k (bsA_at _ _ _ hlt)
      have f1 := H1.out.frozen k
      have hix := hide (ixHb fb k hlt)
      have hst := hide (orTo_step fa fb k hlt)
      generalize orTo fa fb k k = o1 at *
      generalize fb k = o2 at *
      cases o1 <;> (
        go_wp2_with (refine wpList_ixTo rfl _ _ _ rfl _ (hix.out _) ?_)
        go_round
        case measure => simp [intOf]; omega
        case rel =>
          refine ⟨k + 1, by omega, by go_num, ?_, H2.out.setO (by omega) _ _, H3.out.setCell (Nat.le_refl _) _⟩
          rw [← hst.out]
          first | exact H1.out.set k _ | (simp only [Bool.false_or, Bool.true_or]; exact H1.out.set k _))
    · have e : k = 6 := by omega
      subst e
      rw [orTo_six] at H1
      go_wp2_with (first | (refine wpList_load_row rfl 112 _ rfl _ rfl 112 (bsA 6 (fun i => fa i || fb i)) (0, 0) _ ?_ Try.underlying112 rfl (Try.iHeldB _) ?_; (exact H1.out.raw)) | (refine wpList_store_row rfl 112 _ _ rfl (w.heap.size + 2) (bsA 6 (fun i => fa i || fb i)) rfl rfl 112 #[.bool false, .bool false, .bool false, .bool false, .bool false, .bool false] ?_ (Try.iHeldB _) rfl (bsA_one _ _) ?_; (exact H2.out.raw)))
      exact bodyPost_ret (v := .agg (bsA 6 (fun i => fa i || fb i))) (results_cell_row Try.results131 _ _ (w.heap.size + 2) 112 _ (0, 0) _ rfl (H2.out.setRow _).raw Try.underlying112 rfl (Try.iHeldB _)) rfl ⟨rfl, below_setRow H3.out (by omega) _⟩
/-- edges.with, so far -/
def wt (T : Tb) (fa fb : Nat → Bool) (l m : Nat) : Tb := fun x y => T x y || ((decide (x < l) || (decide (x = l) && decide (y < m))) && fa x && fb y)
theorem wt_zero (T : Tb) (fa fb : Nat → Bool) : tbA (wt T fa fb 0 0) = tbA T := tbA_congr (fun x _ y _ => by simp [wt])
theorem wt_row (T : Tb) (fa fb : Nat → Bool) (l : Nat) : tbA (wt T fa fb l 6) = tbA (wt T fa fb (l + 1) 0) := tbA_congr (fun x _ y hy => by
  unfold wt
  have : (decide (x < l) || (decide (x = l) && decide (y < 6))) = (decide (x < l + 1) || (decide (x = l + 1) && decide (y < 0))) := by
    simp [hy]
    by_cases h1 : x < l <;> by_cases h2 : x = l <;> simp [h1, h2] <;> omega
  rw [this])
theorem wt_end (T : Tb) (fa fb : Nat → Bool) : tbA (wt T fa fb 6 0) = tbA (fun x y => T x y || (fa x && fb y)) := tbA_congr (fun x hx y _ => by simp [wt, hx])
theorem wt_yes (T : Tb) (fa fb : Nat → Bool) (l m : Nat) (h1 : fa l = true) (h2 : fb m = true) : tbA (upT (wt T fa fb l m) l m true) = tbA (wt T fa fb l (m + 1)) := tbA_congr (fun x _ y _ => by
  unfold upT
  by_cases e : x = l ∧ y = m
  · rw [if_pos e, e.1, e.2]; simp [wt, h1, h2]
  · rw [if_neg e]
    unfold wt
    have : (decide (x < l) || (decide (x = l) && decide (y < m))) = (decide (x < l) || (decide (x = l) && decide (y < m + 1))) := by
      by_cases h3 : x = l
      · have : decide (y < m) = decide (y < m + 1) := by simp; omega
        rw [this]
      · simp [h3]
    rw [this])
theorem wt_no (T : Tb) (fa fb : Nat → Bool) (l m : Nat) (h : (fa l && fb m) = false) : tbA (wt T fa fb l m) = tbA (wt T fa fb l (m + 1)) := tbA_congr (fun x _ y _ => by
  unfold wt
  by_cases e : x = l ∧ y = m
  · rw [e.1, e.2, Bool.and_assoc, Bool.and_assoc, h]; simp
  · have : (decide (x < l) || (decide (x = l) && decide (y < m))) = (decide (x < l) || (decide (x = l) && decide (y < m + 1))) := by
      by_cases h3 : x = l
      · have : decide (y < m) = decide (y < m + 1) := by simp; omega
        rw [this]
      · simp [h3]
    rw [this])
set_option maxRecDepth 100000 in
theorem withB (T : Tb) (fa fb : Nat → Bool) (w : World) :
    Calls Try.prog 130 #[.agg (tbA T), .agg (bsA 6 fa), .agg (bsA 6 fb)] w fun e w' => e = .returned (.agg (tbA (fun x y => T x y || (fa x && fb y)))) ∧ Below w.heap.size w w' := by
  have ZA := hide (Row.four w (tbA T) (bsA 6 fa) (bsA 6 fb) (tbA (fun _ _ => false)) 158 112 112 158)
  have ZB := hide (below_four w (.cells (tbA T) 158) (.cells (bsA 6 fa) 112) (.cells (bsA 6 fb) 112) (.cells (tbA (fun _ _ => false)) 158))
  go_enter Try.func130, Try.ntmps130
  go_wp2_with (first | (refine wpList_load_row rfl 112 _ rfl _ rfl 112 (bsA 6 fa) (0, 0) _ ?_ Try.underlying112 rfl (Try.iHeldB _) ?_; (exact ZA.out.2.1.raw)) | (refine wpList_allocT rfl rfl ?_))
  generalize (((w.alloc (.cells (tbA T) 158)).alloc (.cells (bsA 6 fa) 112)).alloc (.cells (bsA 6 fb) 112)).alloc (.cells (tbA (fun _ _ => false)) 158) = W at *
  go_loopw [12] (fun c wr => ∃ l : Nat, l ≤ 6 ∧ c = .int .i64 l ∧ Row wr w.heap.size (tbA (wt T fa fb l 0)) 158 ∧ Row wr (w.heap.size + 2) (bsA 6 fb) 112 ∧ Row wr (w.heap.size + 3) (tbA (fun _ _ => false)) 158 ∧ Below w.heap.size w wr) (fun c _ => 6 - (intOf c).toNat)
  case atStart => exact ⟨0, by omega, rfl, by rw [wt_zero]; exact ZA.out.1, ZA.out.2.2.1, ZA.out.2.2.2, ZB.out⟩
  case round =>
    clear ZA ZB
    obtain ⟨l, hl, rfl, h1, h2, h3, h4⟩ := hrel
    have H1 := hide h1
    have H2 := hide h2
    have H3 := hide h3
    have H4 := hide h4
    clear h1 h2 h3 h4
    by_cases hlt : l < 6
    · have hix := hide (ixHb fa l hlt)
      have hl0 : (0 : Int) ≤ (l : Int) := by omega
      go_wp2_with (first | (refine wpList_load_row rfl 112 _ rfl _ rfl 112 (bsA 6 fb) (0, 0) _ ?_ Try.underlying112 rfl (Try.iHeldB _) ?_; (exact H2.out.raw)) | (refine wpList_ixTo rfl _ _ _ rfl _ (hix.out _) ?_))
      go_loopw [17] (fun c wr => ∃ m : Nat, m ≤ 6 ∧ c = .int .i64 m ∧ Row wr w.heap.size (tbA (wt T fa fb l m)) 158 ∧ Row wr (w.heap.size + 2) (bsA 6 fb) 112 ∧ Row wr (w.heap.size + 3) (tbA (fun _ _ => false)) 158 ∧ Below w.heap.size w wr) (fun c _ => 6 - (intOf c).toNat)
      case atStart => exact ⟨0, by omega, rfl, H1.out, H2.out, H3.out, H4.out⟩
      case round =>
        clear H1 H2 H3 H4 hix
        obtain ⟨m, hm, rfl, h1, h2, h3, h4⟩ := hrel
        have H1 := hide h1
        have H2 := hide h2
        have H3 := hide h3
        have H4 := hide h4
        clear h1 h2 h3 h4
        by_cases hmt : m < 6
        · have hix := hide (ixHb fb m hmt)
          have c1 : wr.cell? ⟨w.heap.size, l * 6 + m, none⟩ = some (.bool (wt T fa fb l m l m)) := H1.out.cell _ (tbA_at _ _ _ hlt hmt)
          have f1 := H1.out.frozen (l * 6 + m)
          have hm0 : (0 : Int) ≤ (m : Int) := by omega
          have hyes := hide (wt_yes T fa fb l m)
          have hno := hide (wt_no T fa fb l m)
          have hset := hide (tbA_set (wt T fa fb l m) l m hlt hmt true)
          generalize wt T fa fb l m l m = o0 at *
          generalize fa l = o1 at *
          generalize fb m = o2 at *
          cases o1 <;> cases o2 <;> (
            go_wp2_with (refine wpList_ixTo rfl _ _ _ rfl _ (hix.out _) ?_)
            go_round
            case measure => simp [intOf]; omega
            case rel =>
              first
              | exact ⟨m + 1, by omega, by go_num, by rw [← hno.out rfl]; exact H1.out, H2.out, H3.out, H4.out⟩
              | exact ⟨m + 1, by omega, by go_num, by rw [← hyes.out rfl rfl, ← hset.out]; exact H1.out.set _ _, H2.out.setO (by omega) _ _, H3.out.setO (by omega) _ _, H4.out.setCell (Nat.le_refl _) _⟩)
        · have e : m = 6 := by omega
          subst e
          rw [wt_row] at H1
          go_wp2
          go_round
          case measure => simp [intOf]; omega
          case rel => exact ⟨l + 1, by omega, by go_num, H1.out, H2.out, H3.out, H4.out⟩
    · have e : l = 6 := by omega
      subst e
      rw [wt_end] at H1
      go_wp2_with (first | (refine wpList_load_row rfl 158 _ rfl _ rfl 158 (tbA (fun x y => T x y || (fa x && fb y))) (0, 0) _ ?_ Try.underlying158 rfl (Try.iTb _) ?_; (exact H1.out.raw)) | (refine wpList_store_row rfl 158 _ _ rfl (w.heap.size + 3) (tbA (fun x y => T x y || (fa x && fb y))) rfl rfl 158 (tbA (fun _ _ => false)) ?_ (Try.iTb _) (by rw [tbA_size, tbA_size]) (tbA_one _) ?_; (exact H3.out.raw)))
      exact bodyPost_ret (v := .agg (tbA (fun x y => T x y || (fa x && fb y)))) (results_cell_row Try.results130 _ _ (w.heap.size + 3) 158 _ (0, 0) _ rfl (H3.out.setRow _).raw Try.underlying158 rfl (Try.iTb _)) rfl ⟨rfl, below_setRow H4.out (by omega) _⟩
end Go.Proofs.Ytecmfdkhcffpmaa
/- Contracts of the program's reports: visits that clash. -/
namespace Go.Proofs.Ytecmfdkhcffpmaa
open Go.RowKit
set_option linter.unusedSimpArgs false
set_option linter.unusedVariables false
set_option maxHeartbeats 8000000
open Mc

theorem Try.uS64 : Try.prog.underlying 206 = some (.array 64 4) := by kernel_rfl
theorem Try.i64 : (Try.prog.info? 206).map (·.size) = some 64 := by kernel_rfl
theorem ixVb (f : Nat → Bool) (i : Nat) (hi : i < 64) (w : World) : (Instr.index 206 (.agg (bsA 64 f)) (.int .i64 (i : Int))).run Try.prog w = .ok (.bool (f i)) w := ixB 206 64 Try.uS64 _ i hi _ (bsA_at _ _ _ hi) w
theorem wpList_load_bs {ops : Array Oper} {rest : List Oper} {op : Oper} {a : Act} {w : World} {Q : Exit → Act → World → Prop} (hgd : op.guard = none) (ty : TypeId) (x : Operand) (ho : op.op = .load ty x)
    (b o : Nat) (hx : a.eval x = .pointer (some ⟨b, o, none⟩)) (n : Nat) (f : Nat → Bool) (d : TypeDesc) (hc : ∀ i, i < n → w.cell? ⟨b, o + i, none⟩ = some (.bool (f i)))
    (hu : Try.prog.underlying ty = some d) (hd : d.isRow = true) (hi : (Try.prog.info? ty).map (·.size) = some n)
    (h : wpList Try.prog ops Q rest (a.put op.dst (.agg (bsA n f))) w) : wpList Try.prog ops Q (op :: rest) a w := by
  refine wpList_load_mid hgd ty x ho b o hx ((List.range n).map (fun i => Value.bool (f i))) d ?_ hu hd (by simpa using hi) h
  intro j v hj
  rw [List.getElem?_map] at hj
  by_cases hjn : j < n
  · rw [List.getElem?_range hjn] at hj
    cases hj
    exact hc j hjn
  · rw [List.getElem?_eq_none (by simp; omega)] at hj
    cases hj
theorem Row.ei {w : World} {g : Nat} {v : Vi} (h : Row w g (viA v) 208) : ∀ i, i < 64 → w.cell? ⟨g, 64 + i, none⟩ = some (.bool (v.ei i)) := fun i hi => h.cell _ (viA_ei v i hi)
theorem bits_and0 (x y : Nat) (hx : x < 64) (hy : y < 64) : ((bits BinOp.and IntKind.i64 (x : Int) (y : Int) = 0) ↔ (x &&& y = 0)) := by
  have h : ∀ x : Fin 64, ∀ y : Fin 64, ((bits BinOp.and IntKind.i64 ((x.val : Nat) : Int) ((y.val : Nat) : Int) = 0) ↔ (x.val &&& y.val = 0)) := by decide
  exact h ⟨x, hx⟩ ⟨y, hy⟩
set_option maxRecDepth 100000 in
theorem vclash_any (v o : Vi) (w : World) :
    Calls Try.prog 149 #[.agg (viA v), .agg (viA o)] w fun e w' => e = .returned (.bool (clashV v o)) ∧ Below w.heap.size w w' := by
  have ZA := hide (Row.two w (viA v) (viA o) 208 208)
  have ZB := hide (below_two w (.cells (viA v) 208) (.cells (viA o) 208))
  go_enter Try.func149, Try.ntmps149
  go_wp2_with (first | (refine wpList_load_bs rfl 206 _ rfl _ _ rfl 64 v.ei _ ?_ Try.uS64 rfl Try.i64 ?_; (exact ZA.out.1.ei)))
  generalize (w.alloc (.cells (viA v) 208)).alloc (.cells (viA o) 208) = W at *
  go_loop [11] (fun c => ∃ x : Nat, x ≤ 64 ∧ c = .int .i64 x ∧ clashTo v o x = false) (fun c => 64 - (intOf c).toNat)
  case atStart => exact ⟨0, by omega, rfl, rfl⟩
  case round =>
    obtain ⟨x, hx, rfl, h1⟩ := hrel
    have H1 := hide h1
    clear h1
    by_cases hxt : x < 64
    · have hx0 : (0 : Int) ≤ (x : Int) := by omega
      have hix := hide (ixVb v.ei x hxt)
      go_wp2_with (first | (refine wpList_load_bs rfl 206 _ rfl _ _ rfl 64 o.ei _ ?_ Try.uS64 rfl Try.i64 ?_; (exact ZA.out.2.ei)) | (refine wpList_ixTo rfl _ _ _ rfl _ (hix.out _) ?_))
      go_loop [17] (fun c => ∃ y : Nat, y ≤ 64 ∧ c = .int .i64 y ∧ clashRow v o x y = false) (fun c => 64 - (intOf c).toNat)
      case atStart => exact ⟨0, by omega, rfl, rfl⟩
      case round =>
        clear hix
        obtain ⟨y, hy, rfl, h2⟩ := hrel
        have H2 := hide h2
        clear h2
        by_cases hyt : y < 64
        · have hy0 : (0 : Int) ≤ (y : Int) := by omega
          have hix := hide (ixVb o.ei y hyt)
          have c1 : W.cell? ⟨w.heap.size, x, none⟩ = some (.bool (v.wr x)) := ZA.out.1.cell _ (viA_wr v x hxt)
          have c2 : W.cell? ⟨w.heap.size + 1, y, none⟩ = some (.bool (o.wr y)) := ZA.out.2.cell _ (viA_wr o y hyt)
          have hs := hide (clashRow_succ v o x y)
          have hyes := hide (fun h => clashTo_of (n := 64) hxt (clashRow_of (v := v) (o := o) (x := x) (n := 64) hyt h))
          have hbz : (bits BinOp.and IntKind.i64 (x : Int) (y : Int) = 0) ↔ (x &&& y = 0) := bits_and0 x y hxt hyt
          generalize v.ei x = o1 at *
          generalize o.ei y = o2 at *
          generalize v.wr x = o3 at *
          generalize o.wr y = o4 at *
          cases o1
          · clear hbz
            go_wp2_with (refine wpList_ixTo rfl _ _ _ rfl _ (hix.out _) ?_)
            go_round
            case measure => simp [intOf]; omega
            case rel => exact ⟨y + 1, by omega, by go_num, by rw [hs.out, H2.out]; rfl⟩
          cases o2
          · clear hbz
            go_wp2_with (refine wpList_ixTo rfl _ _ _ rfl _ (hix.out _) ?_)
            go_round
            case measure => simp [intOf]; omega
            case rel => exact ⟨y + 1, by omega, by go_num, by rw [hs.out, H2.out]; rfl⟩
          by_cases hz : x &&& y = 0
          · have hz1 := hbz.2 hz
            have HZ := hide hz
            clear hbz hz
            cases o3
            · cases o4
              · go_wp2_with (refine wpList_ixTo rfl _ _ _ rfl _ (hix.out _) ?_)
                go_round
                case measure => simp [intOf]; omega
                case rel => exact ⟨y + 1, by omega, by go_num, by rw [hs.out, H2.out]; simp⟩
              · go_wp2_with (refine wpList_ixTo rfl _ _ _ rfl _ (hix.out _) ?_)
                go_ret
                exact ⟨ret_bool (by rw [← clashTo_all, hyes.out (by simp [HZ.out])]), ZB.out⟩
            · go_wp2_with (refine wpList_ixTo rfl _ _ _ rfl _ (hix.out _) ?_)
              go_ret
              exact ⟨ret_bool (by rw [← clashTo_all, hyes.out (by simp [HZ.out])]), ZB.out⟩
          · have hz1 : ¬ (bits BinOp.and IntKind.i64 (x : Int) (y : Int) = 0) := fun e => hz (hbz.1 e)
            have HZ := hide hz
            clear hbz hz
            go_wp2_with (refine wpList_ixTo rfl _ _ _ rfl _ (hix.out _) ?_)
            go_round
            case measure => simp [intOf]; omega
            case rel => exact ⟨y + 1, by omega, by go_num, by rw [hs.out, H2.out]; simp [HZ.out]⟩
        · have e : y = 64 := by omega
          subst e
          go_wp2
          go_round
          case measure => simp [intOf]; omega
          case rel => exact ⟨x + 1, by omega, by go_num, by rw [clashTo_succ, H1.out, H2.out]; rfl⟩
    · have e : x = 64 := by omega
      subst e
      go_wp2
      go_ret
      exact ⟨ret_bool (by rw [← clashTo_all]; exact H1.out.symm), ZB.out⟩
end Go.Proofs.Ytecmfdkhcffpmaa
