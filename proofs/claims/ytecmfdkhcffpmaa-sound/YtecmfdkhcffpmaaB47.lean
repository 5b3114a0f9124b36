/- StG, StK. -/
import Derived.Test.YtecmfdkhcffpmaaB42
import Derived.Test.YtecmfdkhcffpmaaB45
/- Contracts of the program's reports: a table is gone round. -/
namespace Go.Proofs.Ytecmfdkhcffpmaa
open Go.RowKit
set_option linter.unusedSimpArgs false
set_option linter.unusedVariables false
set_option maxHeartbeats 8000000
open Mc

set_option maxRecDepth 100000 in
theorem far_any (T : Tb) (w : World) :
    Calls Try.prog 121 #[.agg (tbA T)] w fun e w' => e = .returned (.agg (tbA (fwK T 6))) ∧ Below w.heap.size w w' := by
  have ZA := hide (Row.two w (tbA T) (tbA (fun _ _ => false)) 158 158)
  have ZB := hide (below_two w (.cells (tbA T) 158) (.cells (tbA (fun _ _ => false)) 158))
  go_enter Try.func121, Try.ntmps121
  go_wp2_with (first | (refine wpList_allocT rfl rfl ?_))
  generalize (w.alloc (.cells (tbA T) 158)).alloc (.cells (tbA (fun _ _ => false)) 158) = W at *
  go_loopw [6] (fun c wr => ∃ k : Nat, k ≤ 6 ∧ c = .int .i64 k ∧ Row wr w.heap.size (tbA (fwK T k)) 158 ∧ Row wr (w.heap.size + 1) (tbA (fun _ _ => false)) 158 ∧ Below w.heap.size w wr) (fun c _ => 6 - (intOf c).toNat)
  case atStart => exact ⟨0, by omega, rfl, ZA.out.1, ZA.out.2, ZB.out⟩
  case round =>
    clear ZA ZB
    obtain ⟨k, hk, rfl, h1, h2, h3⟩ := hrel
    have H1 := hide h1
    have H2 := hide h2
    have H3 := hide h3
    clear h1 h2 h3
    by_cases hkt : k < 6
    · have hk0 : (0 : Int) ≤ (k : Int) := by omega
      go_wp2
      go_loopw [9] (fun c wr => ∃ i : Nat, i ≤ 6 ∧ c = .int .i64 i ∧ Row wr w.heap.size (tbA (fwI (fwK T k) k i)) 158 ∧ Row wr (w.heap.size + 1) (tbA (fun _ _ => false)) 158 ∧ Below w.heap.size w wr) (fun c _ => 6 - (intOf c).toNat)
      case atStart => exact ⟨0, by omega, rfl, H1.out, H2.out, H3.out⟩
      case round =>
        clear H1 H2 H3
        obtain ⟨i, hi, rfl, h1, h2, h3⟩ := hrel
        have H1 := hide h1
        have H2 := hide h2
        have H3 := hide h3
        clear h1 h2 h3
        by_cases hit : i < 6
        · have hi0 : (0 : Int) ≤ (i : Int) := by omega
          go_wp2
          go_loopw [12] (fun c wr => ∃ j : Nat, j ≤ 6 ∧ c = .int .i64 j ∧ Row wr w.heap.size (tbA (fwJ (fwI (fwK T k) k i) k i j)) 158 ∧ Row wr (w.heap.size + 1) (tbA (fun _ _ => false)) 158 ∧ Below w.heap.size w wr) (fun c _ => 6 - (intOf c).toNat)
          case atStart => exact ⟨0, by omega, rfl, H1.out, H2.out, H3.out⟩
          case round =>
            clear H1 H2 H3
            obtain ⟨j, hj, rfl, h1, h2, h3⟩ := hrel
            have H1 := hide h1
            have H2 := hide h2
            have H3 := hide h3
            clear h1 h2 h3
            by_cases hjt : j < 6
            · have c1 : wr.cell? ⟨w.heap.size, i * 6 + k, none⟩ = some (.bool (fwJ (fwI (fwK T k) k i) k i j i k)) := H1.out.cell _ (tbA_at _ _ _ hit hkt)
              have c2 : wr.cell? ⟨w.heap.size, k * 6 + j, none⟩ = some (.bool (fwJ (fwI (fwK T k) k i) k i j k j)) := H1.out.cell _ (tbA_at _ _ _ hkt hjt)
              have c3 : wr.cell? ⟨w.heap.size, i * 6 + j, none⟩ = some (.bool (fwJ (fwI (fwK T k) k i) k i j i j)) := H1.out.cell _ (tbA_at _ _ _ hit hjt)
              have f3 := H1.out.frozen (i * 6 + j)
              have hj0 : (0 : Int) ≤ (j : Int) := by omega
              have hset := hide (tbA_set (fwJ (fwI (fwK T k) k i) k i j) i j hit hjt true)
              have hyes := hide (fwJ_yes (fwI (fwK T k) k i) k i j)
              have hno := hide (fwJ_no (fwI (fwK T k) k i) k i j)
              generalize fwJ (fwI (fwK T k) k i) k i j i j = o0 at *
              generalize fwJ (fwI (fwK T k) k i) k i j i k = o1 at *
              generalize fwJ (fwI (fwK T k) k i) k i j k j = o2 at *
              cases o1 <;> cases o2 <;> (
                go_wp2
                go_round
                case measure => simp [intOf]; omega
                case rel =>
                  first
                  | exact ⟨j + 1, by omega, by go_num, by rw [hno.out rfl]; exact H1.out, H2.out, H3.out⟩
                  | exact ⟨j + 1, by omega, by go_num, by rw [hyes.out rfl, ← hset.out]; exact H1.out.set _ _, H2.out.setO (by omega) _ _, H3.out.setCell (Nat.le_refl _) _⟩)
            · have e : j = 6 := by omega
              subst e
              go_wp2
              go_round
              case measure => simp [intOf]; omega
              case rel => exact ⟨i + 1, by omega, by go_num, H1.out, H2.out, H3.out⟩
        · have e : i = 6 := by omega
          subst e
          go_wp2
          go_round
          case measure => simp [intOf]; omega
          case rel => exact ⟨k + 1, by omega, by go_num, H1.out, H2.out, H3.out⟩
    · have e : k = 6 := by omega
      subst e
      go_wp2_with (first | (refine wpList_load_row rfl 158 _ rfl _ rfl 158 (tbA (fwK T 6)) (0, 0) _ ?_ Try.underlying158 rfl (Try.iTb _) ?_; (exact H1.out.raw)) | (refine wpList_store_row rfl 158 _ _ rfl (w.heap.size + 1) (tbA (fwK T 6)) rfl rfl 158 (tbA (fun _ _ => false)) ?_ (Try.iTb _) (by rw [tbA_size, tbA_size]) (tbA_one _) ?_; (exact H2.out.raw)))
      exact bodyPost_ret (v := .agg (tbA (fwK T 6))) (results_cell_row Try.results121 _ _ (w.heap.size + 1) 158 _ (0, 0) _ rfl (H2.out.setRow _).raw Try.underlying158 rfl (Try.iTb _)) rfl ⟨rfl, below_setRow H3.out (by omega) _⟩
end Go.Proofs.Ytecmfdkhcffpmaa
/- Contracts of the program's reports: rings. -/
namespace Go.Proofs.Ytecmfdkhcffpmaa
open Go.RowKit
set_option linter.unusedSimpArgs false
set_option linter.unusedVariables false
set_option maxHeartbeats 8000000
open Mc

theorem Try.infoRep : (Try.prog.info? 41).map (fun i => (i.zero, i.size, i.bytes)) = some (some (.agg #[.int .i64 0, .int .i64 0, .int .i64 0]), 3, 24) := by kernel_rfl
def rpV (r : Rp) : List Value := [.int .i64 r.1, .int .i64 r.2.1, .int .i64 r.2.2]
theorem rpV_len (r : Rp) : (rpV r).length = 3 := rfl
/-- An own list of reports. -/
structure RepI (w W : World) (v : Value) (L : List Rp) : Prop where
  own : W.ownsRow w.heap.size 41 3 v L.length (L.flatMap rpV)
  b : Below w.heap.size w W
theorem own_nilA (w : World) (base : Nat) (t : TypeId) (n : Nat) (hb : base ≤ w.heap.size) : (w.alloc (.cells #[] t)).ownsRow base t n (.slice (some ⟨w.heap.size, 0, none⟩) 0 0) 0 [] := ⟨by simp, .inr ⟨w.heap.size, 0, #[], rfl, hb, heap_alloc_last _ _, Nat.le_refl _, by decide, by simp, by simp⟩⟩
theorem RepI.new (w : World) : RepI w (w.alloc (.cells #[] 41)) (.slice (some ⟨w.heap.size, 0, none⟩) 0 0) [] := ⟨own_nilA w _ _ _ (Nat.le_refl _), below_one _ _⟩
theorem RepI.below {w W W' : World} {v : Value} {L : List Rp} (h : RepI w W v L) (hb : Below W.heap.size W W') : RepI w W' v L := ⟨own_same h.own (fun j _ hl => hb.block j hl), below_go h.b hb⟩
theorem RepI.push {w W W' : World} {v v' : Value} {L : List Rp} {r : Rp} {o : Obj} (h : RepI w W v L) (ho : W'.ownsRow w.heap.size 41 3 v' (L ++ [r]).length ((L ++ [r]).flatMap rpV)) (hb : Below w.heap.size (W.alloc o) W') : RepI w W' v' (L ++ [r]) := ⟨ho, (h.b.alloc h.b.size o).trans hb⟩
set_option maxRecDepth 100000 in
theorem rings_any (w : World) (aao : Option Addr) (ac : Nat) (K : List Kn) (hK : KnAll w (.slice aao K.length ac) K) :
    Calls Try.prog 88 #[.slice aao K.length ac] w fun e w' => ∃ ao cc, e = .returned (.slice ao (ringL (fwK (edgesP (K.map kp)) 6) 6).length cc) ∧ RepI w w' (.slice ao (ringL (fwK (edgesP (K.map kp)) 6) 6).length cc) (ringL (fwK (edgesP (K.map kp)) 6) 6) := by
  have AE := hide (edgesOf_any (w.alloc (.cells #[] 41)) aao ac K (hK.below (below_one _ _)))
  clear hK
  have HR0 := hide (RepI.new w)
  generalize edgesP (K.map kp) = T at *
  have AF := hide (fun W => far_any T W)
  generalize fwK T 6 = F at *
  obtain ⟨i0, hj0, hz0, hz1, hz2⟩ := info_parts Try.infoRep
  go_enter Try.func88, Try.ntmps88
  go_wp2_with (first | (go_at_call 121; refine (AF.out _).mono ?_; rintro e w3 ⟨rfl, hb3⟩; have HR3 := hide (HR2.out.below hb3); clear hb3) | (refine wpList_load_row rfl 158 _ rfl _ rfl 158 (tbA T) (0, 0) _ ?_ Try.underlying158 rfl (Try.iTb _) ?_; (exact HT2.out.raw)) | (refine wpList_store_row rfl 158 _ _ rfl w1.heap.size (tbA T) rfl rfl 158 (tbA (fun _ _ => false)) ?_ (Try.iTb _) (by rw [tbA_size, tbA_size]) (tbA_one _) ?_; (exact (Row.new w1 (tbA (fun _ _ => false)) 158).raw); rw [World.setRow_alloc_new]; have HR2 := hide (HR1.out.below (below_one w1 (.cells (tbA T) 158))); have HT2 := hide (Row.new w1 (tbA T) 158); generalize w1.alloc (.cells (tbA T) 158) = w2 at *) | (refine wpList_allocT rfl rfl ?_) | (go_at_call 103; refine (AE.out).mono ?_; rintro e w1 ⟨rfl, hb1⟩; have HR1 := hide (HR0.out.below hb1); clear hb1))
  clear HR0 HR1 HR2 HT2 AE AF
  go_loopw [3, 12] (fun a c wr => ∃ l : Nat, l ≤ 6 ∧ c = .int .i64 l ∧ RepI w wr a (ringL F l)) (fun _ c _ => 6 - (intOf c).toNat)
  case atStart => exact ⟨0, by omega, rfl, HR3.out⟩
  case round =>
    clear HR3
    obtain ⟨l, hl, rfl, hr⟩ := hrel
    have HR := hide hr
    clear hr
    obtain ⟨ao, cc, hv⟩ := own_v HR.out.own
    subst hv
    by_cases hlt : l < 6
    · have hix := hide (ixRow F l hlt)
      have hl0 : (0 : Int) ≤ (l : Int) := by omega
      have hlen := ringL_len F l
      have hsz := HR.out.b.size
      have hyes := hide (ringL_yes F l)
      have hno := hide (ringL_no F l)
      have HF : Hid (∀ W, Row W wr.heap.size (bsA 6 (fun m => F l m)) 90 → W.cell? ⟨wr.heap.size, l, none⟩ = some (.bool (F l l))) := hide (fun W h => h.cell l (bsA_at _ _ _ hlt))
      generalize F l l = o at *
      generalize (fun m => F l m) = f at *
      cases o
      · go_wp2_with (first | (refine wpList_store_row rfl 90 _ _ rfl wr.heap.size (bsA 6 f) rfl rfl 90 #[.bool false, .bool false, .bool false, .bool false, .bool false, .bool false] ?_ (Try.iSix _) rfl (bsA_one _ _) ?_; (exact (Row.new wr #[.bool false, .bool false, .bool false, .bool false, .bool false, .bool false] 90).raw); rw [World.setRow_alloc_new]; have HR1 := hide (HR.out.below (below_one wr (.cells (bsA 6 f) 90))); have y1 := HF.out _ (Row.new wr (bsA 6 f) 90); have hs1 : wr.heap.size < (wr.alloc (.cells (bsA 6 f) 90)).heap.size := (Row.new wr (bsA 6 f) 90).lt; generalize wr.alloc (.cells (bsA 6 f) 90) = w1 at *) | (refine wpList_ixTo rfl _ _ _ rfl _ (hix.out _) ?_))
        go_round
        case measure => simp [intOf]; omega
        case rel => exact ⟨l + 1, by omega, by go_num, by rw [hno.out rfl]; exact HR1.out⟩
      · go_wp2_with (first | (at_builtin; refine wpList_push (f := rpV) rpV_len rfl _ _ 35 rfl (w.heap.size) 41 i0 _ 24 Try.underlying35 hj0 hz0 hz1 hz2 rfl (by decide) _ (ringL F l) (6, -1, ((l : Nat) : Int)) rfl ⟨_, 0, none⟩ rfl ?_ ?_ ?_ ?_ ?_ ?_ ?_; (exact HR1.out.own.alloc _); (exact newsL _ _ _); (intro x hx; simp [rpV] at hx; rcases hx with rfl | rfl | rfl <;> rfl); (unfold maxLen; omega); (omega); (exact (by simp; omega)); intro ao' cc' w2 hown' hbel' hsame' hat'; have HOw2 := hide hown'; have HBLw2 := hide hbel'; clear hown' hbel' hsame' hat') | (refine wpList_store_row rfl 90 _ _ rfl wr.heap.size (bsA 6 f) rfl rfl 90 #[.bool false, .bool false, .bool false, .bool false, .bool false, .bool false] ?_ (Try.iSix _) rfl (bsA_one _ _) ?_; (exact (Row.new wr #[.bool false, .bool false, .bool false, .bool false, .bool false, .bool false] 90).raw); rw [World.setRow_alloc_new]; have HR1 := hide (HR.out.below (below_one wr (.cells (bsA 6 f) 90))); have y1 := HF.out _ (Row.new wr (bsA 6 f) 90); have hs1 : wr.heap.size < (wr.alloc (.cells (bsA 6 f) 90)).heap.size := (Row.new wr (bsA 6 f) 90).lt; generalize wr.alloc (.cells (bsA 6 f) 90) = w1 at *) | (refine wpList_ixTo rfl _ _ _ rfl _ (hix.out _) ?_))
        go_round
        case measure => simp [intOf]; omega
        case rel => exact ⟨l + 1, by omega, by go_num, by rw [hyes.out rfl]; exact HR1.out.push HOw2.out HBLw2.out⟩
    · have e : l = 6 := by omega
      subst e
      go_wp2
      go_ret
      exact ⟨ao, cc, rfl, HR.out⟩
end Go.Proofs.Ytecmfdkhcffpmaa
