/- DocG. -/
import Derived.Test.YtecmfdkhcffpmaaB42
import Derived.BigRegion
import Derived.Test.YtecmfdkhcffpmaaB43
/- Contracts of the document's reports: rings. -/
namespace Go.Proofs.Ytecmfdkhcffpmaa
open Go.RowKit
set_option linter.unusedSimpArgs false
set_option linter.unusedVariables false
set_option maxHeartbeats 8000000
open Mc

theorem Row.drew {w : World} {g : Nat} {cs : Array Value} {t : TypeId} (h : Row w g cs t) : Row w.drew g cs t := h
theorem fwJ_upT (T : Tb) (k i j : Nat) : fwJ T k i (j + 1) = upT (fwJ T k i j) i j (fwJ T k i j i j || (fwJ T k i j i k && fwJ T k i j k j)) := rfl
set_option maxRecDepth 100000 in
theorem drings_any (T : Tb) (w : World) :
    Calls Try.prog 62 #[.agg (tbA T)] w fun e w' => ∃ ao cc, e = .returned (.slice ao (ringL (fwK T 6) 6).length cc) ∧ RepI w w' (.slice ao (ringL (fwK T 6) 6).length cc) (ringL (fwK T 6) 6) := by
  have ZA := hide (Row.new w (tbA T) 92)
  have ZB := hide (below_one w (.cells (tbA T) 92))
  obtain ⟨i0, hj0, hz0, hz1, hz2⟩ := info_parts Try.infoRep
  obtain ⟨F, hF⟩ : ∃ F, fwK T 6 = F := ⟨_, rfl⟩
  have HF := hide hF
  rw [hF]
  clear hF
  go_enter Try.func62, Try.ntmps62
  go_wp2
  generalize w.alloc (.cells (tbA T) 92) = W at *
  go_loopw [3] (fun c wr => ∃ k : Nat, k ≤ 6 ∧ c = .int .i64 k ∧ Row wr w.heap.size (tbA (fwK T k)) 92 ∧ Below w.heap.size w wr) (fun c _ => 6 - (intOf c).toNat)
  case atStart => exact ⟨0, by omega, rfl, ZA.out, ZB.out⟩
  case round =>
    clear ZA ZB
    obtain ⟨k, hk, rfl, h1, h3⟩ := hrel
    have H1 := hide h1
    have H3 := hide h3
    clear h1 h3
    by_cases hkt : k < 6
    · have hk0 : (0 : Int) ≤ (k : Int) := by omega
      have hkI : (k : Int) < 6 := by omega
      go_wp2
      go_loopw [4] (fun c wr => ∃ i : Nat, i ≤ 6 ∧ c = .int .i64 i ∧ Row wr w.heap.size (tbA (fwI (fwK T k) k i)) 92 ∧ Below w.heap.size w wr) (fun c _ => 6 - (intOf c).toNat)
      case atStart => exact ⟨0, by omega, rfl, H1.out, H3.out⟩
      case round =>
        clear H1 H3
        obtain ⟨i, hi, rfl, h1, h3⟩ := hrel
        have H1 := hide h1
        have H3 := hide h3
        clear h1 h3
        by_cases hit : i < 6
        · have hi0 : (0 : Int) ≤ (i : Int) := by omega
          have hiI : (i : Int) < 6 := by omega
          go_wp2
          go_loopw [5] (fun c wr => ∃ j : Nat, j ≤ 6 ∧ c = .int .i64 j ∧ Row wr w.heap.size (tbA (fwJ (fwI (fwK T k) k i) k i j)) 92 ∧ Below w.heap.size w wr) (fun c _ => 6 - (intOf c).toNat)
          case atStart => exact ⟨0, by omega, rfl, H1.out, H3.out⟩
          case round =>
            clear H1 H3
            obtain ⟨j, hj, rfl, h1, h3⟩ := hrel
            have H1 := hide h1
            have H3 := hide h3
            clear h1 h3
            by_cases hjt : j < 6
            · have c1 : wr.cell? ⟨w.heap.size, i * 6 + k, none⟩ = some (.bool (fwJ (fwI (fwK T k) k i) k i j i k)) := H1.out.cell _ (tbA_at _ _ _ hit hkt)
              have c2 : wr.cell? ⟨w.heap.size, k * 6 + j, none⟩ = some (.bool (fwJ (fwI (fwK T k) k i) k i j k j)) := H1.out.cell _ (tbA_at _ _ _ hkt hjt)
              have c3 : wr.cell? ⟨w.heap.size, i * 6 + j, none⟩ = some (.bool (fwJ (fwI (fwK T k) k i) k i j i j)) := H1.out.cell _ (tbA_at _ _ _ hit hjt)
              have f3 := H1.out.frozen (i * 6 + j)
              have hj0 : (0 : Int) ≤ (j : Int) := by omega
              have hjI : (j : Int) < 6 := by omega
              have hset := hide (fun v => tbA_set (fwJ (fwI (fwK T k) k i) k i j) i j hit hjt v)
              have hup := hide (fwJ_upT (fwI (fwK T k) k i) k i j)
              generalize fwJ (fwI (fwK T k) k i) k i j i j = o0 at *
              generalize fwJ (fwI (fwK T k) k i) k i j i k = o1 at *
              generalize fwJ (fwI (fwK T k) k i) k i j k j = o2 at *
              cases o0 <;> cases o1 <;> cases o2 <;> (
                go_wp2
                go_region
                go_wp2
                go_round
                case measure => simp [intOf]; omega
                case rel => exact ⟨j + 1, by omega, by go_num, by rw [hup.out, ← hset.out]; exact (H1.out.set _ _).drew, (H3.out.setCell (Nat.le_refl _) _).drew⟩)
            · have e : j = 6 := by omega
              subst e
              go_wp2
              go_round
              case measure => simp [intOf]; omega
              case rel => exact ⟨i + 1, by omega, by go_num, H1.out, H3.out⟩
        · have e : i = 6 := by omega
          subst e
          go_wp2
          go_round
          case measure => simp [intOf]; omega
          case rel => exact ⟨k + 1, by omega, by go_num, H1.out, H3.out⟩
    · have e : k = 6 := by omega
      subst e
      rw [HF.out] at H1
      have HR0 : Hid (RepI w wr (.slice none 0 0) []) := hide ⟨World.ownsRow_nil _ _ _ _, H3.out⟩
      go_wp2
      go_loopw [6, 7] (fun a c wr => ∃ l : Nat, l ≤ 6 ∧ c = .int .i64 l ∧ Row wr w.heap.size (tbA F) 92 ∧ wr.ownsRow (w.heap.size + 1) 41 3 a (ringL F l).length ((ringL F l).flatMap rpV) ∧ Below w.heap.size w wr) (fun _ c _ => 6 - (intOf c).toNat)
      case atStart => exact ⟨0, by omega, rfl, H1.out, World.ownsRow_nil _ _ _ _, H3.out⟩
      case round =>
        clear H1 H3 HR0
        obtain ⟨l, hl, rfl, h1, h2, h3⟩ := hrel
        have H1 := hide h1
        have H2 := hide h2
        have H3 := hide h3
        clear h1 h2 h3
        obtain ⟨ao, cc, hv⟩ := own_v H2.out
        subst hv
        have hlt1 := H1.out.lt
        by_cases hlt : l < 6
        · have c1 : wr.cell? ⟨w.heap.size, l * 6 + l, none⟩ = some (.bool (F l l)) := H1.out.cell _ (tbA_at _ _ _ hlt hlt)
          have hl0 : (0 : Int) ≤ (l : Int) := by omega
          have hlen := ringL_len F l
          have hyes := hide (ringL_yes F l)
          have hno := hide (ringL_no F l)
          generalize F l l = o at *
          cases o
          · go_wp2
            go_round
            case measure => simp [intOf]; omega
            case rel => exact ⟨l + 1, by omega, by go_num, H1.out, by rw [hno.out (by first | rfl | trivial)]; exact H2.out, H3.out⟩
          · go_wp2_with (first | (at_builtin; refine wpList_push (f := rpV) rpV_len rfl _ _ 35 rfl (w.heap.size + 1) 41 i0 _ 24 Try.underlying35 hj0 hz0 hz1 hz2 rfl (by decide) _ (ringL F l) (6, -1, ((l : Nat) : Int)) rfl ⟨_, 0, none⟩ rfl ?_ ?_ ?_ ?_ ?_ ?_ ?_; (exact H2.out.alloc _); (exact newsL _ _ _); (intro x hx; simp [rpV] at hx; rcases hx with rfl | rfl | rfl <;> rfl); (unfold maxLen; omega); (omega); (exact (by simp; omega)); intro ao' cc' w2 hown' hbel' hsame' hat'; have HOw2 := hide hown'; have HBLw2 := hide hbel'; clear hown' hbel' hsame' hat'))
            go_round
            case measure => simp [intOf]; omega
            case rel => exact ⟨l + 1, by omega, by go_num, H1.out.same (by rw [HBLw2.out.block _ (by omega), heap_alloc_old _ _ hlt1]), by rw [hyes.out (by first | rfl | trivial)]; exact HOw2.out, (H3.out.alloc (by omega) _).trans (HBLw2.out.mono (by omega))⟩
        · have e : l = 6 := by omega
          subst e
          go_wp2
          go_ret
          exact ⟨ao, cc, rfl, own_mono H2.out (by omega), H3.out⟩
end Go.Proofs.Ytecmfdkhcffpmaa
