/- Contracts: a report among the reports; items with which something goes wrong. -/
import Derived.Test.YtecmfdkhcffpmabB45
import Derived.Test.YtecmfdkhcffpmabKpO
import Derived.OwnWalk
namespace Go.Proofs.Ytecmfdkhcffpmab
open Go.RowKit
set_option linter.unusedSimpArgs false
set_option linter.unusedVariables false
set_option maxHeartbeats 8000000
open Wd Mc

set_option maxRecDepth 100000 in
theorem among_yes (R : List Rp) (v : Value) (c i p : Int) (w : World) (b : Nat) (hl : R.length ≤ 100000) (h1 : w.ownsRow b 75 3 v R.length (R.flatMap rpV)) (hm : (c, i, p) ∈ R) :
    Calls Try.prog 34 #[v, .int .i64 c, .int .i64 i, .int .i64 p] w fun e w' => e = .returned (.bool true) ∧ w' = w := by
  have HO1 := hide h1
  obtain ⟨ao, cap1, rfl⟩ := own_v h1
  clear h1
  obtain ⟨j, hj, hRj⟩ := List.getElem_of_mem hm
  have HRJ := hide hRj
  clear hRj hm
  go_enter Try.func34, Try.ntmps34
  go_wp2
  go_loop [9] (fun a => ∃ k : Nat, k ≤ j ∧ a = .int .i64 k) (fun a => R.length - (intOf a).toNat)
  case atStart => exact ⟨0, Nat.zero_le _, rfl⟩
  case round =>
    obtain ⟨k, hk, rfl⟩ := hrel
    have hlt : k < R.length := by omega
    obtain ⟨g1, c1, hv1, _, hg1, _, _, hr1⟩ := own_el rpV_len HO1.out (List.getElem?_eq_getElem hlt)
    cases hv1
    have d0 : w.cell? ⟨g1, k * 3, none⟩ = some (.int .i64 R[k].1) := hr1 0 _ rfl
    have d1 : w.cell? ⟨g1, k * 3 + 1, none⟩ = some (.int .i64 R[k].2.1) := hr1 1 _ rfl
    have d2 : w.cell? ⟨g1, k * 3 + 2, none⟩ = some (.int .i64 R[k].2.2) := hr1 2 _ rfl
    have HNE : Hid (¬ (R[k].1 = c ∧ R[k].2.1 = i ∧ R[k].2.2 = p) → k + 1 ≤ j) := hide (fun hn => by
      by_cases e : k = j
      · subst e; exfalso; apply hn; rw [HRJ.out]; exact ⟨rfl, rfl, rfl⟩
      · omega)
    clear hr1
    generalize R[k].1 = x at *
    generalize R[k].2.1 = y at *
    generalize R[k].2.2 = z at *
    have hki : (k : Int) < (R.length : Int) := by omega
    have hk0 : (0 : Int) ≤ (k : Int) := by omega
    cases b1 : (x == c)
    · have hx : k + 1 ≤ j := HNE.out (fun h => by rw [h.1] at b1; simp at b1)
      go_wp2
      go_round
      case rel => exact ⟨k + 1, hx, by go_num⟩
      case measure => simp [intOf]; omega
    cases b2 : (y == i)
    · have hx : k + 1 ≤ j := HNE.out (fun h => by rw [h.2.1] at b2; simp at b2)
      go_wp2
      go_round
      case rel => exact ⟨k + 1, hx, by go_num⟩
      case measure => simp [intOf]; omega
    cases b3 : (z == p)
    · have hx : k + 1 ≤ j := HNE.out (fun h => by rw [h.2.2] at b3; simp at b3)
      go_wp2
      go_round
      case rel => exact ⟨k + 1, hx, by go_num⟩
      case measure => simp [intOf]; omega
    · go_wp2
      go_ret
      exact ⟨rfl, rfl⟩
def HarmPost (w : World) (l : List UInt8) (k p : Int) (e : Ending) (w' : World) : Prop := e = .returned (.tuple #[.string (Wd.mkS l), .int .i64 k, .int .i64 p]) ∧ w' = w
end Go.Proofs.Ytecmfdkhcffpmab
