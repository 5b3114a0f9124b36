/- Contracts of the document's 'size', 'sizes', 'starts'. -/
import Derived.Test.YtecmfdkhcffpmaaRefD
import Derived.Test.YtecmfdkhcffpmaaPure2
namespace Go.Proofs.Ytecmfdkhcffpmaa
open Go.RowKit
set_option linter.unusedSimpArgs false
set_option linter.unusedVariables false
set_option maxHeartbeats 400000

set_option maxHeartbeats 1000000 in
theorem size_any (s : ByteArray) (of : Nat → Int) (w : World) (hs : s.size ≤ 10000) (ho : ∀ j, 0 ≤ of j ∧ of j ≤ 301) :
    Calls Try.prog 50 #[.string s, .agg (Wd.arr8 of)] w fun e w' => e = .returned (.int .i64 (Wd.size s.data.toList of)) ∧ Below w.heap.size w w' := by
  unfold Wd.arr8
  go_enter Try.func50, Try.ntmps50
  go_wp2
  go_loopw [5, 6] (fun a b wr => ∃ (k : Nat) (n : Int), k ≤ s.size ∧ a = .int .i64 n ∧ b = .int .i64 k ∧ 0 ≤ n ∧ n ≤ 300 ∧ Wd.size s.data.toList of = Wd.sizeFrom of (s.data.toList.drop k) n ∧ (∀ j, j < 8 → wr.cell? ⟨w.heap.size, j, none⟩ = some (.int .i64 (of j))) ∧ Below w.heap.size w wr) (fun _ b _ => s.size - (intOf b).toNat)
  case atStart =>
    refine ⟨0, 0, Nat.zero_le _, rfl, rfl, by omega, by omega, rfl, ?_, (Below.refl _ _).alloc (Nat.le_refl _) _⟩
    intro j hj
    match j, hj with
    | 0, _ | 1, _ | 2, _ | 3, _ | 4, _ | 5, _ | 6, _ | 7, _ => simp
  case round =>
    obtain ⟨k, n, hk, rfl, rfl, hn0, hn1, hp, hcell, hbe⟩ := hrel
    have HP := hide hp
    have HB := hide hbe
    clear hp hbe
    by_cases hlt : k < s.size
    · have HS := hide (Wd.sizeFrom_step of s k n hlt)
      have b0 := Wd.at_lo s.data.toList k
      have b1 := Wd.at_hi s.data.toList k
      rw [← Wd.at_str s k hlt] at b0 b1
      cases hu : Wd.up ((s[k].toNat : Nat) : Int)
      · have hpl : Wd.plus of n ((s[k].toNat : Nat) : Int) = n + 1 := by simp [Wd.plus, hu]
        rw [hpl] at HS
        clear hpl
        have HC := hide hcell
        have HO := hide ho
        clear hcell ho
        by_cases hg : 300 < n + 1
        · go_wp2_with (go_at_call 73; refine (upper_any _ _ b0 b1).mono ?_; rintro e w' ⟨rfl, rfl⟩)
          go_ret
          exact ⟨ret_int (by rw [HP.out, HS.out, if_pos hg]), HB.out⟩
        · go_wp2_with (go_at_call 73; refine (upper_any _ _ b0 b1).mono ?_; rintro e w' ⟨rfl, rfl⟩)
          go_roundw
          case rel => exact ⟨k + 1, n + 1, by omega, rfl, by go_num, by omega, by omega, by rw [HP.out, HS.out, if_neg (by omega)], HC.out, HB.out⟩
          case measure => simp [intOf]; omega
      · have hu' := hu
        simp [Wd.up] at hu'
        have ho' := ho (s[k].toNat - 65)
        have hc' := hcell (s[k].toNat - 65) (by omega)
        have hpl : Wd.plus of n ((s[k].toNat : Nat) : Int) = n + of (s[k].toNat - 65) := by
          simp only [Wd.plus, hu, if_true]; rw [show (((s[k].toNat : Nat) : Int) - 65).toNat = s[k].toNat - 65 from by omega]
        rw [hpl] at HS
        clear hpl
        have HC := hide hcell
        have HO := hide ho
        clear hcell ho
        by_cases hg : 300 < n + of (s[k].toNat - 65)
        · go_wp2_with (go_at_call 73; refine (upper_any _ _ b0 b1).mono ?_; rintro e w' ⟨rfl, rfl⟩)
          go_ret
          exact ⟨ret_int (by rw [HP.out, HS.out, if_pos hg]), HB.out⟩
        · go_wp2_with (go_at_call 73; refine (upper_any _ _ b0 b1).mono ?_; rintro e w' ⟨rfl, rfl⟩)
          go_roundw
          case rel => exact ⟨k + 1, n + of (s[k].toNat - 65), by omega, rfl, by go_num, by omega, by omega, by rw [HP.out, HS.out, if_neg (by omega)], HC.out, HB.out⟩
          case measure => simp [intOf]; omega
    · have HC := hide hcell
      clear hcell
      go_wp2
      go_ret
      exact ⟨ret_int (by rw [HP.out, Wd.sizeFrom_end of s k n (by omega)]), HB.out⟩
end Go.Proofs.Ytecmfdkhcffpmaa
