/- Contracts of the document's small functions. -/
import Derived.Test.YtecmfdkhcffpmaaRows
import Derived.WalkKit
import Derived.WalkSpells
import Derived.WalkLawsBesides
import Derived.Test.YtecmfdkhcffpmaaPure
namespace Go.Proofs.Ytecmfdkhcffpmaa
open Go.RowKit
set_option linter.unusedSimpArgs false
set_option linter.unusedVariables false
set_option maxHeartbeats 400000

theorem upper_any (n : Int) (w : World) (h0 : 0 ≤ n) (h1 : n ≤ 255) :
    Calls Try.prog 73 #[.int .u8 n] w fun e w' => e = .returned (.bool (Wd.up n)) ∧ w' = w := by
  by_cases a : 65 ≤ n <;> by_cases b : n ≤ 72
  all_goals
    have hr : Wd.up n = decide (65 ≤ n ∧ n ≤ 72) := rfl
    simp only [a, b, and_self, and_true, true_and, and_false, false_and, decide_true, decide_false] at hr
    rw [hr]
    clear hr
    go_enter Try.func73, Try.ntmps73
    go_wp2
    go_ret
    exact ⟨by simp [a, b], rfl⟩
theorem lock_any (n : Int) (w : World) (h0 : 0 ≤ n) (h1 : n ≤ 255) :
    Calls Try.prog 74 #[.int .u8 n] w fun e w' => e = .returned (.bool (Wd.lk n)) ∧ w' = w := by
  by_cases a : 97 ≤ n <;> by_cases b : n ≤ 102
  all_goals
    have hr : Wd.lk n = decide (97 ≤ n ∧ n ≤ 102) := rfl
    simp only [a, b, and_self, and_true, true_and, and_false, false_and, decide_true, decide_false] at hr
    rw [hr]
    clear hr
    go_enter Try.func74, Try.ntmps74
    go_wp2
    go_ret
    exact ⟨by simp [a, b], rfl⟩
theorem cell_any (n : Int) (w : World) (h0 : 0 ≤ n) (h1 : n ≤ 255) :
    Calls Try.prog 75 #[.int .u8 n] w fun e w' => e = .returned (.bool (Wd.cl n)) ∧ w' = w := by
  by_cases a : 48 ≤ n <;> by_cases b : n ≤ 51
  all_goals
    have hr : Wd.cl n = decide (48 ≤ n ∧ n ≤ 51) := rfl
    simp only [a, b, and_self, and_true, true_and, and_false, false_and, decide_true, decide_false] at hr
    rw [hr]
    clear hr
    go_enter Try.func75, Try.ntmps75
    go_wp2
    go_ret
    exact ⟨by simp [a, b], rfl⟩
theorem isFunction_any (n : Int) (w : World) (h0 : 0 ≤ n) (h1 : n ≤ 255) :
    Calls Try.prog 135 #[.int .u8 n] w fun e w' => e = .returned (.bool (Wd.up n)) ∧ w' = w := by
  by_cases a : 65 ≤ n <;> by_cases b : n ≤ 72
  all_goals
    have hr : Wd.up n = decide (65 ≤ n ∧ n ≤ 72) := rfl
    simp only [a, b, and_self, and_true, true_and, and_false, false_and, decide_true, decide_false] at hr
    rw [hr]
    clear hr
    go_enter Try.func135, Try.ntmps135
    go_wp2
    go_ret
    exact ⟨by simp [a, b]; try omega, rfl⟩
theorem heads_any (s : ByteArray) (i : Nat) (w : World) (hs : s.size ≤ 100000) (hi : i ≤ s.size) :
    Calls Try.prog 78 #[.string s, .int .i64 i] w fun e w' => e = .returned (.bool (Wd.heads s.data.toList i)) ∧ w' = w := by
  by_cases a : i + 1 < s.size
  · have hb := Wd.at_str s (i + 1) a
    have hr : Wd.heads s.data.toList i = (((s[i + 1].toNat : Nat) : Int) == 123) := by
      rw [hb]; simp [Wd.heads, a]
    rw [hr]; clear hr hb
    go_enter Try.func78, Try.ntmps78
    go_wp2
    go_ret
    exact ⟨rfl, rfl⟩
  · have hr : Wd.heads s.data.toList i = false := by
      simp [Wd.heads, Wd.len_str]; omega
    rw [hr]; clear hr
    go_enter Try.func78, Try.ntmps78
    go_wp2
    go_ret
    exact ⟨rfl, rfl⟩

theorem headP_of (s : ByteArray) (n : Int) (k : Nat) (h : k < s.size) : Wd.headP s.data.toList n k = (Wd.heads s.data.toList k && (((s[k].toNat : Nat) : Int) == n)) := by
  rw [Wd.at_str s k h]; rfl

theorem head_any (s : ByteArray) (n : Int) (w : World) (hs : s.size ≤ 100000) (h0 : 0 ≤ n) (h1 : n ≤ 255) :
    Calls Try.prog 77 #[.string s, .int .u8 n] w fun e w' => e = .returned (.int .i64 (Wd.toInt (Wd.head s.data.toList n))) ∧ w' = w := by
  have HL := hide (Wd.len_str s)
  go_enter Try.func77, Try.ntmps77
  go_wp2
  go_loop [5] (fun i => ∃ k : Nat, k ≤ s.size ∧ i = .int .i64 k ∧ (∀ j, j < k → Wd.headP s.data.toList n j = false)) (fun i => s.size - (intOf i).toNat)
  case atStart => exact ⟨0, Nat.zero_le _, rfl, fun j hj => by omega⟩
  case round =>
    obtain ⟨k, hk, rfl, hno⟩ := hrel
    have HN := hide hno
    clear hno
    by_cases hlt : k < s.size
    · have HB := hide (headP_of s n k hlt)
      cases hh : Wd.heads s.data.toList k
      · go_wp2_with (go_at_call 78; refine (heads_any _ _ _ hs (by omega)).mono ?_; rintro e w' ⟨rfl, rfl⟩)
        go_round
        case rel => exact ⟨k + 1, by omega, by go_num, fun j hj => by
          by_cases e : j = k
          · subst e; rw [HB.out, hh]; rfl
          · exact HN.out j (by omega)⟩
        case measure => simp [intOf]; omega
      · by_cases hc : (((s[k].toNat : Nat) : Int) == n) = true
        · go_wp2_with (go_at_call 78; refine (heads_any _ _ _ hs (by omega)).mono ?_; rintro e w' ⟨rfl, rfl⟩)
          go_ret
          refine ⟨ret_int ?_, rfl⟩
          rw [Wd.head, HL.out, Wd.first_yes hlt (by rw [HB.out, hh, hc]; rfl) HN.out]; rfl
        · go_wp2_with (go_at_call 78; refine (heads_any _ _ _ hs (by omega)).mono ?_; rintro e w' ⟨rfl, rfl⟩)
          go_round
          case rel => exact ⟨k + 1, by omega, by go_num, fun j hj => by
            by_cases e : j = k
            · subst e; rw [HB.out, hh]; simpa using hc
            · exact HN.out j (by omega)⟩
          case measure => simp [intOf]; omega
    · go_wp2
      go_ret
      refine ⟨ret_int ?_, rfl⟩
      rw [Wd.head, HL.out, Wd.first_no (fun j hj => HN.out j (by omega))]; rfl

theorem body_fin (s : ByteArray) (i k : Nat) (hk0 : i + 2 ≤ k) (hk : k ≤ s.size) (h1 : ∀ j, i + 2 ≤ j → j < k → ¬ Wd.at_ s.data.toList j = 125) (h2 : k < s.size → Wd.at_ s.data.toList k = 125) :
    (s.extract (i + 2) k).data.toList = Wd.body s.data.toList i ∧ (s.extract (i + 2) k).size ≤ s.size := by
  constructor
  · rw [Wd.body_eq s.data.toList i k hk0 (by rw [Wd.len_str]; exact hk) h1 (by rw [Wd.len_str]; exact h2)]
    rw [Wd.extract_str]
  · simp; omega

theorem body_any (s : ByteArray) (i : Nat) (w : World) (hs : s.size ≤ 100000) (hi : i + 2 ≤ s.size) :
    Calls Try.prog 49 #[.string s, .int .i64 i] w fun e w' => ∃ t : ByteArray, e = .returned (.string t) ∧ t.data.toList = Wd.body s.data.toList i ∧ t.size ≤ s.size ∧ w' = w := by
  go_enter Try.func49, Try.ntmps49
  go_wp2
  go_loop [5] (fun x => ∃ k : Nat, i + 2 ≤ k ∧ k ≤ s.size ∧ x = .int .i64 k ∧ (∀ j, i + 2 ≤ j → j < k → ¬ Wd.at_ s.data.toList j = 125)) (fun x => s.size - (intOf x).toNat)
  case atStart => exact ⟨i + 2, by omega, hi, by go_num, fun j h1 h2 => by omega⟩
  case round =>
    obtain ⟨k, hk0, hk, rfl, hno⟩ := hrel
    have HN := hide hno
    clear hno
    by_cases hlt : k < s.size
    · have HB := hide (Wd.at_str s k hlt)
      cases hc : (((s[k].toNat : Nat) : Int) != 125)
      · go_wp2
        go_ret
        exact ⟨_, rfl, (body_fin s i k hk0 hk HN.out (fun _ => by rw [← HB.out]; simpa using hc)).1, (body_fin s i k hk0 hk HN.out (fun _ => by rw [← HB.out]; simpa using hc)).2, rfl⟩
      · go_wp2
        go_round
        case rel => exact ⟨k + 1, by omega, by omega, by go_num, fun j h1 h2 => by
            by_cases e : j = k
            · subst e; rw [← HB.out]; simpa using hc
            · exact HN.out j h1 (by omega)⟩
        case measure => simp [intOf]; omega
    · go_wp2
      go_ret
      exact ⟨_, rfl, (body_fin s i k hk0 hk HN.out (fun h => absurd h hlt)).1, (body_fin s i k hk0 hk HN.out (fun h => absurd h hlt)).2, rfl⟩

theorem misnamed_any (s : ByteArray) (w : World) (hs : s.size ≤ 100000) :
    Calls Try.prog 45 #[.string s] w fun e w' => e = .returned (.int .i64 (Wd.toInt (Wd.misnamed s.data.toList))) ∧ w' = w := by
  have HL := hide (Wd.len_str s)
  go_enter Try.func45, Try.ntmps45
  go_wp2
  go_loop [3] (fun i => ∃ k : Nat, k ≤ s.size ∧ i = .int .i64 k ∧ (∀ j, j < k → Wd.misP s.data.toList j = false)) (fun i => s.size - (intOf i).toNat)
  case atStart => exact ⟨0, Nat.zero_le _, rfl, fun j hj => by omega⟩
  case round =>
    obtain ⟨k, hk, rfl, hno⟩ := hrel
    have HN := hide hno
    clear hno
    by_cases hlt : k < s.size
    · have HB := hide (Wd.at_str s k hlt)
      have b0 := Wd.at_lo s.data.toList k
      have b1 := Wd.at_hi s.data.toList k
      rw [← HB.out] at b0 b1
      cases hu : Wd.up ((s[k].toNat : Nat) : Int)
      · go_wp2_with (go_at_call 73; refine (upper_any _ _ b0 b1).mono ?_; rintro e w' ⟨rfl, rfl⟩)
        go_round
        case rel => exact ⟨k + 1, by omega, by go_num, fun j hj => by
          by_cases e : j = k
          · subst e; rw [Wd.misP, ← HB.out, hu]; rfl
          · exact HN.out j (by omega)⟩
        case measure => simp [intOf]; omega
      · have HM : Hid (Wd.misP s.data.toList k = (decide (Wd.toInt (Wd.head s.data.toList ((s[k].toNat : Nat) : Int)) < 0) || (Wd.heads s.data.toList k && decide (Wd.toInt (Wd.head s.data.toList ((s[k].toNat : Nat) : Int)) < (k : Int))))) := by
          apply hide; rw [Wd.misP, ← HB.out, hu]; rfl
        generalize hx : Wd.toInt (Wd.head s.data.toList ((s[k].toNat : Nat) : Int)) = x at HM
        have HX := hide hx; clear hx
        by_cases ha : x < 0
        · go_wp2_with (first | (go_at_call 73; refine (upper_any _ _ b0 b1).mono ?_; rintro e w' ⟨rfl, rfl⟩) | (go_at_call 77; refine (head_any _ _ _ hs b0 b1).mono ?_; rw [HX.out]; rintro e w' ⟨rfl, rfl⟩) | (go_at_call 78; refine (heads_any _ _ _ hs (by omega)).mono ?_; rintro e w' ⟨rfl, rfl⟩))
          go_ret
          refine ⟨ret_int ?_, rfl⟩
          rw [Wd.misnamed, HL.out, Wd.first_yes hlt (by rw [HM.out]; simp [ha]) HN.out]; rfl
        · cases hh : Wd.heads s.data.toList k
          · go_wp2_with (first | (go_at_call 73; refine (upper_any _ _ b0 b1).mono ?_; rintro e w' ⟨rfl, rfl⟩) | (go_at_call 77; refine (head_any _ _ _ hs b0 b1).mono ?_; rw [HX.out]; rintro e w' ⟨rfl, rfl⟩) | (go_at_call 78; refine (heads_any _ _ _ hs (by omega)).mono ?_; rintro e w' ⟨rfl, rfl⟩))
            go_round
            case rel => exact ⟨k + 1, by omega, by go_num, fun j hj => by
              by_cases e : j = k
              · subst e; rw [HM.out, hh]; simp [ha]
              · exact HN.out j (by omega)⟩
            case measure => simp [intOf]; omega
          · by_cases hb : x < (k : Int)
            · go_wp2_with (first | (go_at_call 73; refine (upper_any _ _ b0 b1).mono ?_; rintro e w' ⟨rfl, rfl⟩) | (go_at_call 77; refine (head_any _ _ _ hs b0 b1).mono ?_; rw [HX.out]; rintro e w' ⟨rfl, rfl⟩) | (go_at_call 78; refine (heads_any _ _ _ hs (by omega)).mono ?_; rintro e w' ⟨rfl, rfl⟩))
              go_ret
              refine ⟨ret_int ?_, rfl⟩
              rw [Wd.misnamed, HL.out, Wd.first_yes hlt (by rw [HM.out, hh]; simp [hb]) HN.out]; rfl
            · go_wp2_with (first | (go_at_call 73; refine (upper_any _ _ b0 b1).mono ?_; rintro e w' ⟨rfl, rfl⟩) | (go_at_call 77; refine (head_any _ _ _ hs b0 b1).mono ?_; rw [HX.out]; rintro e w' ⟨rfl, rfl⟩) | (go_at_call 78; refine (heads_any _ _ _ hs (by omega)).mono ?_; rintro e w' ⟨rfl, rfl⟩))
              go_round
              case rel => exact ⟨k + 1, by omega, by go_num, fun j hj => by
                by_cases e : j = k
                · subst e; rw [HM.out, hh]; simp [ha]; omega
                · exact HN.out j (by omega)⟩
              case measure => simp [intOf]; omega
    · go_wp2
      go_ret
      refine ⟨ret_int ?_, rfl⟩
      rw [Wd.misnamed, HL.out, Wd.first_no (fun j hj => HN.out j (by omega))]; rfl
end Go.Proofs.Ytecmfdkhcffpmaa
