/- Contracts of the document's reader of the form: a byte in a body. -/
import Derived.Test.YtecmfdkhcffpmaaRefA
namespace Go.Proofs.Ytecmfdkhcffpmaa
open Go.RowKit
set_option linter.unusedSimpArgs false
set_option linter.unusedVariables false
set_option maxHeartbeats 400000

theorem opened_c43 (s : ByteArray) (m : Nat) (w : World) (hs : s.size ≤ 100000) (hm : s.size = m + 1)  :
    Calls Try.prog 76 #[.int .u8 43, .string s] w fun e w' => ∃ t : ByteArray, e = .returned (.tuple #[.int .i64 3, .string t, .bool true]) ∧ t.data.toList = s.data.toList ∧ ∃ n, w' = w.drewN n := by
  go_enter Try.func76, Try.ntmps76
  go_wp2_with (first | (go_at_call 73; refine (upper_any _ _ (by omega) (by omega)).mono ?_; rintro e w' ⟨rfl, rfl⟩))
  go_ret3
  exact ⟨s, rfl, rfl, 0, rfl⟩

theorem opened_c45 (s : ByteArray) (m : Nat) (w : World) (hs : s.size ≤ 100000) (hm : s.size = m + 1)  :
    Calls Try.prog 76 #[.int .u8 45, .string s] w fun e w' => ∃ t : ByteArray, e = .returned (.tuple #[.int .i64 3, .string t, .bool true]) ∧ t.data.toList = s.data.toList ∧ ∃ n, w' = w.drewN n := by
  go_enter Try.func76, Try.ntmps76
  go_wp2_with (first | (go_at_call 73; refine (upper_any _ _ (by omega) (by omega)).mono ?_; rintro e w' ⟨rfl, rfl⟩))
  go_ret3
  exact ⟨s, rfl, rfl, 0, rfl⟩

theorem opened_c114 (s : ByteArray) (m : Nat) (w : World) (hs : s.size ≤ 100000) (hm : s.size = m + 1)  :
    Calls Try.prog 76 #[.int .u8 114, .string s] w fun e w' => ∃ t : ByteArray, e = .returned (.tuple #[.int .i64 4, .string t, .bool true]) ∧ t.data.toList = s.data.toList ∧ ∃ n, w' = w.drewN n := by
  go_enter Try.func76, Try.ntmps76
  go_wp2_with (first | (go_at_call 73; refine (upper_any _ _ (by omega) (by omega)).mono ?_; rintro e w' ⟨rfl, rfl⟩))
  go_ret3
  exact ⟨s, rfl, rfl, 0, rfl⟩

theorem opened_c119 (s : ByteArray) (m : Nat) (w : World) (hs : s.size ≤ 100000) (hm : s.size = m + 1)  :
    Calls Try.prog 76 #[.int .u8 119, .string s] w fun e w' => ∃ t : ByteArray, e = .returned (.tuple #[.int .i64 4, .string t, .bool true]) ∧ t.data.toList = s.data.toList ∧ ∃ n, w' = w.drewN n := by
  go_enter Try.func76, Try.ntmps76
  go_wp2_with (first | (go_at_call 73; refine (upper_any _ _ (by omega) (by omega)).mono ?_; rintro e w' ⟨rfl, rfl⟩))
  go_ret3
  exact ⟨s, rfl, rfl, 0, rfl⟩

theorem opened_c60 (s : ByteArray) (m : Nat) (w : World) (hs : s.size ≤ 100000) (hm : s.size = m + 1)  :
    Calls Try.prog 76 #[.int .u8 60, .string s] w fun e w' => ∃ t : ByteArray, e = .returned (.tuple #[.int .i64 2, .string t, .bool true]) ∧ t.data.toList = s.data.toList ∧ ∃ n, w' = w.drewN n := by
  go_enter Try.func76, Try.ntmps76
  go_wp2_with (first | (go_at_call 73; refine (upper_any _ _ (by omega) (by omega)).mono ?_; rintro e w' ⟨rfl, rfl⟩))
  go_ret3
  exact ⟨s, rfl, rfl, 0, rfl⟩

theorem opened_c62 (s : ByteArray) (m : Nat) (w : World) (hs : s.size ≤ 100000) (hm : s.size = m + 1)  :
    Calls Try.prog 76 #[.int .u8 62, .string s] w fun e w' => ∃ t : ByteArray, e = .returned (.tuple #[.int .i64 2, .string t, .bool true]) ∧ t.data.toList = s.data.toList ∧ ∃ n, w' = w.drewN n := by
  go_enter Try.func76, Try.ntmps76
  go_wp2_with (first | (go_at_call 73; refine (upper_any _ _ (by omega) (by omega)).mono ?_; rintro e w' ⟨rfl, rfl⟩))
  go_ret3
  exact ⟨s, rfl, rfl, 0, rfl⟩

theorem opened_c122 (s : ByteArray) (m : Nat) (w : World) (hs : s.size ≤ 100000) (hm : s.size = m + 1)  :
    Calls Try.prog 76 #[.int .u8 122, .string s] w fun e w' => ∃ t : ByteArray, e = .returned (.tuple #[.int .i64 2, .string t, .bool true]) ∧ t.data.toList = s.data.toList ∧ ∃ n, w' = w.drewN n := by
  go_enter Try.func76, Try.ntmps76
  go_wp2_with (first | (go_at_call 73; refine (upper_any _ _ (by omega) (by omega)).mono ?_; rintro e w' ⟨rfl, rfl⟩))
  go_ret3
  exact ⟨s, rfl, rfl, 0, rfl⟩

theorem opened_up (s : ByteArray) (m : Nat) (w : World) (hs : s.size ≤ 100000) (hm : s.size = m + 1) (c : Int) (h0 : 65 ≤ c) (h1 : c ≤ 72) :
    Calls Try.prog 76 #[.int .u8 c, .string s] w fun e w' => ∃ t : ByteArray, e = .returned (.tuple #[.int .i64 2, .string t, .bool true]) ∧ t.data.toList = s.data.toList ∧ ∃ n, w' = w.drewN n := by
  have n43 : (c == 43) = false := beq_eq_false_iff_ne.2 (by omega)
  have n45 : (c == 45) = false := beq_eq_false_iff_ne.2 (by omega)
  have n114 : (c == 114) = false := beq_eq_false_iff_ne.2 (by omega)
  have n119 : (c == 119) = false := beq_eq_false_iff_ne.2 (by omega)
  have n60 : (c == 60) = false := beq_eq_false_iff_ne.2 (by omega)
  have n62 : (c == 62) = false := beq_eq_false_iff_ne.2 (by omega)
  have n122 : (c == 122) = false := beq_eq_false_iff_ne.2 (by omega)
  have hu : Wd.up c = true := by simp [Wd.up]; omega
  go_enter Try.func76, Try.ntmps76
  go_wp2_with (first | (go_at_call 73; refine (upper_any _ _ (by omega) (by omega)).mono ?_; rintro e w' ⟨rfl, rfl⟩))
  go_ret3
  exact ⟨s, rfl, rfl, 0, rfl⟩

theorem opened_c40 (s : ByteArray) (m : Nat) (w : World) (hs : s.size ≤ 100000) (hm : s.size = m + 1)  :
    Calls Try.prog 76 #[.int .u8 40, .string s] w fun e w' => ∃ t : ByteArray, e = .returned (.tuple #[.int .i64 2, .string t, .bool true]) ∧ t.data.toList = s.data.toList ++ [40] ∧ ∃ n, w' = w.drewN n := by
  have hu : Wd.up 40 = false := by decide
  go_enter Try.func76, Try.ntmps76
  go_wp2_with (first | (go_at_call 73; refine (upper_any _ _ (by omega) (by omega)).mono ?_; rintro e w' ⟨rfl, rfl⟩))
  go_ret3
  exact ⟨_, rfl, by simp, 0, rfl⟩

theorem opened_c91 (s : ByteArray) (m : Nat) (w : World) (hs : s.size ≤ 100000) (hm : s.size = m + 1)  :
    Calls Try.prog 76 #[.int .u8 91, .string s] w fun e w' => ∃ t : ByteArray, e = .returned (.tuple #[.int .i64 2, .string t, .bool true]) ∧ t.data.toList = s.data.toList ++ [91] ∧ ∃ n, w' = w.drewN n := by
  have hu : Wd.up 91 = false := by decide
  go_enter Try.func76, Try.ntmps76
  go_wp2_with (first | (go_at_call 73; refine (upper_any _ _ (by omega) (by omega)).mono ?_; rintro e w' ⟨rfl, rfl⟩))
  go_ret3
  exact ⟨_, rfl, by simp, 0, rfl⟩

theorem opened_c124y (s : ByteArray) (m : Nat) (w : World) (hs : s.size ≤ 100000) (hm : s.size = m + 1) (hl : ((((s[m]'(by omega)).toNat : Nat) : Int) == 40) = true) :
    Calls Try.prog 76 #[.int .u8 124, .string s] w fun e w' => ∃ t : ByteArray, e = .returned (.tuple #[.int .i64 2, .string t, .bool true]) ∧ t.data.toList = s.data.toList.take m ++ [124] ∧ ∃ n, w' = w.drewN n := by
  have hu : Wd.up 124 = false := by decide
  go_enter Try.func76, Try.ntmps76
  go_wp2_with (first | (go_at_call 73; refine (upper_any _ _ (by omega) (by omega)).mono ?_; rintro e w' ⟨rfl, rfl⟩))
  go_region
  all_goals go_wp2
  all_goals go_ret3
  all_goals (refine ⟨_, rfl, ?_, 1, rfl⟩; simp [Wd.extract_str])

theorem opened_c41y (s : ByteArray) (m : Nat) (w : World) (hs : s.size ≤ 100000) (hm : s.size = m + 1) (hl : ((((s[m]'(by omega)).toNat : Nat) : Int) == 124) = true) :
    Calls Try.prog 76 #[.int .u8 41, .string s] w fun e w' => ∃ t : ByteArray, e = .returned (.tuple #[.int .i64 2, .string t, .bool true]) ∧ t.data.toList = s.data.toList.take m ∧ ∃ n, w' = w.drewN n := by
  have hu : Wd.up 41 = false := by decide
  go_enter Try.func76, Try.ntmps76
  go_wp2_with (first | (go_at_call 73; refine (upper_any _ _ (by omega) (by omega)).mono ?_; rintro e w' ⟨rfl, rfl⟩))
  go_region
  all_goals go_wp2
  all_goals go_ret3
  all_goals (refine ⟨_, rfl, ?_, 1, rfl⟩; simp [Wd.extract_str])

theorem opened_c93y (s : ByteArray) (m : Nat) (w : World) (hs : s.size ≤ 100000) (hm : s.size = m + 1) (hl : ((((s[m]'(by omega)).toNat : Nat) : Int) == 91) = true) :
    Calls Try.prog 76 #[.int .u8 93, .string s] w fun e w' => ∃ t : ByteArray, e = .returned (.tuple #[.int .i64 2, .string t, .bool true]) ∧ t.data.toList = s.data.toList.take m ∧ ∃ n, w' = w.drewN n := by
  have hu : Wd.up 93 = false := by decide
  go_enter Try.func76, Try.ntmps76
  go_wp2_with (first | (go_at_call 73; refine (upper_any _ _ (by omega) (by omega)).mono ?_; rintro e w' ⟨rfl, rfl⟩))
  go_region
  all_goals go_wp2
  all_goals go_ret3
  all_goals (refine ⟨_, rfl, ?_, 1, rfl⟩; simp [Wd.extract_str])

theorem opened_c125y (s : ByteArray) (m : Nat) (w : World) (hs : s.size ≤ 100000) (hm : s.size = m + 1) (hl : ((((s[m]'(by omega)).toNat : Nat) : Int) == 123) = true) :
    Calls Try.prog 76 #[.int .u8 125, .string s] w fun e w' => ∃ t : ByteArray, e = .returned (.tuple #[.int .i64 0, .string t, .bool true]) ∧ t.data.toList = [] ∧ ∃ n, w' = w.drewN n := by
  have hu : Wd.up 125 = false := by decide
  go_enter Try.func76, Try.ntmps76
  go_wp2_with (first | (go_at_call 73; refine (upper_any _ _ (by omega) (by omega)).mono ?_; rintro e w' ⟨rfl, rfl⟩))
  go_ret3
  exact ⟨_, rfl, by simp, 0, rfl⟩

theorem opened_c124n (s : ByteArray) (m : Nat) (w : World) (hs : s.size ≤ 100000) (hm : s.size = m + 1) (hl : ((((s[m]'(by omega)).toNat : Nat) : Int) == 40) = false) :
    Calls Try.prog 76 #[.int .u8 124, .string s] w fun e w' => ∃ t : ByteArray, e = .returned (.tuple #[.int .i64 0, .string t, .bool false]) ∧ t.data.toList = [] ∧ ∃ n, w' = w.drewN n := by
  have hu : Wd.up 124 = false := by decide
  go_enter Try.func76, Try.ntmps76
  go_wp2_with (first | (go_at_call 73; refine (upper_any _ _ (by omega) (by omega)).mono ?_; rintro e w' ⟨rfl, rfl⟩))
  go_ret3
  exact ⟨_, rfl, by simp, 0, rfl⟩

theorem opened_c41n (s : ByteArray) (m : Nat) (w : World) (hs : s.size ≤ 100000) (hm : s.size = m + 1) (hl : ((((s[m]'(by omega)).toNat : Nat) : Int) == 124) = false) :
    Calls Try.prog 76 #[.int .u8 41, .string s] w fun e w' => ∃ t : ByteArray, e = .returned (.tuple #[.int .i64 0, .string t, .bool false]) ∧ t.data.toList = [] ∧ ∃ n, w' = w.drewN n := by
  have hu : Wd.up 41 = false := by decide
  go_enter Try.func76, Try.ntmps76
  go_wp2_with (first | (go_at_call 73; refine (upper_any _ _ (by omega) (by omega)).mono ?_; rintro e w' ⟨rfl, rfl⟩))
  go_ret3
  exact ⟨_, rfl, by simp, 0, rfl⟩

theorem opened_c93n (s : ByteArray) (m : Nat) (w : World) (hs : s.size ≤ 100000) (hm : s.size = m + 1) (hl : ((((s[m]'(by omega)).toNat : Nat) : Int) == 91) = false) :
    Calls Try.prog 76 #[.int .u8 93, .string s] w fun e w' => ∃ t : ByteArray, e = .returned (.tuple #[.int .i64 0, .string t, .bool false]) ∧ t.data.toList = [] ∧ ∃ n, w' = w.drewN n := by
  have hu : Wd.up 93 = false := by decide
  go_enter Try.func76, Try.ntmps76
  go_wp2_with (first | (go_at_call 73; refine (upper_any _ _ (by omega) (by omega)).mono ?_; rintro e w' ⟨rfl, rfl⟩))
  go_ret3
  exact ⟨_, rfl, by simp, 0, rfl⟩

theorem opened_c125n (s : ByteArray) (m : Nat) (w : World) (hs : s.size ≤ 100000) (hm : s.size = m + 1) (hl : ((((s[m]'(by omega)).toNat : Nat) : Int) == 123) = false) :
    Calls Try.prog 76 #[.int .u8 125, .string s] w fun e w' => ∃ t : ByteArray, e = .returned (.tuple #[.int .i64 0, .string t, .bool false]) ∧ t.data.toList = [] ∧ ∃ n, w' = w.drewN n := by
  have hu : Wd.up 125 = false := by decide
  go_enter Try.func76, Try.ntmps76
  go_wp2_with (first | (go_at_call 73; refine (upper_any _ _ (by omega) (by omega)).mono ?_; rintro e w' ⟨rfl, rfl⟩))
  go_ret3
  exact ⟨_, rfl, by simp, 0, rfl⟩

theorem opened_no (s : ByteArray) (m : Nat) (w : World) (hs : s.size ≤ 100000) (hm : s.size = m + 1) (c : Int) (h0 : 0 ≤ c) (h1 : c ≤ 255) (m43 : c ≠ 43) (m45 : c ≠ 45) (m114 : c ≠ 114) (m119 : c ≠ 119) (m60 : c ≠ 60) (m62 : c ≠ 62) (m122 : c ≠ 122) (m40 : c ≠ 40) (m91 : c ≠ 91) (m124 : c ≠ 124) (m41 : c ≠ 41) (m93 : c ≠ 93) (m125 : c ≠ 125) (hu : Wd.up c = false) :
    Calls Try.prog 76 #[.int .u8 c, .string s] w fun e w' => ∃ t : ByteArray, e = .returned (.tuple #[.int .i64 0, .string t, .bool false]) ∧ t.data.toList = [] ∧ ∃ n, w' = w.drewN n := by
  have n43 : (c == 43) = false := beq_eq_false_iff_ne.2 (by omega)
  have n45 : (c == 45) = false := beq_eq_false_iff_ne.2 (by omega)
  have n114 : (c == 114) = false := beq_eq_false_iff_ne.2 (by omega)
  have n119 : (c == 119) = false := beq_eq_false_iff_ne.2 (by omega)
  have n60 : (c == 60) = false := beq_eq_false_iff_ne.2 (by omega)
  have n62 : (c == 62) = false := beq_eq_false_iff_ne.2 (by omega)
  have n122 : (c == 122) = false := beq_eq_false_iff_ne.2 (by omega)
  have n40 : (c == 40) = false := beq_eq_false_iff_ne.2 (by omega)
  have n91 : (c == 91) = false := beq_eq_false_iff_ne.2 (by omega)
  have n124 : (c == 124) = false := beq_eq_false_iff_ne.2 (by omega)
  have n41 : (c == 41) = false := beq_eq_false_iff_ne.2 (by omega)
  have n93 : (c == 93) = false := beq_eq_false_iff_ne.2 (by omega)
  have n125 : (c == 125) = false := beq_eq_false_iff_ne.2 (by omega)
  clear m43 m45 m114 m119 m60 m62 m122 m40 m91 m124 m41 m93 m125
  go_enter Try.func76, Try.ntmps76
  go_wp2_with (first | (go_at_call 73; refine (upper_any _ _ (by omega) (by omega)).mono ?_; rintro e w' ⟨rfl, rfl⟩))
  go_ret3
  exact ⟨_, rfl, by simp, 0, rfl⟩

end Go.Proofs.Ytecmfdkhcffpmaa
