/- RefB, RefC, RefD. -/
import Derived.Test.YtecmfdkhcffpmaaB03
/- Contracts of the document's reader of the form: a byte in a body. -/
namespace Go.Proofs.Ytecmfdkhcffpmaa
open Go.RowKit
set_option linter.unusedSimpArgs false
set_option linter.unusedVariables false
set_option maxHeartbeats 400000

theorem opened_c43 (s : ByteArray) (m : Nat) (w : World) (hs : s.size ≤ 100000) (hm : s.size = m + 1)  :
    Calls Try.prog 76 #[.int .u8 43, .string s] w fun e w' => ∃ t : ByteArray, e = .returned (.tuple #[.int .i64 3, .string t, .bool true]) ∧ t.data.toList = s.data.toList ∧ ∃ n, w' = w.drewN n := by
  go_enter Try.func76, Try.ntmps76
  go_wp2_with (first | (go_at_call 73; refine (upper_any _ _ (by omega) (by omega)).mono ?_; rintro e w' ⟨rfl, rfl⟩))
  go_ret3
  exact ⟨s, rfl, rfl, 0, rfl⟩

theorem opened_c45 (s : ByteArray) (m : Nat) (w : World) (hs : s.size ≤ 100000) (hm : s.size = m + 1)  :
    Calls Try.prog 76 #[.int .u8 45, .string s] w fun e w' => ∃ t : ByteArray, e = .returned (.tuple #[.int .i64 3, .string t, .bool true]) ∧ t.data.toList = s.data.toList ∧ ∃ n, w' = w.drewN n := by
  go_enter Try.func76, Try.ntmps76
  go_wp2_with (first | (go_at_call 73; refine (upper_any _ _ (by omega) (by omega)).mono ?_; rintro e w' ⟨rfl, rfl⟩))
  go_ret3
  exact ⟨s, rfl, rfl, 0, rfl⟩

theorem opened_c114 (s : ByteArray) (m : Nat) (w : World) (hs : s.size ≤ 100000) (hm : s.size = m + 1)  :
    Calls Try.prog 76 #[.int .u8 114, .string s] w fun e w' => ∃ t : ByteArray, e = .returned (.tuple #[.int .i64 4, .string t, .bool true]) ∧ t.data.toList = s.data.toList ∧ ∃ n, w' = w.drewN n := by
  go_enter Try.func76, Try.ntmps76
  go_wp2_with (first | (go_at_call 73; refine (upper_any _ _ (by omega) (by omega)).mono ?_; rintro e w' ⟨rfl, rfl⟩))
  go_ret3
  exact ⟨s, rfl, rfl, 0, rfl⟩

theorem opened_c119 (s : ByteArray) (m : Nat) (w : World) (hs : s.size ≤ 100000) (hm : s.size = m + 1)  :
    Calls Try.prog 76 #[.int .u8 119, .string s] w fun e w' => ∃ t : ByteArray, e = .returned (.tuple #[.int .i64 4, .string t, .bool true]) ∧ t.data.toList = s.data.toList ∧ ∃ n, w' = w.drewN n := by
  go_enter Try.func76, Try.ntmps76
  go_wp2_with (first | (go_at_call 73; refine (upper_any _ _ (by omega) (by omega)).mono ?_; rintro e w' ⟨rfl, rfl⟩))
  go_ret3
  exact ⟨s, rfl, rfl, 0, rfl⟩

theorem opened_c60 (s : ByteArray) (m : Nat) (w : World) (hs : s.size ≤ 100000) (hm : s.size = m + 1)  :
    Calls Try.prog 76 #[.int .u8 60, .string s] w fun e w' => ∃ t : ByteArray, e = .returned (.tuple #[.int .i64 2, .string t, .bool true]) ∧ t.data.toList = s.data.toList ∧ ∃ n, w' = w.drewN n := by
  go_enter Try.func76, Try.ntmps76
  go_wp2_with (first | (go_at_call 73; refine (upper_any _ _ (by omega) (by omega)).mono ?_; rintro e w' ⟨rfl, rfl⟩))
  go_ret3
  exact ⟨s, rfl, rfl, 0, rfl⟩

theorem opened_c62 (s : ByteArray) (m : Nat) (w : World) (hs : s.size ≤ 100000) (hm : s.size = m + 1)  :
    Calls Try.prog 76 #[.int .u8 62, .string s] w fun e w' => ∃ t : ByteArray, e = .returned (.tuple #[.int .i64 2, .string t, .bool true]) ∧ t.data.toList = s.data.toList ∧ ∃ n, w' = w.drewN n := by
  go_enter Try.func76, Try.ntmps76
  go_wp2_with (first | (go_at_call 73; refine (upper_any _ _ (by omega) (by omega)).mono ?_; rintro e w' ⟨rfl, rfl⟩))
  go_ret3
  exact ⟨s, rfl, rfl, 0, rfl⟩

theorem opened_c122 (s : ByteArray) (m : Nat) (w : World) (hs : s.size ≤ 100000) (hm : s.size = m + 1)  :
    Calls Try.prog 76 #[.int .u8 122, .string s] w fun e w' => ∃ t : ByteArray, e = .returned (.tuple #[.int .i64 2, .string t, .bool true]) ∧ t.data.toList = s.data.toList ∧ ∃ n, w' = w.drewN n := by
  go_enter Try.func76, Try.ntmps76
  go_wp2_with (first | (go_at_call 73; refine (upper_any _ _ (by omega) (by omega)).mono ?_; rintro e w' ⟨rfl, rfl⟩))
  go_ret3
  exact ⟨s, rfl, rfl, 0, rfl⟩

theorem opened_up (s : ByteArray) (m : Nat) (w : World) (hs : s.size ≤ 100000) (hm : s.size = m + 1) (c : Int) (h0 : 65 ≤ c) (h1 : c ≤ 72) :
    Calls Try.prog 76 #[.int .u8 c, .string s] w fun e w' => ∃ t : ByteArray, e = .returned (.tuple #[.int .i64 2, .string t, .bool true]) ∧ t.data.toList = s.data.toList ∧ ∃ n, w' = w.drewN n := by
  have n43 : (c == 43) = false := beq_eq_false_iff_ne.2 (by omega)
  have n45 : (c == 45) = false := beq_eq_false_iff_ne.2 (by omega)
  have n114 : (c == 114) = false := beq_eq_false_iff_ne.2 (by omega)
  have n119 : (c == 119) = false := beq_eq_false_iff_ne.2 (by omega)
  have n60 : (c == 60) = false := beq_eq_false_iff_ne.2 (by omega)
  have n62 : (c == 62) = false := beq_eq_false_iff_ne.2 (by omega)
  have n122 : (c == 122) = false := beq_eq_false_iff_ne.2 (by omega)
  have hu : Wd.up c = true := by simp [Wd.up]; omega
  go_enter Try.func76, Try.ntmps76
  go_wp2_with (first | (go_at_call 73; refine (upper_any _ _ (by omega) (by omega)).mono ?_; rintro e w' ⟨rfl, rfl⟩))
  go_ret3
  exact ⟨s, rfl, rfl, 0, rfl⟩

theorem opened_c40 (s : ByteArray) (m : Nat) (w : World) (hs : s.size ≤ 100000) (hm : s.size = m + 1)  :
    Calls Try.prog 76 #[.int .u8 40, .string s] w fun e w' => ∃ t : ByteArray, e = .returned (.tuple #[.int .i64 2, .string t, .bool true]) ∧ t.data.toList = s.data.toList ++ [40] ∧ ∃ n, w' = w.drewN n := by
  have hu : Wd.up 40 = false := by decide
  go_enter Try.func76, Try.ntmps76
  go_wp2_with (first | (go_at_call 73; refine (upper_any _ _ (by omega) (by omega)).mono ?_; rintro e w' ⟨rfl, rfl⟩))
  go_ret3
  exact ⟨_, rfl, by simp, 0, rfl⟩

theorem opened_c91 (s : ByteArray) (m : Nat) (w : World) (hs : s.size ≤ 100000) (hm : s.size = m + 1)  :
    Calls Try.prog 76 #[.int .u8 91, .string s] w fun e w' => ∃ t : ByteArray, e = .returned (.tuple #[.int .i64 2, .string t, .bool true]) ∧ t.data.toList = s.data.toList ++ [91] ∧ ∃ n, w' = w.drewN n := by
  have hu : Wd.up 91 = false := by decide
  go_enter Try.func76, Try.ntmps76
  go_wp2_with (first | (go_at_call 73; refine (upper_any _ _ (by omega) (by omega)).mono ?_; rintro e w' ⟨rfl, rfl⟩))
  go_ret3
  exact ⟨_, rfl, by simp, 0, rfl⟩

theorem opened_c124y (s : ByteArray) (m : Nat) (w : World) (hs : s.size ≤ 100000) (hm : s.size = m + 1) (hl : ((((s[m]'(by omega)).toNat : Nat) : Int) == 40) = true) :
    Calls Try.prog 76 #[.int .u8 124, .string s] w fun e w' => ∃ t : ByteArray, e = .returned (.tuple #[.int .i64 2, .string t, .bool true]) ∧ t.data.toList = s.data.toList.take m ++ [124] ∧ ∃ n, w' = w.drewN n := by
  have hu : Wd.up 124 = false := by decide
  go_enter Try.func76, Try.ntmps76
  go_wp2_with (first | (go_at_call 73; refine (upper_any _ _ (by omega) (by omega)).mono ?_; rintro e w' ⟨rfl, rfl⟩))
  go_region
  all_goals go_wp2
  all_goals go_ret3
  all_goals (refine ⟨_, rfl, ?_, 1, rfl⟩; simp [Wd.extract_str])

theorem opened_c41y (s : ByteArray) (m : Nat) (w : World) (hs : s.size ≤ 100000) (hm : s.size = m + 1) (hl : ((((s[m]'(by omega)).toNat : Nat) : Int) == 124) = true) :
    Calls Try.prog 76 #[.int .u8 41, .string s] w fun e w' => ∃ t : ByteArray, e = .returned (.tuple #[.int .i64 2, .string t, .bool true]) ∧ t.data.toList = s.data.toList.take m ∧ ∃ n, w' = w.drewN n := by
  have hu : Wd.up 41 = false := by decide
  go_enter Try.func76, Try.ntmps76
  go_wp2_with (first | (go_at_call 73; refine (upper_any _ _ (by omega) (by omega)).mono ?_; rintro e w' ⟨rfl, rfl⟩))
  go_region
  all_goals go_wp2
  all_goals go_ret3
  all_goals (refine ⟨_, rfl, ?_, 1, rfl⟩; simp [Wd.extract_str])

theorem opened_c93y (s : ByteArray) (m : Nat) (w : World) (hs : s.size ≤ 100000) (hm : s.size = m + 1) (hl : ((((s[m]'(by omega)).toNat : Nat) : Int) == 91) = true) :
    Calls Try.prog 76 #[.int .u8 93, .string s] w fun e w' => ∃ t : ByteArray, e = .returned (.tuple #[.int .i64 2, .string t, .bool true]) ∧ t.data.toList = s.data.toList.take m ∧ ∃ n, w' = w.drewN n := by
  have hu : Wd.up 93 = false := by decide
  go_enter Try.func76, Try.ntmps76
  go_wp2_with (first | (go_at_call 73; refine (upper_any _ _ (by omega) (by omega)).mono ?_; rintro e w' ⟨rfl, rfl⟩))
  go_region
  all_goals go_wp2
  all_goals go_ret3
  all_goals (refine ⟨_, rfl, ?_, 1, rfl⟩; simp [Wd.extract_str])

theorem opened_c125y (s : ByteArray) (m : Nat) (w : World) (hs : s.size ≤ 100000) (hm : s.size = m + 1) (hl : ((((s[m]'(by omega)).toNat : Nat) : Int) == 123) = true) :
    Calls Try.prog 76 #[.int .u8 125, .string s] w fun e w' => ∃ t : ByteArray, e = .returned (.tuple #[.int .i64 0, .string t, .bool true]) ∧ t.data.toList = [] ∧ ∃ n, w' = w.drewN n := by
  have hu : Wd.up 125 = false := by decide
  go_enter Try.func76, Try.ntmps76
  go_wp2_with (first | (go_at_call 73; refine (upper_any _ _ (by omega) (by omega)).mono ?_; rintro e w' ⟨rfl, rfl⟩))
  go_ret3
  exact ⟨_, rfl, by simp, 0, rfl⟩

theorem opened_c124n (s : ByteArray) (m : Nat) (w : World) (hs : s.size ≤ 100000) (hm : s.size = m + 1) (hl : ((((s[m]'(by omega)).toNat : Nat) : Int) == 40) = false) :
    Calls Try.prog 76 #[.int .u8 124, .string s] w fun e w' => ∃ t : ByteArray, e = .returned (.tuple #[.int .i64 0, .string t, .bool false]) ∧ t.data.toList = [] ∧ ∃ n, w' = w.drewN n := by
  have hu : Wd.up 124 = false := by decide
  go_enter Try.func76, Try.ntmps76
  go_wp2_with (first | (go_at_call 73; refine (upper_any _ _ (by omega) (by omega)).mono ?_; rintro e w' ⟨rfl, rfl⟩))
  go_ret3
  exact ⟨_, rfl, by simp, 0, rfl⟩

theorem opened_c41n (s : ByteArray) (m : Nat) (w : World) (hs : s.size ≤ 100000) (hm : s.size = m + 1) (hl : ((((s[m]'(by omega)).toNat : Nat) : Int) == 124) = false) :
    Calls Try.prog 76 #[.int .u8 41, .string s] w fun e w' => ∃ t : ByteArray, e = .returned (.tuple #[.int .i64 0, .string t, .bool false]) ∧ t.data.toList = [] ∧ ∃ n, w' = w.drewN n := by
  have hu : Wd.up 41 = false := by decide
  go_enter Try.func76, Try.ntmps76
  go_wp2_with (first | (go_at_call 73; refine (upper_any _ _ (by omega) (by omega)).mono ?_; rintro e w' ⟨rfl, rfl⟩))
  go_ret3
  exact ⟨_, rfl, by simp, 0, rfl⟩

theorem opened_c93n (s : ByteArray) (m : Nat) (w : World) (hs : s.size ≤ 100000) (hm : s.size = m + 1) (hl : ((((s[m]'(by omega)).toNat : Nat) : Int) == 91) = false) :
    Calls Try.prog 76 #[.int .u8 93, .string s] w fun e w' => ∃ t : ByteArray, e = .returned (.tuple #[.int .i64 0, .string t, .bool false]) ∧ t.data.toList = [] ∧ ∃ n, w' = w.drewN n := by
  have hu : Wd.up 93 = false := by decide
  go_enter Try.func76, Try.ntmps76
  go_wp2_with (first | (go_at_call 73; refine (upper_any _ _ (by omega) (by omega)).mono ?_; rintro e w' ⟨rfl, rfl⟩))
  go_ret3
  exact ⟨_, rfl, by simp, 0, rfl⟩

theorem opened_c125n (s : ByteArray) (m : Nat) (w : World) (hs : s.size ≤ 100000) (hm : s.size = m + 1) (hl : ((((s[m]'(by omega)).toNat : Nat) : Int) == 123) = false) :
    Calls Try.prog 76 #[.int .u8 125, .string s] w fun e w' => ∃ t : ByteArray, e = .returned (.tuple #[.int .i64 0, .string t, .bool false]) ∧ t.data.toList = [] ∧ ∃ n, w' = w.drewN n := by
  have hu : Wd.up 125 = false := by decide
  go_enter Try.func76, Try.ntmps76
  go_wp2_with (first | (go_at_call 73; refine (upper_any _ _ (by omega) (by omega)).mono ?_; rintro e w' ⟨rfl, rfl⟩))
  go_ret3
  exact ⟨_, rfl, by simp, 0, rfl⟩

theorem opened_no (s : ByteArray) (m : Nat) (w : World) (hs : s.size ≤ 100000) (hm : s.size = m + 1) (c : Int) (h0 : 0 ≤ c) (h1 : c ≤ 255) (m43 : c ≠ 43) (m45 : c ≠ 45) (m114 : c ≠ 114) (m119 : c ≠ 119) (m60 : c ≠ 60) (m62 : c ≠ 62) (m122 : c ≠ 122) (m40 : c ≠ 40) (m91 : c ≠ 91) (m124 : c ≠ 124) (m41 : c ≠ 41) (m93 : c ≠ 93) (m125 : c ≠ 125) (hu : Wd.up c = false) :
    Calls Try.prog 76 #[.int .u8 c, .string s] w fun e w' => ∃ t : ByteArray, e = .returned (.tuple #[.int .i64 0, .string t, .bool false]) ∧ t.data.toList = [] ∧ ∃ n, w' = w.drewN n := by
  have n43 : (c == 43) = false := beq_eq_false_iff_ne.2 (by omega)
  have n45 : (c == 45) = false := beq_eq_false_iff_ne.2 (by omega)
  have n114 : (c == 114) = false := beq_eq_false_iff_ne.2 (by omega)
  have n119 : (c == 119) = false := beq_eq_false_iff_ne.2 (by omega)
  have n60 : (c == 60) = false := beq_eq_false_iff_ne.2 (by omega)
  have n62 : (c == 62) = false := beq_eq_false_iff_ne.2 (by omega)
  have n122 : (c == 122) = false := beq_eq_false_iff_ne.2 (by omega)
  have n40 : (c == 40) = false := beq_eq_false_iff_ne.2 (by omega)
  have n91 : (c == 91) = false := beq_eq_false_iff_ne.2 (by omega)
  have n124 : (c == 124) = false := beq_eq_false_iff_ne.2 (by omega)
  have n41 : (c == 41) = false := beq_eq_false_iff_ne.2 (by omega)
  have n93 : (c == 93) = false := beq_eq_false_iff_ne.2 (by omega)
  have n125 : (c == 125) = false := beq_eq_false_iff_ne.2 (by omega)
  clear m43 m45 m114 m119 m60 m62 m122 m40 m91 m124 m41 m93 m125
  go_enter Try.func76, Try.ntmps76
  go_wp2_with (first | (go_at_call 73; refine (upper_any _ _ (by omega) (by omega)).mono ?_; rintro e w' ⟨rfl, rfl⟩))
  go_ret3
  exact ⟨_, rfl, by simp, 0, rfl⟩

end Go.Proofs.Ytecmfdkhcffpmaa
/- Contract of the document's reader of the form, whole: a byte in a body, and the place of the first byte that can't stand where it stands. -/
namespace Go.Proofs.Ytecmfdkhcffpmaa
open Go.RowKit
set_option linter.unusedSimpArgs false
set_option linter.unusedVariables false
set_option maxHeartbeats 400000

theorem lastIs_str (s : ByteArray) (m : Nat) (hm : s.size = m + 1) (c : Int) : Wd.lastIs s.data.toList c = ((((s[m]'(by omega)).toNat : Nat) : Int) == c) := by
  rw [Wd.at_str s m (by omega), Wd.lastIs, Wd.len_str, hm]; rfl

theorem opened_any (c : Int) (s : ByteArray) (w : World) (hs : s.size ≤ 100000) (hp : 0 < s.size) (h0 : 0 ≤ c) (h1 : c ≤ 255) :
    Calls Try.prog 76 #[.int .u8 c, .string s] w fun e w' => ∃ t : ByteArray, e = .returned (.tuple #[.int .i64 (Wd.openedW c s.data.toList), .string t, .bool (Wd.openedB c s.data.toList)]) ∧ t.data.toList = Wd.openedO c s.data.toList ∧ ∃ n, w' = w.drewN n := by
  obtain ⟨m, hm⟩ : ∃ m, s.size = m + 1 := ⟨s.size - 1, by omega⟩
  have hl := lastIs_str s m hm
  have hlen : s.data.toList.length - 1 = m := by rw [Wd.len_str]; omega
  unfold Wd.openedW Wd.openedO Wd.openedB
  by_cases b43 : c = 43
  · subst b43
    have e : Wd.opened 43 s.data.toList = some (3, s.data.toList) := by simp [Wd.opened, hlen, show Wd.up 43 = false from by decide]
    rw [e]
    exact opened_c43 s m w hs hm
  by_cases b45 : c = 45
  · subst b45
    have e : Wd.opened 45 s.data.toList = some (3, s.data.toList) := by simp [Wd.opened, hlen, show Wd.up 45 = false from by decide]
    rw [e]
    exact opened_c45 s m w hs hm
  by_cases b114 : c = 114
  · subst b114
    have e : Wd.opened 114 s.data.toList = some (4, s.data.toList) := by simp [Wd.opened, hlen, show Wd.up 114 = false from by decide]
    rw [e]
    exact opened_c114 s m w hs hm
  by_cases b119 : c = 119
  · subst b119
    have e : Wd.opened 119 s.data.toList = some (4, s.data.toList) := by simp [Wd.opened, hlen, show Wd.up 119 = false from by decide]
    rw [e]
    exact opened_c119 s m w hs hm
  by_cases b60 : c = 60
  · subst b60
    have e : Wd.opened 60 s.data.toList = some (2, s.data.toList) := by simp [Wd.opened, hlen, show Wd.up 60 = false from by decide]
    rw [e]
    exact opened_c60 s m w hs hm
  by_cases b62 : c = 62
  · subst b62
    have e : Wd.opened 62 s.data.toList = some (2, s.data.toList) := by simp [Wd.opened, hlen, show Wd.up 62 = false from by decide]
    rw [e]
    exact opened_c62 s m w hs hm
  by_cases b122 : c = 122
  · subst b122
    have e : Wd.opened 122 s.data.toList = some (2, s.data.toList) := by simp [Wd.opened, hlen, show Wd.up 122 = false from by decide]
    rw [e]
    exact opened_c122 s m w hs hm
  by_cases b40 : c = 40
  · subst b40
    have e : Wd.opened 40 s.data.toList = some (2, s.data.toList ++ [40]) := by simp [Wd.opened, hlen, show Wd.up 40 = false from by decide]
    rw [e]
    exact opened_c40 s m w hs hm
  by_cases b91 : c = 91
  · subst b91
    have e : Wd.opened 91 s.data.toList = some (2, s.data.toList ++ [91]) := by simp [Wd.opened, hlen, show Wd.up 91 = false from by decide]
    rw [e]
    exact opened_c91 s m w hs hm
  by_cases b124 : c = 124
  · subst b124
    cases hb : ((((s[m]'(by omega)).toNat : Nat) : Int) == 40)
    · have e : Wd.opened 124 s.data.toList = none := by simp [Wd.opened, hlen, show Wd.up 124 = false from by decide, hl, hb]; try omega
      rw [e]
      exact opened_c124n s m w hs hm hb
    · have e : Wd.opened 124 s.data.toList = some (2, s.data.toList.take m ++ [124]) := by simp [Wd.opened, hlen, show Wd.up 124 = false from by decide, hl, hb]; try omega
      rw [e]
      exact opened_c124y s m w hs hm hb
  by_cases b41 : c = 41
  · subst b41
    cases hb : ((((s[m]'(by omega)).toNat : Nat) : Int) == 124)
    · have e : Wd.opened 41 s.data.toList = none := by simp [Wd.opened, hlen, show Wd.up 41 = false from by decide, hl, hb]; try omega
      rw [e]
      exact opened_c41n s m w hs hm hb
    · have e : Wd.opened 41 s.data.toList = some (2, s.data.toList.take m) := by simp [Wd.opened, hlen, show Wd.up 41 = false from by decide, hl, hb]; try omega
      rw [e]
      exact opened_c41y s m w hs hm hb
  by_cases b93 : c = 93
  · subst b93
    cases hb : ((((s[m]'(by omega)).toNat : Nat) : Int) == 91)
    · have e : Wd.opened 93 s.data.toList = none := by simp [Wd.opened, hlen, show Wd.up 93 = false from by decide, hl, hb]; try omega
      rw [e]
      exact opened_c93n s m w hs hm hb
    · have e : Wd.opened 93 s.data.toList = some (2, s.data.toList.take m) := by simp [Wd.opened, hlen, show Wd.up 93 = false from by decide, hl, hb]; try omega
      rw [e]
      exact opened_c93y s m w hs hm hb
  by_cases b125 : c = 125
  · subst b125
    cases hb : ((((s[m]'(by omega)).toNat : Nat) : Int) == 123)
    · have e : Wd.opened 125 s.data.toList = none := by simp [Wd.opened, hlen, show Wd.up 125 = false from by decide, hl, hb]; try omega
      rw [e]
      exact opened_c125n s m w hs hm hb
    · have e : Wd.opened 125 s.data.toList = some (0, []) := by simp [Wd.opened, hlen, show Wd.up 125 = false from by decide, hl, hb]; try omega
      rw [e]
      exact opened_c125y s m w hs hm hb
  cases hu : Wd.up c
  · have e : Wd.opened c s.data.toList = none := by simp [Wd.opened, hu, b43, b45, b114, b119, b60, b62, b122, b40, b91, b124, b41, b93, b125]
    rw [e]
    exact opened_no s m w hs hm c h0 h1 b43 b45 b114 b119 b60 b62 b122 b40 b91 b124 b41 b93 b125 hu
  · have e : Wd.opened c s.data.toList = some (2, s.data.toList) := by simp [Wd.opened, hu, b43, b45, b114, b119]
    rw [e]
    have hu' := hu
    simp [Wd.up] at hu'
    exact opened_up s m w hs hm c hu'.1 hu'.2

end Go.Proofs.Ytecmfdkhcffpmaa
/- Contract of the document's 'place': the first byte that can't stand where it stands, or the length of a text that ends too early. -/
namespace Go.Proofs.Ytecmfdkhcffpmaa
open Go.RowKit
set_option linter.unusedSimpArgs false
set_option linter.unusedVariables false
set_option maxHeartbeats 400000

theorem place_stop {s : ByteArray} {k : Nat} {st : Wd.St} (hlt : k < s.size) (hp : Wd.place s.data.toList = Wd.placeFrom (s.data.toList.drop k) k st) (h : Wd.stepR st ((s[k].toNat : Nat) : Int) = none) : Wd.toInt (Wd.place s.data.toList) = (k : Int) := by
  rw [hp, Wd.placeFrom_step s k st hlt, h]; rfl
theorem place_go {s : ByteArray} {k : Nat} {st st' : Wd.St} (hlt : k < s.size) (hp : Wd.place s.data.toList = Wd.placeFrom (s.data.toList.drop k) k st) (h : Wd.stepR st ((s[k].toNat : Nat) : Int) = some st') : Wd.place s.data.toList = Wd.placeFrom (s.data.toList.drop (k + 1)) (k + 1) st' := by
  rw [hp, Wd.placeFrom_step s k st hlt, h]
theorem ok_next {a b : Int} {op : List UInt8} {items items' k : Nat} (h : (⟨a, op, items⟩ : Wd.St).ok k) (h1 : items' ≤ 8) (h2 : b = 0 ∨ b = 1 ∨ ((b = 2 ∨ b = 3 ∨ b = 4) ∧ ∃ r, op = 123 :: r)) : (⟨b, op, items'⟩ : Wd.St).ok (k + 1) :=
  ⟨h1, Nat.le_succ_of_le h.2.1, h2⟩

set_option maxHeartbeats 2000000 in
theorem place_any (s : ByteArray) (w : World) (hs : s.size ≤ 10000) :
    Calls Try.prog 44 #[.string s] w fun e w' => e = .returned (.int .i64 (Wd.toInt (Wd.place s.data.toList))) ∧ Below w.heap.size w w' := by
  go_enter Try.func44, Try.ntmps44
  go_wp2
  go_loopw [3, 4, 5, 6] (fun a b c d wr => ∃ (k : Nat) (st : Wd.St) (o : ByteArray), k ≤ s.size ∧ a = .int .i64 st.want ∧ b = .string o ∧ o.data.toList = st.op ∧ c = .int .i64 st.items ∧ d = .int .i64 k ∧ st.ok k ∧ Wd.place s.data.toList = Wd.placeFrom (s.data.toList.drop k) k st ∧ Below w.heap.size w wr) (fun _ _ _ d _ => s.size - (intOf d).toNat)
  case atStart => exact ⟨0, ⟨0, [], 0⟩, ⟨#[]⟩, Nat.zero_le _, rfl, rfl, rfl, rfl, rfl, ⟨by decide, by decide, Or.inl rfl⟩, rfl, Below.refl _ _⟩
  case round =>
    obtain ⟨k, ⟨want, op, items⟩, o, hk, rfl, rfl, hop, rfl, rfl, hok, hpl, hbe⟩ := hrel
    simp only at hop
    have HP := hide hpl
    have HO := hide hop
    have HK := hide hok
    have HB := hide hbe
    clear hpl hop hok hbe
    have hit : items ≤ 8 := HK.out.1
    have hol : o.size ≤ k + 1 := by rw [← Wd.len_str, HO.out]; exact HK.out.2.1
    by_cases hlt : k < s.size
    · have b0 := Wd.at_lo s.data.toList k
      have b1 := Wd.at_hi s.data.toList k
      rw [← Wd.at_str s k hlt] at b0 b1
      rcases HK.out.2.2 with hw | hw | ⟨hw, hr⟩
      · simp only at hw; subst hw
        by_cases h8 : items < 8
        · cases ht : (((s[k].toNat : Nat) : Int) == 116)
          · cases hh : (((s[k].toNat : Nat) : Int) == 104)
            · cases hu : Wd.up ((s[k].toNat : Nat) : Int)
              · go_wp2_with (go_at_call 73; refine (upper_any _ _ b0 b1).mono ?_; rintro e w' ⟨rfl, rfl⟩)
                go_ret
                refine ⟨ret_int (place_stop hlt HP.out ?_).symm, HB.out⟩
                simp at ht hh
                simp [Wd.stepR, hu, ht, hh]
              · go_wp2_with (go_at_call 73; refine (upper_any _ _ b0 b1).mono ?_; rintro e w' ⟨rfl, rfl⟩)
                go_roundw
                case rel => exact ⟨k + 1, ⟨1, op, items + 1⟩, o, by omega, rfl, rfl, HO.out, by go_num, by go_num, ok_next HK.out (by omega) (Or.inr (Or.inl rfl)), place_go hlt HP.out (by simp [Wd.stepR, hu, h8]), HB.out⟩
                case measure => simp [intOf]; omega
            · go_wp2_with (go_at_call 73; refine (upper_any _ _ b0 b1).mono ?_; rintro e w' ⟨rfl, rfl⟩)
              go_roundw
              case rel => exact ⟨k + 1, ⟨1, op, items + 1⟩, o, by omega, rfl, rfl, HO.out, by go_num, by go_num, ok_next HK.out (by omega) (Or.inr (Or.inl rfl)), place_go hlt HP.out (by simp at hh; simp [Wd.stepR, hh, h8]), HB.out⟩
              case measure => simp [intOf]; omega
          · go_wp2_with (go_at_call 73; refine (upper_any _ _ b0 b1).mono ?_; rintro e w' ⟨rfl, rfl⟩)
            go_roundw
            case rel => exact ⟨k + 1, ⟨1, op, items + 1⟩, o, by omega, rfl, rfl, HO.out, by go_num, by go_num, ok_next HK.out (by omega) (Or.inr (Or.inl rfl)), place_go hlt HP.out (by simp at ht; simp [Wd.stepR, ht, h8]), HB.out⟩
            case measure => simp [intOf]; omega
        · go_wp2
          go_ret
          exact ⟨ret_int (place_stop hlt HP.out (by simp [Wd.stepR, h8])).symm, HB.out⟩
      · simp only at hw; subst hw
        cases hc : (((s[k].toNat : Nat) : Int) == 123)
        · go_wp2
          go_ret
          exact ⟨ret_int (place_stop hlt HP.out (by simp at hc; simp [Wd.stepR, hc])).symm, HB.out⟩
        · go_wp2
          go_roundw
          case rel => exact ⟨k + 1, ⟨2, [123], items⟩, ⟨#[123]⟩, by omega, rfl, rfl, rfl, rfl, by go_num, ⟨hit, by simp, by simp⟩, place_go hlt HP.out (by simp at hc; simp [Wd.stepR, hc]), HB.out⟩
          case measure => simp [intOf]; omega
      · have hos : 0 < o.size := by
          rw [← Wd.len_str, HO.out]; obtain ⟨r, hr⟩ := hr; simp only at hr; rw [hr]; simp
        have HR := hide hr
        clear hr
        rcases hw with hw | hw | hw
        · simp only at hw; subst hw
          have HX := opened_any ((s[k].toNat : Nat) : Int) o
          have HX := hide HX
          cases hq : Wd.opened ((s[k].toNat : Nat) : Int) op with
          | none =>
            have q1 : Wd.openedB ((s[k].toNat : Nat) : Int) o.data.toList = false := by rw [HO.out]; simp [Wd.openedB, hq]
            have Q := hide hq
            clear hq
            go_wp2_with (go_at_call 76; refine (opened_any _ _ _ (by omega) hos b0 b1).mono ?_; rw [q1]; rintro e w' ⟨t, rfl, ht, n, rfl⟩)
            go_ret
            exact ⟨ret_int (place_stop hlt HP.out (by simp [Wd.stepR, Q.out])).symm, below_drewN HB.out _⟩
          | some x =>
            have q1 : Wd.openedB ((s[k].toNat : Nat) : Int) o.data.toList = true := by rw [HO.out]; simp [Wd.openedB, hq]
            have q2 : Wd.openedW ((s[k].toNat : Nat) : Int) o.data.toList = x.1 := by rw [HO.out]; simp [Wd.openedW, hq]
            have q3 : Wd.openedO ((s[k].toNat : Nat) : Int) o.data.toList = x.2 := by rw [HO.out]; simp [Wd.openedO, hq]
            have Q := hide hq
            clear hq
            have Q2 := hide q2
            have Q3 := hide q3
            clear q2 q3
            go_wp2_with (go_at_call 76; refine (opened_any _ _ _ (by omega) hos b0 b1).mono ?_; rw [q1, Q2.out, Q3.out]; rintro e w' ⟨t, rfl, ht, n, rfl⟩)
            go_roundw
            case rel => exact ⟨k + 1, ⟨x.1, x.2, items⟩, t, by omega, rfl, rfl, ht, rfl, by go_num, Wd.opened_ok Q.out HK.out.2.1 HR.out hit, place_go hlt HP.out (by simp [Wd.stepR, Q.out]), below_drewN HB.out _⟩
            case measure => simp [intOf]; omega
        · simp only at hw; subst hw
          cases hc : Wd.lk ((s[k].toNat : Nat) : Int)
          · go_wp2_with (go_at_call 74; refine (lock_any _ _ b0 b1).mono ?_; rintro e w' ⟨rfl, rfl⟩)
            go_ret
            exact ⟨ret_int (place_stop hlt HP.out (by simp [Wd.stepR, hc])).symm, HB.out⟩
          · go_wp2_with (go_at_call 74; refine (lock_any _ _ b0 b1).mono ?_; rintro e w' ⟨rfl, rfl⟩)
            go_roundw
            case rel => exact ⟨k + 1, ⟨2, op, items⟩, o, by omega, rfl, rfl, HO.out, rfl, by go_num, ok_next HK.out hit (Or.inr (Or.inr ⟨Or.inl rfl, HR.out⟩)), place_go hlt HP.out (by simp [Wd.stepR, hc]), HB.out⟩
            case measure => simp [intOf]; omega
        · simp only at hw; subst hw
          cases hc : Wd.cl ((s[k].toNat : Nat) : Int)
          · go_wp2_with (go_at_call 75; refine (cell_any _ _ b0 b1).mono ?_; rintro e w' ⟨rfl, rfl⟩)
            go_ret
            exact ⟨ret_int (place_stop hlt HP.out (by simp [Wd.stepR, hc])).symm, HB.out⟩
          · go_wp2_with (go_at_call 75; refine (cell_any _ _ b0 b1).mono ?_; rintro e w' ⟨rfl, rfl⟩)
            go_roundw
            case rel => exact ⟨k + 1, ⟨2, op, items⟩, o, by omega, rfl, rfl, HO.out, rfl, by go_num, ok_next HK.out hit (Or.inr (Or.inr ⟨Or.inl rfl, HR.out⟩)), place_go hlt HP.out (by simp [Wd.stepR, hc]), HB.out⟩
            case measure => simp [intOf]; omega
    · have HE := hide (Wd.placeFrom_end s k ⟨want, op, items⟩ (by omega) hk)
      cases hw : (want != 0)
      · cases hi : ((items : Int) == 0)
        · go_wp2
          go_ret
          refine ⟨ret_int ?_, HB.out⟩
          simp at hw hi
          rw [HP.out, HE.out]; simp [hw, hi, Wd.toInt]
        · go_wp2
          go_ret
          refine ⟨ret_int ?_, HB.out⟩
          simp at hw hi
          rw [HP.out, HE.out]; simp [hw, hi, Wd.toInt]
      · go_wp2
        go_ret
        refine ⟨ret_int ?_, HB.out⟩
        simp at hw
        rw [HP.out, HE.out]; simp [hw, Wd.toInt]
end Go.Proofs.Ytecmfdkhcffpmaa
