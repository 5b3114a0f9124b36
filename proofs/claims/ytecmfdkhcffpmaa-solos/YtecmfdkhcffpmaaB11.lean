/- MacB, RefA. -/
import Derived.Test.YtecmfdkhcffpmaaB10
import Derived.Test.YtecmfdkhcffpmaaRows
import Derived.WalkKit
import Derived.WalkSpells
import Derived.WalkLawsBesides
import Derived.Test.YtecmfdkhcffpmaaB01
/- Contracts of the document's machine: what stands at a place, the place behind it, locks in a number. -/
namespace Go.Proofs.Ytecmfdkhcffpmaa
open Go.RowKit
set_option linter.unusedSimpArgs false
set_option linter.unusedVariables false
set_option maxHeartbeats 800000

theorem ret_bool {a b : Bool} (h : a = b) : Ending.returned (.bool a) = .returned (.bool b) := by rw [h]
theorem atB_in (s : ByteArray) (p : Nat) (h : p < s.size) : Mc.atB s.data.toList p = ((s[p].toNat : Nat) : Int) := by
  rw [Mc.atB, Wd.len_str, if_pos h, Wd.at_str s p h]
theorem atB_out (s : ByteArray) (p : Nat) (h : ¬ p < s.size) : Mc.atB s.data.toList p = 101 := by
  rw [Mc.atB, Wd.len_str, if_neg h]
theorem atB_bd (l : List UInt8) (p : Nat) : 0 ≤ Mc.atB l p ∧ Mc.atB l p ≤ 255 := by
  unfold Mc.atB
  split
  · exact ⟨Wd.at_lo _ _, Wd.at_hi _ _⟩
  · omega
theorem at_any (s : ByteArray) (p : Nat) (w : World) (hs : s.size ≤ 10000) (hp : p ≤ 20000) :
    Calls Try.prog 93 #[.string s, .int .i64 p] w fun e w' => e = .returned (.int .u8 (Mc.atB s.data.toList p)) ∧ w' = w := by
  by_cases h : p < s.size
  · rw [atB_in s p h]
    go_enter Try.func93, Try.ntmps93
    go_wp2
    go_ret
    exact ⟨rfl, rfl⟩
  · rw [atB_out s p h]
    go_enter Try.func93, Try.ntmps93
    go_wp2
    go_ret
    exact ⟨rfl, rfl⟩
theorem number_any (s : ByteArray) (p : Nat) (w : World) (hs : s.size ≤ 10000) (hp : p ≤ 20000) (hv : p + 1 < s.size → 48 ≤ Wd.at_ s.data.toList (p + 1)) :
    Calls Try.prog 94 #[.string s, .int .i64 p] w fun e w' => e = .returned (.int .i64 (Mc.num s.data.toList p)) ∧ w' = w := by
  by_cases h : p + 1 < s.size
  · have b1 := Wd.at_hi s.data.toList (p + 1)
    have hv' := hv h
    have HB := Wd.at_str s (p + 1) h
    rw [← HB] at b1 hv'
    by_cases hc : 97 ≤ ((s[p + 1].toNat : Nat) : Int)
    · have e : Mc.num s.data.toList p = ((s[p + 1].toNat : Nat) : Int) - 97 := by
        rw [Mc.num, Wd.len_str, if_pos h, ← HB, if_pos hc]
      rw [e]
      clear e HB hv
      go_enter Try.func94, Try.ntmps94
      go_wp2
      go_ret
      exact ⟨rfl, rfl⟩
    · have e : Mc.num s.data.toList p = ((s[p + 1].toNat : Nat) : Int) - 48 := by
        rw [Mc.num, Wd.len_str, if_pos h, ← HB, if_neg hc]
      rw [e]
      clear e HB hv
      go_enter Try.func94, Try.ntmps94
      go_wp2
      go_ret
      exact ⟨rfl, rfl⟩
  · have e : Mc.num s.data.toList p = 0 := by rw [Mc.num, Wd.len_str, if_neg h]
    rw [e]
    clear e hv
    go_enter Try.func94, Try.ntmps94
    go_wp2
    go_ret
    exact ⟨rfl, rfl⟩
theorem power_any (n : Nat) (w : World) (hn : n ≤ 20) :
    Calls Try.prog 124 #[.int .i64 n] w fun e w' => e = .returned (.int .i64 ((2 ^ n : Nat) : Int)) ∧ w' = w := by
  go_enter Try.func124, Try.ntmps124
  go_wp2
  go_loop [3, 4] (fun a b => ∃ (k : Nat) (v : Nat), k ≤ n ∧ v = 2 ^ k ∧ v ≤ 1048576 ∧ a = .int .i64 v ∧ b = .int .i64 k) (fun _ b => n - (intOf b).toNat)
  case atStart => exact ⟨0, 1, by omega, rfl, by omega, rfl, rfl⟩
  case round =>
    obtain ⟨k, v, hk, hv, hb, rfl, rfl⟩ := hrel
    have HV := hide hv
    clear hv
    by_cases hlt : k < n
    · go_wp2
      go_round
      case rel =>
        refine ⟨k + 1, 2 * v, by omega, by rw [HV.out, Nat.pow_succ, Nat.mul_comm], ?_, by go_num, by go_num⟩
        have : 2 ^ (k + 1) ≤ 2 ^ 20 := Nat.pow_le_pow_right (by omega) (by omega)
        rw [Nat.pow_succ, ← HV.out] at this; omega
      case measure => simp [intOf] <;> omega
    · go_wp2
      go_ret
      obtain rfl : k = n := by omega
      exact ⟨ret_int (by rw [HV.out]; simp), rfl⟩
theorem holds_any (held l : Nat) (w : World) (hh : held ≤ 1000000) (hl : l ≤ 20) :
    Calls Try.prog 95 #[.int .i64 held, .int .i64 l] w fun e w' => e = .returned (.bool (Mc.holds held l)) ∧ w' = w := by
  have hp : 1 ≤ 2 ^ l := Nat.one_le_two_pow
  have hq : 2 ^ l ≤ 2 ^ 20 := Nat.pow_le_pow_right (by omega) hl
  have HE : Hid (Mc.holds held l = decide ((held / 2 ^ l) % 2 = 1)) := Nat.testBit_eq_decide_div_mod_eq
  have HX := hide (power_any l w hl)
  generalize 2 ^ l = v at *
  have hv : v ≤ 1048576 := by omega
  have hqe : (held : Int) / (v : Int) = ((held / v : Nat) : Int) := (Int.natCast_ediv held v).symm
  have hqb : held / v ≤ 1000000 := Nat.le_trans (Nat.div_le_self _ _) hh
  generalize held / v = qn at *
  clear hq
  go_enter Try.func95, Try.ntmps95
  go_wp2_with (go_at_call 124; refine HX.out.mono ?_; rintro e w' ⟨rfl, rfl⟩)
  go_ret
  refine ⟨ret_bool ?_, rfl⟩
  rw [HE.out]
  rw [Bool.eq_iff_iff]
  simp only [beq_iff_eq, decide_eq_true_eq]
  omega

theorem behind_c43 (s : ByteArray) (p : Nat) (w : World) (second : Bool) (hs : s.size ≤ 10000) (hp : p < s.size) (hc : Mc.atB s.data.toList p = 43) :
    Calls Try.prog 146 #[.string s, .int .i64 p, .bool second] w fun e w' => e = .returned (.int .i64 ((p + 2 : Nat) : Int)) ∧ w' = w := by
  have HA := at_any s p w hs (by omega)
  rw [hc] at HA
  have HAA := hide HA
  clear HA
  clear hc
  go_enter Try.func146, Try.ntmps146
  go_wp2_with (first | (go_at_call 93; refine HAA.out.mono ?_; rintro e w' ⟨rfl, rfl⟩))
  go_ret
  exact ⟨ret_int (by simp), rfl⟩

theorem behind_c45 (s : ByteArray) (p : Nat) (w : World) (second : Bool) (hs : s.size ≤ 10000) (hp : p < s.size) (hc : Mc.atB s.data.toList p = 45) :
    Calls Try.prog 146 #[.string s, .int .i64 p, .bool second] w fun e w' => e = .returned (.int .i64 ((p + 2 : Nat) : Int)) ∧ w' = w := by
  have HA := at_any s p w hs (by omega)
  rw [hc] at HA
  have HAA := hide HA
  clear HA
  clear hc
  go_enter Try.func146, Try.ntmps146
  go_wp2_with (first | (go_at_call 93; refine HAA.out.mono ?_; rintro e w' ⟨rfl, rfl⟩))
  go_ret
  exact ⟨ret_int (by simp), rfl⟩

theorem behind_c114 (s : ByteArray) (p : Nat) (w : World) (second : Bool) (hs : s.size ≤ 10000) (hp : p < s.size) (hc : Mc.atB s.data.toList p = 114) :
    Calls Try.prog 146 #[.string s, .int .i64 p, .bool second] w fun e w' => e = .returned (.int .i64 ((p + 2 : Nat) : Int)) ∧ w' = w := by
  have HA := at_any s p w hs (by omega)
  rw [hc] at HA
  have HAA := hide HA
  clear HA
  clear hc
  go_enter Try.func146, Try.ntmps146
  go_wp2_with (first | (go_at_call 93; refine HAA.out.mono ?_; rintro e w' ⟨rfl, rfl⟩))
  go_ret
  exact ⟨ret_int (by simp), rfl⟩

theorem behind_c119 (s : ByteArray) (p : Nat) (w : World) (second : Bool) (hs : s.size ≤ 10000) (hp : p < s.size) (hc : Mc.atB s.data.toList p = 119) :
    Calls Try.prog 146 #[.string s, .int .i64 p, .bool second] w fun e w' => e = .returned (.int .i64 ((p + 2 : Nat) : Int)) ∧ w' = w := by
  have HA := at_any s p w hs (by omega)
  rw [hc] at HA
  have HAA := hide HA
  clear HA
  clear hc
  go_enter Try.func146, Try.ntmps146
  go_wp2_with (first | (go_at_call 93; refine HAA.out.mono ?_; rintro e w' ⟨rfl, rfl⟩))
  go_ret
  exact ⟨ret_int (by simp), rfl⟩

theorem behind_c40 (s : ByteArray) (p : Nat) (w : World) (second : Bool) (hs : s.size ≤ 10000) (hp : p < s.size) (hc : Mc.atB s.data.toList p = 40) (h2 : second = true) :
    Calls Try.prog 146 #[.string s, .int .i64 p, .bool second] w fun e w' => e = .returned (.int .i64 ((Mc.ahead s.data.toList p 124 + 1 : Nat) : Int)) ∧ w' = w := by
  have HA := at_any s p w hs (by omega)
  rw [hc] at HA
  have HAA := hide HA
  clear HA
  have hab := Mc.ahead_bd s.data.toList p 124 (by rw [Wd.len_str]; exact hp)
  rw [Wd.len_str] at hab
  clear hc
  go_enter Try.func146, Try.ntmps146
  go_wp2_with (first | (go_at_call 93; refine HAA.out.mono ?_; rintro e w' ⟨rfl, rfl⟩) | (go_at_call 165; refine (ahead_any s p 124 _ hs hp (by omega) (by omega)).mono ?_; rintro e w' ⟨rfl, rfl⟩))
  go_ret
  exact ⟨ret_int (by simp), rfl⟩

theorem behind_c40n (s : ByteArray) (p : Nat) (w : World) (second : Bool) (hs : s.size ≤ 10000) (hp : p < s.size) (hc : Mc.atB s.data.toList p = 40) (h2 : second = false) :
    Calls Try.prog 146 #[.string s, .int .i64 p, .bool second] w fun e w' => e = .returned (.int .i64 ((p + 1 : Nat) : Int)) ∧ w' = w := by
  have HA := at_any s p w hs (by omega)
  rw [hc] at HA
  have HAA := hide HA
  clear HA
  clear hc
  go_enter Try.func146, Try.ntmps146
  go_wp2_with (first | (go_at_call 93; refine HAA.out.mono ?_; rintro e w' ⟨rfl, rfl⟩))
  go_ret
  exact ⟨ret_int (by simp), rfl⟩

theorem behind_c124 (s : ByteArray) (p : Nat) (w : World) (second : Bool) (hs : s.size ≤ 10000) (hp : p < s.size) (hc : Mc.atB s.data.toList p = 124) :
    Calls Try.prog 146 #[.string s, .int .i64 p, .bool second] w fun e w' => e = .returned (.int .i64 ((Mc.ahead s.data.toList p 41 + 1 : Nat) : Int)) ∧ w' = w := by
  have HA := at_any s p w hs (by omega)
  rw [hc] at HA
  have HAA := hide HA
  clear HA
  have hab := Mc.ahead_bd s.data.toList p 41 (by rw [Wd.len_str]; exact hp)
  rw [Wd.len_str] at hab
  clear hc
  go_enter Try.func146, Try.ntmps146
  go_wp2_with (first | (go_at_call 93; refine HAA.out.mono ?_; rintro e w' ⟨rfl, rfl⟩) | (go_at_call 165; refine (ahead_any s p 41 _ hs hp (by omega) (by omega)).mono ?_; rintro e w' ⟨rfl, rfl⟩))
  go_ret
  exact ⟨ret_int (by simp), rfl⟩

theorem behind_c91 (s : ByteArray) (p : Nat) (w : World) (second : Bool) (hs : s.size ≤ 10000) (hp : p < s.size) (hc : Mc.atB s.data.toList p = 91) (h2 : second = true) :
    Calls Try.prog 146 #[.string s, .int .i64 p, .bool second] w fun e w' => e = .returned (.int .i64 ((Mc.ahead s.data.toList p 93 + 1 : Nat) : Int)) ∧ w' = w := by
  have HA := at_any s p w hs (by omega)
  rw [hc] at HA
  have HAA := hide HA
  clear HA
  have hab := Mc.ahead_bd s.data.toList p 93 (by rw [Wd.len_str]; exact hp)
  rw [Wd.len_str] at hab
  clear hc
  go_enter Try.func146, Try.ntmps146
  go_wp2_with (first | (go_at_call 93; refine HAA.out.mono ?_; rintro e w' ⟨rfl, rfl⟩) | (go_at_call 165; refine (ahead_any s p 93 _ hs hp (by omega) (by omega)).mono ?_; rintro e w' ⟨rfl, rfl⟩))
  go_ret
  exact ⟨ret_int (by simp), rfl⟩

theorem behind_c91n (s : ByteArray) (p : Nat) (w : World) (second : Bool) (hs : s.size ≤ 10000) (hp : p < s.size) (hc : Mc.atB s.data.toList p = 91) (h2 : second = false) :
    Calls Try.prog 146 #[.string s, .int .i64 p, .bool second] w fun e w' => e = .returned (.int .i64 ((p + 1 : Nat) : Int)) ∧ w' = w := by
  have HA := at_any s p w hs (by omega)
  rw [hc] at HA
  have HAA := hide HA
  clear HA
  clear hc
  go_enter Try.func146, Try.ntmps146
  go_wp2_with (first | (go_at_call 93; refine HAA.out.mono ?_; rintro e w' ⟨rfl, rfl⟩))
  go_ret
  exact ⟨ret_int (by simp), rfl⟩

theorem behind_c93 (s : ByteArray) (p : Nat) (w : World) (second : Bool) (hs : s.size ≤ 10000) (hp : p < s.size) (hc : Mc.atB s.data.toList p = 93) :
    Calls Try.prog 146 #[.string s, .int .i64 p, .bool second] w fun e w' => e = .returned (.int .i64 ((Mc.back s.data.toList p : Nat) : Int)) ∧ w' = w := by
  have HA := at_any s p w hs (by omega)
  rw [hc] at HA
  have HAA := hide HA
  clear HA
  clear hc
  go_enter Try.func146, Try.ntmps146
  go_wp2_with (first | (go_at_call 93; refine HAA.out.mono ?_; rintro e w' ⟨rfl, rfl⟩) | (go_at_call 166; refine (back_any s p _ hs (by omega)).mono ?_; rintro e w' ⟨rfl, rfl⟩))
  go_ret
  exact ⟨ret_int (by simp), rfl⟩

theorem behind_rest (s : ByteArray) (p : Nat) (w : World) (second : Bool) (hs : s.size ≤ 10000) (hp : p ≤ 20000) (c : Int) (hc : Mc.atB s.data.toList p = c) (m43 : c ≠ 43) (m45 : c ≠ 45) (m114 : c ≠ 114) (m119 : c ≠ 119) (m40 : c ≠ 40) (m124 : c ≠ 124) (m91 : c ≠ 91) (m93 : c ≠ 93) :
    Calls Try.prog 146 #[.string s, .int .i64 p, .bool second] w fun e w' => e = .returned (.int .i64 ((p + 1 : Nat) : Int)) ∧ w' = w := by
  have HA := at_any s p w hs (by omega)
  rw [hc] at HA
  have HAA := hide HA
  have b := atB_bd s.data.toList p
  rw [hc] at b
  clear HA hc
  have n43 : (c == 43) = false := beq_eq_false_iff_ne.2 m43
  have n45 : (c == 45) = false := beq_eq_false_iff_ne.2 m45
  have n114 : (c == 114) = false := beq_eq_false_iff_ne.2 m114
  have n119 : (c == 119) = false := beq_eq_false_iff_ne.2 m119
  have n40 : (c == 40) = false := beq_eq_false_iff_ne.2 m40
  have n124 : (c == 124) = false := beq_eq_false_iff_ne.2 m124
  have n91 : (c == 91) = false := beq_eq_false_iff_ne.2 m91
  have n93 : (c == 93) = false := beq_eq_false_iff_ne.2 m93
  clear m43 m45 m114 m119 m40 m124 m91 m93
  go_enter Try.func146, Try.ntmps146
  go_wp2_with (first | (go_at_call 93; refine HAA.out.mono ?_; rintro e w' ⟨rfl, rfl⟩))
  go_ret
  exact ⟨ret_int (by simp), rfl⟩

theorem behind_any (s : ByteArray) (p : Nat) (w : World) (second : Bool) (hs : s.size ≤ 10000) (hp : p ≤ 20000) :
    Calls Try.prog 146 #[.string s, .int .i64 p, .bool second] w fun e w' => e = .returned (.int .i64 ((Mc.behind s.data.toList p second : Nat) : Int)) ∧ w' = w := by
  unfold Mc.behind
  by_cases hlt : p < s.size
  · by_cases c43 : Mc.atB s.data.toList p = 43
    · rw [if_pos (by simp [c43])]; exact behind_c43 s p w second hs hlt c43
    by_cases c45 : Mc.atB s.data.toList p = 45
    · rw [if_pos (by simp [c45])]; exact behind_c45 s p w second hs hlt c45
    by_cases c114 : Mc.atB s.data.toList p = 114
    · rw [if_pos (by simp [c114])]; exact behind_c114 s p w second hs hlt c114
    by_cases c119 : Mc.atB s.data.toList p = 119
    · rw [if_pos (by simp [c119])]; exact behind_c119 s p w second hs hlt c119
    rw [if_neg (by simp [c43, c45, c114, c119])]
    by_cases c40 : Mc.atB s.data.toList p = 40
    · cases second
      · rw [if_neg (by simp), if_neg (by rw [c40]; decide), if_neg (by simp), if_neg (by rw [c40]; decide)]; exact behind_c40n s p w false hs hlt c40 rfl
      · rw [if_pos ⟨c40, rfl⟩]; exact behind_c40 s p w true hs hlt c40 rfl
    rw [if_neg (fun h => c40 h.1)]
    by_cases c124 : Mc.atB s.data.toList p = 124
    · rw [if_pos c124]; exact behind_c124 s p w second hs hlt c124
    rw [if_neg c124]
    by_cases c91 : Mc.atB s.data.toList p = 91
    · cases second
      · rw [if_neg (by simp), if_neg (by rw [c91]; decide)]; exact behind_c91n s p w false hs hlt c91 rfl
      · rw [if_pos ⟨c91, rfl⟩]; exact behind_c91 s p w true hs hlt c91 rfl
    rw [if_neg (fun h => c91 h.1)]
    by_cases c93 : Mc.atB s.data.toList p = 93
    · rw [if_pos c93]; exact behind_c93 s p w second hs hlt c93
    rw [if_neg c93]
    exact behind_rest s p w second hs hp _ rfl c43 c45 c114 c119 c40 c124 c91 c93
  · have e := atB_out s p hlt
    rw [if_neg (by rw [e]; decide), if_neg (by rw [e]; rintro ⟨h, _⟩; cases h), if_neg (by rw [e]; decide), if_neg (by rw [e]; rintro ⟨h, _⟩; cases h), if_neg (by rw [e]; decide)]
    exact behind_rest s p w second hs hp 101 e (by decide) (by decide) (by decide) (by decide) (by decide) (by decide) (by decide) (by decide)
end Go.Proofs.Ytecmfdkhcffpmaa
/- Contracts of the document's small functions. -/
namespace Go.Proofs.Ytecmfdkhcffpmaa
open Go.RowKit
set_option linter.unusedSimpArgs false
set_option linter.unusedVariables false
set_option maxHeartbeats 400000

theorem upper_any (n : Int) (w : World) (h0 : 0 ≤ n) (h1 : n ≤ 255) :
    Calls Try.prog 73 #[.int .u8 n] w fun e w' => e = .returned (.bool (Wd.up n)) ∧ w' = w := by
  by_cases a : 65 ≤ n <;> by_cases b : n ≤ 72
  all_goals
    have hr : Wd.up n = decide (65 ≤ n ∧ n ≤ 72) := rfl
    simp only [a, b, and_self, and_true, true_and, and_false, false_and, decide_true, decide_false] at hr
    rw [hr]
    clear hr
    go_enter Try.func73, Try.ntmps73
    go_wp2
    go_ret
    exact ⟨by simp [a, b], rfl⟩
theorem lock_any (n : Int) (w : World) (h0 : 0 ≤ n) (h1 : n ≤ 255) :
    Calls Try.prog 74 #[.int .u8 n] w fun e w' => e = .returned (.bool (Wd.lk n)) ∧ w' = w := by
  by_cases a : 97 ≤ n <;> by_cases b : n ≤ 102
  all_goals
    have hr : Wd.lk n = decide (97 ≤ n ∧ n ≤ 102) := rfl
    simp only [a, b, and_self, and_true, true_and, and_false, false_and, decide_true, decide_false] at hr
    rw [hr]
    clear hr
    go_enter Try.func74, Try.ntmps74
    go_wp2
    go_ret
    exact ⟨by simp [a, b], rfl⟩
theorem cell_any (n : Int) (w : World) (h0 : 0 ≤ n) (h1 : n ≤ 255) :
    Calls Try.prog 75 #[.int .u8 n] w fun e w' => e = .returned (.bool (Wd.cl n)) ∧ w' = w := by
  by_cases a : 48 ≤ n <;> by_cases b : n ≤ 51
  all_goals
    have hr : Wd.cl n = decide (48 ≤ n ∧ n ≤ 51) := rfl
    simp only [a, b, and_self, and_true, true_and, and_false, false_and, decide_true, decide_false] at hr
    rw [hr]
    clear hr
    go_enter Try.func75, Try.ntmps75
    go_wp2
    go_ret
    exact ⟨by simp [a, b], rfl⟩
theorem isFunction_any (n : Int) (w : World) (h0 : 0 ≤ n) (h1 : n ≤ 255) :
    Calls Try.prog 135 #[.int .u8 n] w fun e w' => e = .returned (.bool (Wd.up n)) ∧ w' = w := by
  by_cases a : 65 ≤ n <;> by_cases b : n ≤ 72
  all_goals
    have hr : Wd.up n = decide (65 ≤ n ∧ n ≤ 72) := rfl
    simp only [a, b, and_self, and_true, true_and, and_false, false_and, decide_true, decide_false] at hr
    rw [hr]
    clear hr
    go_enter Try.func135, Try.ntmps135
    go_wp2
    go_ret
    exact ⟨by simp [a, b]; try omega, rfl⟩
theorem heads_any (s : ByteArray) (i : Nat) (w : World) (hs : s.size ≤ 100000) (hi : i ≤ s.size) :
    Calls Try.prog 78 #[.string s, .int .i64 i] w fun e w' => e = .returned (.bool (Wd.heads s.data.toList i)) ∧ w' = w := by
  by_cases a : i + 1 < s.size
  · have hb := Wd.at_str s (i + 1) a
    have hr : Wd.heads s.data.toList i = (((s[i + 1].toNat : Nat) : Int) == 123) := by
      rw [hb]; simp [Wd.heads, a]
    rw [hr]; clear hr hb
    go_enter Try.func78, Try.ntmps78
    go_wp2
    go_ret
    exact ⟨rfl, rfl⟩
  · have hr : Wd.heads s.data.toList i = false := by
      simp [Wd.heads, Wd.len_str]; omega
    rw [hr]; clear hr
    go_enter Try.func78, Try.ntmps78
    go_wp2
    go_ret
    exact ⟨rfl, rfl⟩

theorem headP_of (s : ByteArray) (n : Int) (k : Nat) (h : k < s.size) : Wd.headP s.data.toList n k = (Wd.heads s.data.toList k && (((s[k].toNat : Nat) : Int) == n)) := by
  rw [Wd.at_str s k h]; rfl

theorem head_any (s : ByteArray) (n : Int) (w : World) (hs : s.size ≤ 100000) (h0 : 0 ≤ n) (h1 : n ≤ 255) :
    Calls Try.prog 77 #[.string s, .int .u8 n] w fun e w' => e = .returned (.int .i64 (Wd.toInt (Wd.head s.data.toList n))) ∧ w' = w := by
  have HL := hide (Wd.len_str s)
  go_enter Try.func77, Try.ntmps77
  go_wp2
  go_loop [5] (fun i => ∃ k : Nat, k ≤ s.size ∧ i = .int .i64 k ∧ (∀ j, j < k → Wd.headP s.data.toList n j = false)) (fun i => s.size - (intOf i).toNat)
  case atStart => exact ⟨0, Nat.zero_le _, rfl, fun j hj => by omega⟩
  case round =>
    obtain ⟨k, hk, rfl, hno⟩ := hrel
    have HN := hide hno
    clear hno
    by_cases hlt : k < s.size
    · have HB := hide (headP_of s n k hlt)
      cases hh : Wd.heads s.data.toList k
      · go_wp2_with (go_at_call 78; refine (heads_any _ _ _ hs (by omega)).mono ?_; rintro e w' ⟨rfl, rfl⟩)
        go_round
        case rel => exact ⟨k + 1, by omega, by go_num, fun j hj => by
          by_cases e : j = k
          · subst e; rw [HB.out, hh]; rfl
          · exact HN.out j (by omega)⟩
        case measure => simp [intOf]; omega
      · by_cases hc : (((s[k].toNat : Nat) : Int) == n) = true
        · go_wp2_with (go_at_call 78; refine (heads_any _ _ _ hs (by omega)).mono ?_; rintro e w' ⟨rfl, rfl⟩)
          go_ret
          refine ⟨ret_int ?_, rfl⟩
          rw [Wd.head, HL.out, Wd.first_yes hlt (by rw [HB.out, hh, hc]; rfl) HN.out]; rfl
        · go_wp2_with (go_at_call 78; refine (heads_any _ _ _ hs (by omega)).mono ?_; rintro e w' ⟨rfl, rfl⟩)
          go_round
          case rel => exact ⟨k + 1, by omega, by go_num, fun j hj => by
            by_cases e : j = k
            · subst e; rw [HB.out, hh]; simpa using hc
            · exact HN.out j (by omega)⟩
          case measure => simp [intOf]; omega
    · go_wp2
      go_ret
      refine ⟨ret_int ?_, rfl⟩
      rw [Wd.head, HL.out, Wd.first_no (fun j hj => HN.out j (by omega))]; rfl

theorem body_fin (s : ByteArray) (i k : Nat) (hk0 : i + 2 ≤ k) (hk : k ≤ s.size) (h1 : ∀ j, i + 2 ≤ j → j < k → ¬ Wd.at_ s.data.toList j = 125) (h2 : k < s.size → Wd.at_ s.data.toList k = 125) :
    (s.extract (i + 2) k).data.toList = Wd.body s.data.toList i ∧ (s.extract (i + 2) k).size ≤ s.size := by
  constructor
  · rw [Wd.body_eq s.data.toList i k hk0 (by rw [Wd.len_str]; exact hk) h1 (by rw [Wd.len_str]; exact h2)]
    rw [Wd.extract_str]
  · simp; omega

theorem body_any (s : ByteArray) (i : Nat) (w : World) (hs : s.size ≤ 100000) (hi : i + 2 ≤ s.size) :
    Calls Try.prog 49 #[.string s, .int .i64 i] w fun e w' => ∃ t : ByteArray, e = .returned (.string t) ∧ t.data.toList = Wd.body s.data.toList i ∧ t.size ≤ s.size ∧ w' = w := by
  go_enter Try.func49, Try.ntmps49
  go_wp2
  go_loop [5] (fun x => ∃ k : Nat, i + 2 ≤ k ∧ k ≤ s.size ∧ x = .int .i64 k ∧ (∀ j, i + 2 ≤ j → j < k → ¬ Wd.at_ s.data.toList j = 125)) (fun x => s.size - (intOf x).toNat)
  case atStart => exact ⟨i + 2, by omega, hi, by go_num, fun j h1 h2 => by omega⟩
  case round =>
    obtain ⟨k, hk0, hk, rfl, hno⟩ := hrel
    have HN := hide hno
    clear hno
    by_cases hlt : k < s.size
    · have HB := hide (Wd.at_str s k hlt)
      cases hc : (((s[k].toNat : Nat) : Int) != 125)
      · go_wp2
        go_ret
        exact ⟨_, rfl, (body_fin s i k hk0 hk HN.out (fun _ => by rw [← HB.out]; simpa using hc)).1, (body_fin s i k hk0 hk HN.out (fun _ => by rw [← HB.out]; simpa using hc)).2, rfl⟩
      · go_wp2
        go_round
        case rel => exact ⟨k + 1, by omega, by omega, by go_num, fun j h1 h2 => by
            by_cases e : j = k
            · subst e; rw [← HB.out]; simpa using hc
            · exact HN.out j h1 (by omega)⟩
        case measure => simp [intOf]; omega
    · go_wp2
      go_ret
      exact ⟨_, rfl, (body_fin s i k hk0 hk HN.out (fun h => absurd h hlt)).1, (body_fin s i k hk0 hk HN.out (fun h => absurd h hlt)).2, rfl⟩

theorem misnamed_any (s : ByteArray) (w : World) (hs : s.size ≤ 100000) :
    Calls Try.prog 45 #[.string s] w fun e w' => e = .returned (.int .i64 (Wd.toInt (Wd.misnamed s.data.toList))) ∧ w' = w := by
  have HL := hide (Wd.len_str s)
  go_enter Try.func45, Try.ntmps45
  go_wp2
  go_loop [3] (fun i => ∃ k : Nat, k ≤ s.size ∧ i = .int .i64 k ∧ (∀ j, j < k → Wd.misP s.data.toList j = false)) (fun i => s.size - (intOf i).toNat)
  case atStart => exact ⟨0, Nat.zero_le _, rfl, fun j hj => by omega⟩
  case round =>
    obtain ⟨k, hk, rfl, hno⟩ := hrel
    have HN := hide hno
    clear hno
    by_cases hlt : k < s.size
    · have HB := hide (Wd.at_str s k hlt)
      have b0 := Wd.at_lo s.data.toList k
      have b1 := Wd.at_hi s.data.toList k
      rw [← HB.out] at b0 b1
      cases hu : Wd.up ((s[k].toNat : Nat) : Int)
      · go_wp2_with (go_at_call 73; refine (upper_any _ _ b0 b1).mono ?_; rintro e w' ⟨rfl, rfl⟩)
        go_round
        case rel => exact ⟨k + 1, by omega, by go_num, fun j hj => by
          by_cases e : j = k
          · subst e; rw [Wd.misP, ← HB.out, hu]; rfl
          · exact HN.out j (by omega)⟩
        case measure => simp [intOf]; omega
      · have HM : Hid (Wd.misP s.data.toList k = (decide (Wd.toInt (Wd.head s.data.toList ((s[k].toNat : Nat) : Int)) < 0) || (Wd.heads s.data.toList k && decide (Wd.toInt (Wd.head s.data.toList ((s[k].toNat : Nat) : Int)) < (k : Int))))) := by
          apply hide; rw [Wd.misP, ← HB.out, hu]; rfl
        generalize hx : Wd.toInt (Wd.head s.data.toList ((s[k].toNat : Nat) : Int)) = x at HM
        have HX := hide hx; clear hx
        by_cases ha : x < 0
        · go_wp2_with (first | (go_at_call 73; refine (upper_any _ _ b0 b1).mono ?_; rintro e w' ⟨rfl, rfl⟩) | (go_at_call 77; refine (head_any _ _ _ hs b0 b1).mono ?_; rw [HX.out]; rintro e w' ⟨rfl, rfl⟩) | (go_at_call 78; refine (heads_any _ _ _ hs (by omega)).mono ?_; rintro e w' ⟨rfl, rfl⟩))
          go_ret
          refine ⟨ret_int ?_, rfl⟩
          rw [Wd.misnamed, HL.out, Wd.first_yes hlt (by rw [HM.out]; simp [ha]) HN.out]; rfl
        · cases hh : Wd.heads s.data.toList k
          · go_wp2_with (first | (go_at_call 73; refine (upper_any _ _ b0 b1).mono ?_; rintro e w' ⟨rfl, rfl⟩) | (go_at_call 77; refine (head_any _ _ _ hs b0 b1).mono ?_; rw [HX.out]; rintro e w' ⟨rfl, rfl⟩) | (go_at_call 78; refine (heads_any _ _ _ hs (by omega)).mono ?_; rintro e w' ⟨rfl, rfl⟩))
            go_round
            case rel => exact ⟨k + 1, by omega, by go_num, fun j hj => by
              by_cases e : j = k
              · subst e; rw [HM.out, hh]; simp [ha]
              · exact HN.out j (by omega)⟩
            case measure => simp [intOf]; omega
          · by_cases hb : x < (k : Int)
            · go_wp2_with (first | (go_at_call 73; refine (upper_any _ _ b0 b1).mono ?_; rintro e w' ⟨rfl, rfl⟩) | (go_at_call 77; refine (head_any _ _ _ hs b0 b1).mono ?_; rw [HX.out]; rintro e w' ⟨rfl, rfl⟩) | (go_at_call 78; refine (heads_any _ _ _ hs (by omega)).mono ?_; rintro e w' ⟨rfl, rfl⟩))
              go_ret
              refine ⟨ret_int ?_, rfl⟩
              rw [Wd.misnamed, HL.out, Wd.first_yes hlt (by rw [HM.out, hh]; simp [hb]) HN.out]; rfl
            · go_wp2_with (first | (go_at_call 73; refine (upper_any _ _ b0 b1).mono ?_; rintro e w' ⟨rfl, rfl⟩) | (go_at_call 77; refine (head_any _ _ _ hs b0 b1).mono ?_; rw [HX.out]; rintro e w' ⟨rfl, rfl⟩) | (go_at_call 78; refine (heads_any _ _ _ hs (by omega)).mono ?_; rintro e w' ⟨rfl, rfl⟩))
              go_round
              case rel => exact ⟨k + 1, by omega, by go_num, fun j hj => by
                by_cases e : j = k
                · subst e; rw [HM.out, hh]; simp [ha]; omega
                · exact HN.out j (by omega)⟩
              case measure => simp [intOf]; omega
    · go_wp2
      go_ret
      refine ⟨ret_int ?_, rfl⟩
      rw [Wd.misnamed, HL.out, Wd.first_no (fun j hj => HN.out j (by omega))]; rfl
end Go.Proofs.Ytecmfdkhcffpmaa
