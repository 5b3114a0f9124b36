/- MacB, Pure5, Pure6, Pure7. -/
import Derived.Test.YtecmfdkhcffpmaaB01
import Derived.Laws.Tables
import Derived.Laws.Rows
/- Contracts of the document's machine: what stands at a place, the place behind it, locks in a number. -/
namespace Go.Proofs.Ytecmfdkhcffpmaa
open Go.RowKit
set_option linter.unusedSimpArgs false
set_option linter.unusedVariables false
set_option maxHeartbeats 800000

theorem ret_bool {a b : Bool} (h : a = b) : Ending.returned (.bool a) = .returned (.bool b) := by rw [h]
theorem atB_in (s : ByteArray) (p : Nat) (h : p < s.size) : Mc.atB s.data.toList p = ((s[p].toNat : Nat) : Int) := by
  rw [Mc.atB, Wd.len_str, if_pos h, Wd.at_str s p h]
theorem atB_out (s : ByteArray) (p : Nat) (h : ¬ p < s.size) : Mc.atB s.data.toList p = 101 := by
  rw [Mc.atB, Wd.len_str, if_neg h]
theorem at_any (s : ByteArray) (p : Nat) (w : World) (hs : s.size ≤ 10000) (hp : p ≤ 20000) :
    Calls Try.prog 93 #[.string s, .int .i64 p] w fun e w' => e = .returned (.int .u8 (Mc.atB s.data.toList p)) ∧ w' = w := by
  by_cases h : p < s.size
  · rw [atB_in s p h]
    go_enter Try.func93, Try.ntmps93
    go_wp2
    go_ret
    exact ⟨rfl, rfl⟩
  · rw [atB_out s p h]
    go_enter Try.func93, Try.ntmps93
    go_wp2
    go_ret
    exact ⟨rfl, rfl⟩
theorem number_any (s : ByteArray) (p : Nat) (w : World) (hs : s.size ≤ 10000) (hp : p ≤ 20000) (hv : p + 1 < s.size → 48 ≤ Wd.at_ s.data.toList (p + 1)) :
    Calls Try.prog 94 #[.string s, .int .i64 p] w fun e w' => e = .returned (.int .i64 (Mc.num s.data.toList p)) ∧ w' = w := by
  by_cases h : p + 1 < s.size
  · have b1 := Wd.at_hi s.data.toList (p + 1)
    have hv' := hv h
    have HB := Wd.at_str s (p + 1) h
    rw [← HB] at b1 hv'
    by_cases hc : 97 ≤ ((s[p + 1].toNat : Nat) : Int)
    · have e : Mc.num s.data.toList p = ((s[p + 1].toNat : Nat) : Int) - 97 := by
        rw [Mc.num, Wd.len_str, if_pos h, ← HB, if_pos hc]
      rw [e]
      clear e HB hv
      go_enter Try.func94, Try.ntmps94
      go_wp2
      go_ret
      exact ⟨rfl, rfl⟩
    · have e : Mc.num s.data.toList p = ((s[p + 1].toNat : Nat) : Int) - 48 := by
        rw [Mc.num, Wd.len_str, if_pos h, ← HB, if_neg hc]
      rw [e]
      clear e HB hv
      go_enter Try.func94, Try.ntmps94
      go_wp2
      go_ret
      exact ⟨rfl, rfl⟩
  · have e : Mc.num s.data.toList p = 0 := by rw [Mc.num, Wd.len_str, if_neg h]
    rw [e]
    clear e hv
    go_enter Try.func94, Try.ntmps94
    go_wp2
    go_ret
    exact ⟨rfl, rfl⟩
theorem power_any (n : Nat) (w : World) (hn : n ≤ 20) :
    Calls Try.prog 124 #[.int .i64 n] w fun e w' => e = .returned (.int .i64 ((2 ^ n : Nat) : Int)) ∧ w' = w := by
  go_enter Try.func124, Try.ntmps124
  go_wp2
  go_loop [3, 4] (fun a b => ∃ (k : Nat) (v : Nat), k ≤ n ∧ v = 2 ^ k ∧ v ≤ 1048576 ∧ a = .int .i64 v ∧ b = .int .i64 k) (fun _ b => n - (intOf b).toNat)
  case atStart => exact ⟨0, 1, by omega, rfl, by omega, rfl, rfl⟩
  case round =>
    obtain ⟨k, v, hk, hv, hb, rfl, rfl⟩ := hrel
    have HV := hide hv
    clear hv
    by_cases hlt : k < n
    · go_wp2
      go_round
      case rel =>
        refine ⟨k + 1, 2 * v, by omega, by rw [HV.out, Nat.pow_succ, Nat.mul_comm], ?_, by go_num, by go_num⟩
        have : 2 ^ (k + 1) ≤ 2 ^ 20 := Nat.pow_le_pow_right (by omega) (by omega)
        rw [Nat.pow_succ, ← HV.out] at this; omega
      case measure => simp [intOf] <;> omega
    · go_wp2
      go_ret
      obtain rfl : k = n := by omega
      exact ⟨ret_int (by rw [HV.out]; simp), rfl⟩
theorem holds_any (held l : Nat) (w : World) (hh : held ≤ 1000000) (hl : l ≤ 20) :
    Calls Try.prog 95 #[.int .i64 held, .int .i64 l] w fun e w' => e = .returned (.bool (Mc.holds held l)) ∧ w' = w := by
  have hp : 1 ≤ 2 ^ l := Nat.one_le_two_pow
  have hq : 2 ^ l ≤ 2 ^ 20 := Nat.pow_le_pow_right (by omega) hl
  have HE : Hid (Mc.holds held l = decide ((held / 2 ^ l) % 2 = 1)) := Nat.testBit_eq_decide_div_mod_eq
  have HX := hide (power_any l w hl)
  generalize 2 ^ l = v at *
  have hv : v ≤ 1048576 := by omega
  have hqe : (held : Int) / (v : Int) = ((held / v : Nat) : Int) := (Int.natCast_ediv held v).symm
  have hqb : held / v ≤ 1000000 := Nat.le_trans (Nat.div_le_self _ _) hh
  generalize held / v = qn at *
  clear hq
  go_enter Try.func95, Try.ntmps95
  go_wp2_with (go_at_call 124; refine HX.out.mono ?_; rintro e w' ⟨rfl, rfl⟩)
  go_ret
  refine ⟨ret_bool ?_, rfl⟩
  rw [HE.out]
  rw [Bool.eq_iff_iff]
  simp only [beq_iff_eq, decide_eq_true_eq]
  omega

theorem behind_c43 (s : ByteArray) (p : Nat) (w : World) (second : Bool) (hs : s.size ≤ 10000) (hp : p < s.size) (hc : Mc.atB s.data.toList p = 43) :
    Calls Try.prog 146 #[.string s, .int .i64 p, .bool second] w fun e w' => e = .returned (.int .i64 ((p + 2 : Nat) : Int)) ∧ w' = w := by
  have HA := at_any s p w hs (by omega)
  rw [hc] at HA
  have HAA := hide HA
  clear HA
  clear hc
  go_enter Try.func146, Try.ntmps146
  go_wp2_with (first | (go_at_call 93; refine HAA.out.mono ?_; rintro e w' ⟨rfl, rfl⟩))
  go_ret
  exact ⟨ret_int (by simp), rfl⟩

theorem behind_c45 (s : ByteArray) (p : Nat) (w : World) (second : Bool) (hs : s.size ≤ 10000) (hp : p < s.size) (hc : Mc.atB s.data.toList p = 45) :
    Calls Try.prog 146 #[.string s, .int .i64 p, .bool second] w fun e w' => e = .returned (.int .i64 ((p + 2 : Nat) : Int)) ∧ w' = w := by
  have HA := at_any s p w hs (by omega)
  rw [hc] at HA
  have HAA := hide HA
  clear HA
  clear hc
  go_enter Try.func146, Try.ntmps146
  go_wp2_with (first | (go_at_call 93; refine HAA.out.mono ?_; rintro e w' ⟨rfl, rfl⟩))
  go_ret
  exact ⟨ret_int (by simp), rfl⟩

theorem behind_c114 (s : ByteArray) (p : Nat) (w : World) (second : Bool) (hs : s.size ≤ 10000) (hp : p < s.size) (hc : Mc.atB s.data.toList p = 114) :
    Calls Try.prog 146 #[.string s, .int .i64 p, .bool second] w fun e w' => e = .returned (.int .i64 ((p + 2 : Nat) : Int)) ∧ w' = w := by
  have HA := at_any s p w hs (by omega)
  rw [hc] at HA
  have HAA := hide HA
  clear HA
  clear hc
  go_enter Try.func146, Try.ntmps146
  go_wp2_with (first | (go_at_call 93; refine HAA.out.mono ?_; rintro e w' ⟨rfl, rfl⟩))
  go_ret
  exact ⟨ret_int (by simp), rfl⟩

theorem behind_c119 (s : ByteArray) (p : Nat) (w : World) (second : Bool) (hs : s.size ≤ 10000) (hp : p < s.size) (hc : Mc.atB s.data.toList p = 119) :
    Calls Try.prog 146 #[.string s, .int .i64 p, .bool second] w fun e w' => e = .returned (.int .i64 ((p + 2 : Nat) : Int)) ∧ w' = w := by
  have HA := at_any s p w hs (by omega)
  rw [hc] at HA
  have HAA := hide HA
  clear HA
  clear hc
  go_enter Try.func146, Try.ntmps146
  go_wp2_with (first | (go_at_call 93; refine HAA.out.mono ?_; rintro e w' ⟨rfl, rfl⟩))
  go_ret
  exact ⟨ret_int (by simp), rfl⟩

theorem behind_c40 (s : ByteArray) (p : Nat) (w : World) (second : Bool) (hs : s.size ≤ 10000) (hp : p < s.size) (hc : Mc.atB s.data.toList p = 40) (h2 : second = true) :
    Calls Try.prog 146 #[.string s, .int .i64 p, .bool second] w fun e w' => e = .returned (.int .i64 ((Mc.ahead s.data.toList p 124 + 1 : Nat) : Int)) ∧ w' = w := by
  have HA := at_any s p w hs (by omega)
  rw [hc] at HA
  have HAA := hide HA
  clear HA
  have hab := Mc.ahead_bd s.data.toList p 124 (by rw [Wd.len_str]; exact hp)
  rw [Wd.len_str] at hab
  clear hc
  go_enter Try.func146, Try.ntmps146
  go_wp2_with (first | (go_at_call 93; refine HAA.out.mono ?_; rintro e w' ⟨rfl, rfl⟩) | (go_at_call 165; refine (ahead_any s p 124 _ hs hp (by omega) (by omega)).mono ?_; rintro e w' ⟨rfl, rfl⟩))
  go_ret
  exact ⟨ret_int (by simp), rfl⟩

theorem behind_c40n (s : ByteArray) (p : Nat) (w : World) (second : Bool) (hs : s.size ≤ 10000) (hp : p < s.size) (hc : Mc.atB s.data.toList p = 40) (h2 : second = false) :
    Calls Try.prog 146 #[.string s, .int .i64 p, .bool second] w fun e w' => e = .returned (.int .i64 ((p + 1 : Nat) : Int)) ∧ w' = w := by
  have HA := at_any s p w hs (by omega)
  rw [hc] at HA
  have HAA := hide HA
  clear HA
  clear hc
  go_enter Try.func146, Try.ntmps146
  go_wp2_with (first | (go_at_call 93; refine HAA.out.mono ?_; rintro e w' ⟨rfl, rfl⟩))
  go_ret
  exact ⟨ret_int (by simp), rfl⟩

theorem behind_c124 (s : ByteArray) (p : Nat) (w : World) (second : Bool) (hs : s.size ≤ 10000) (hp : p < s.size) (hc : Mc.atB s.data.toList p = 124) :
    Calls Try.prog 146 #[.string s, .int .i64 p, .bool second] w fun e w' => e = .returned (.int .i64 ((Mc.ahead s.data.toList p 41 + 1 : Nat) : Int)) ∧ w' = w := by
  have HA := at_any s p w hs (by omega)
  rw [hc] at HA
  have HAA := hide HA
  clear HA
  have hab := Mc.ahead_bd s.data.toList p 41 (by rw [Wd.len_str]; exact hp)
  rw [Wd.len_str] at hab
  clear hc
  go_enter Try.func146, Try.ntmps146
  go_wp2_with (first | (go_at_call 93; refine HAA.out.mono ?_; rintro e w' ⟨rfl, rfl⟩) | (go_at_call 165; refine (ahead_any s p 41 _ hs hp (by omega) (by omega)).mono ?_; rintro e w' ⟨rfl, rfl⟩))
  go_ret
  exact ⟨ret_int (by simp), rfl⟩

theorem behind_c91 (s : ByteArray) (p : Nat) (w : World) (second : Bool) (hs : s.size ≤ 10000) (hp : p < s.size) (hc : Mc.atB s.data.toList p = 91) (h2 : second = true) :
    Calls Try.prog 146 #[.string s, .int .i64 p, .bool second] w fun e w' => e = .returned (.int .i64 ((Mc.ahead s.data.toList p 93 + 1 : Nat) : Int)) ∧ w' = w := by
  have HA := at_any s p w hs (by omega)
  rw [hc] at HA
  have HAA := hide HA
  clear HA
  have hab := Mc.ahead_bd s.data.toList p 93 (by rw [Wd.len_str]; exact hp)
  rw [Wd.len_str] at hab
  clear hc
  go_enter Try.func146, Try.ntmps146
  go_wp2_with (first | (go_at_call 93; refine HAA.out.mono ?_; rintro e w' ⟨rfl, rfl⟩) | (go_at_call 165; refine (ahead_any s p 93 _ hs hp (by omega) (by omega)).mono ?_; rintro e w' ⟨rfl, rfl⟩))
  go_ret
  exact ⟨ret_int (by simp), rfl⟩

theorem behind_c91n (s : ByteArray) (p : Nat) (w : World) (second : Bool) (hs : s.size ≤ 10000) (hp : p < s.size) (hc : Mc.atB s.data.toList p = 91) (h2 : second = false) :
    Calls Try.prog 146 #[.string s, .int .i64 p, .bool second] w fun e w' => e = .returned (.int .i64 ((p + 1 : Nat) : Int)) ∧ w' = w := by
  have HA := at_any s p w hs (by omega)
  rw [hc] at HA
  have HAA := hide HA
  clear HA
  clear hc
  go_enter Try.func146, Try.ntmps146
  go_wp2_with (first | (go_at_call 93; refine HAA.out.mono ?_; rintro e w' ⟨rfl, rfl⟩))
  go_ret
  exact ⟨ret_int (by simp), rfl⟩

theorem behind_c93 (s : ByteArray) (p : Nat) (w : World) (second : Bool) (hs : s.size ≤ 10000) (hp : p < s.size) (hc : Mc.atB s.data.toList p = 93) :
    Calls Try.prog 146 #[.string s, .int .i64 p, .bool second] w fun e w' => e = .returned (.int .i64 ((Mc.back s.data.toList p : Nat) : Int)) ∧ w' = w := by
  have HA := at_any s p w hs (by omega)
  rw [hc] at HA
  have HAA := hide HA
  clear HA
  clear hc
  go_enter Try.func146, Try.ntmps146
  go_wp2_with (first | (go_at_call 93; refine HAA.out.mono ?_; rintro e w' ⟨rfl, rfl⟩) | (go_at_call 166; refine (back_any s p _ hs (by omega)).mono ?_; rintro e w' ⟨rfl, rfl⟩))
  go_ret
  exact ⟨ret_int (by simp), rfl⟩

theorem behind_rest (s : ByteArray) (p : Nat) (w : World) (second : Bool) (hs : s.size ≤ 10000) (hp : p ≤ 20000) (c : Int) (hc : Mc.atB s.data.toList p = c) (m43 : c ≠ 43) (m45 : c ≠ 45) (m114 : c ≠ 114) (m119 : c ≠ 119) (m40 : c ≠ 40) (m124 : c ≠ 124) (m91 : c ≠ 91) (m93 : c ≠ 93) :
    Calls Try.prog 146 #[.string s, .int .i64 p, .bool second] w fun e w' => e = .returned (.int .i64 ((p + 1 : Nat) : Int)) ∧ w' = w := by
  have HA := at_any s p w hs (by omega)
  rw [hc] at HA
  have HAA := hide HA
  have b := atB_bd s.data.toList p
  rw [hc] at b
  clear HA hc
  have n43 : (c == 43) = false := beq_eq_false_iff_ne.2 m43
  have n45 : (c == 45) = false := beq_eq_false_iff_ne.2 m45
  have n114 : (c == 114) = false := beq_eq_false_iff_ne.2 m114
  have n119 : (c == 119) = false := beq_eq_false_iff_ne.2 m119
  have n40 : (c == 40) = false := beq_eq_false_iff_ne.2 m40
  have n124 : (c == 124) = false := beq_eq_false_iff_ne.2 m124
  have n91 : (c == 91) = false := beq_eq_false_iff_ne.2 m91
  have n93 : (c == 93) = false := beq_eq_false_iff_ne.2 m93
  clear m43 m45 m114 m119 m40 m124 m91 m93
  go_enter Try.func146, Try.ntmps146
  go_wp2_with (first | (go_at_call 93; refine HAA.out.mono ?_; rintro e w' ⟨rfl, rfl⟩))
  go_ret
  exact ⟨ret_int (by simp), rfl⟩

theorem behind_any (s : ByteArray) (p : Nat) (w : World) (second : Bool) (hs : s.size ≤ 10000) (hp : p ≤ 20000) :
    Calls Try.prog 146 #[.string s, .int .i64 p, .bool second] w fun e w' => e = .returned (.int .i64 ((Mc.behind s.data.toList p second : Nat) : Int)) ∧ w' = w := by
  unfold Mc.behind
  by_cases hlt : p < s.size
  · by_cases c43 : Mc.atB s.data.toList p = 43
    · rw [if_pos (by simp [c43])]; exact behind_c43 s p w second hs hlt c43
    by_cases c45 : Mc.atB s.data.toList p = 45
    · rw [if_pos (by simp [c45])]; exact behind_c45 s p w second hs hlt c45
    by_cases c114 : Mc.atB s.data.toList p = 114
    · rw [if_pos (by simp [c114])]; exact behind_c114 s p w second hs hlt c114
    by_cases c119 : Mc.atB s.data.toList p = 119
    · rw [if_pos (by simp [c119])]; exact behind_c119 s p w second hs hlt c119
    rw [if_neg (by simp [c43, c45, c114, c119])]
    by_cases c40 : Mc.atB s.data.toList p = 40
    · cases second
      · rw [if_neg (by simp), if_neg (by rw [c40]; decide), if_neg (by simp), if_neg (by rw [c40]; decide)]; exact behind_c40n s p w false hs hlt c40 rfl
      · rw [if_pos ⟨c40, rfl⟩]; exact behind_c40 s p w true hs hlt c40 rfl
    rw [if_neg (fun h => c40 h.1)]
    by_cases c124 : Mc.atB s.data.toList p = 124
    · rw [if_pos c124]; exact behind_c124 s p w second hs hlt c124
    rw [if_neg c124]
    by_cases c91 : Mc.atB s.data.toList p = 91
    · cases second
      · rw [if_neg (by simp), if_neg (by rw [c91]; decide)]; exact behind_c91n s p w false hs hlt c91 rfl
      · rw [if_pos ⟨c91, rfl⟩]; exact behind_c91 s p w true hs hlt c91 rfl
    rw [if_neg (fun h => c91 h.1)]
    by_cases c93 : Mc.atB s.data.toList p = 93
    · rw [if_pos c93]; exact behind_c93 s p w second hs hlt c93
    rw [if_neg c93]
    exact behind_rest s p w second hs hp _ rfl c43 c45 c114 c119 c40 c124 c91 c93
  · have e := atB_out s p hlt
    rw [if_neg (by rw [e]; decide), if_neg (by rw [e]; rintro ⟨h, _⟩; cases h), if_neg (by rw [e]; decide), if_neg (by rw [e]; rintro ⟨h, _⟩; cases h), if_neg (by rw [e]; decide)]
    exact behind_rest s p w second hs hp 101 e (by decide) (by decide) (by decide) (by decide) (by decide) (by decide) (by decide) (by decide)
end Go.Proofs.Ytecmfdkhcffpmaa
/- The plain functions of the program's reader of the form. -/
namespace Go.Proofs.Ytecmfdkhcffpmaa
open Go.RowKit
set_option linter.unusedSimpArgs false
set_option linter.unusedVariables false
namespace Wd
/-- What is open innermost is taken away, if it is that byte. -/
def shut (o : List UInt8) (c : Int) : Option (List UInt8) := if 0 < o.length ∧ at_ o (o.length - 1) = c then some (o.take (o.length - 1)) else none
def bodyP (st : St) (c : Int) : Option St :=
  if c = 43 ∨ c = 45 then some ⟨3, st.op, st.items⟩
  else if c = 114 ∨ c = 119 then some ⟨4, st.op, st.items⟩
  else if c = 60 ∨ c = 62 ∨ c = 122 then some st
  else if c = 40 then some ⟨st.want, st.op ++ [40], st.items⟩
  else if c = 91 then some ⟨st.want, st.op ++ [91], st.items⟩
  else if c = 124 then (match shut st.op 40 with | some o => some ⟨st.want, o ++ [124], st.items⟩ | none => none)
  else if c = 41 then (match shut st.op 124 with | some o => some ⟨st.want, o, st.items⟩ | none => none)
  else if c = 93 then (match shut st.op 91 with | some o => some ⟨st.want, o, st.items⟩ | none => none)
  else if c = 125 then (if st.op.length = 0 then some ⟨0, st.op, st.items⟩ else none)
  else if up c = true then some st else none
def stepP (st : St) (c : Int) : Option St :=
  if st.want = 0 then (if st.items < 8 ∧ (c = 116 ∨ c = 104 ∨ up c = true) then some ⟨1, st.op, st.items + 1⟩ else none)
  else if st.want = 1 then (if c = 123 then some ⟨2, st.op, st.items⟩ else none)
  else if st.want = 3 then (if lk c = true then some ⟨2, st.op, st.items⟩ else none)
  else if st.want = 4 then (if cl c = true then some ⟨2, st.op, st.items⟩ else none)
  else bodyP st c
def faultFrom : List UInt8 → Nat → St → Option Nat
  | [], i, st => if st.want ≠ 0 ∨ st.items = 0 then some i else none
  | c :: r, i, st => match stepP st (bt c) with
    | none => some i
    | some st' => faultFrom r (i + 1) st'
def fault (l : List UInt8) : Option Nat := faultFrom l 0 ⟨0, [], 0⟩
theorem faultFrom_step (s : ByteArray) (k : Nat) (st : St) (h : k < s.size) : faultFrom (s.data.toList.drop k) k st = match stepP st ((s[k].toNat : Nat) : Int) with | none => some k | some st' => faultFrom (s.data.toList.drop (k + 1)) (k + 1) st' := by
  rw [drop_cons s k h]; rfl
theorem faultFrom_end (s : ByteArray) (k : Nat) (st : St) (h : s.size ≤ k) (hk : k ≤ s.size) : faultFrom (s.data.toList.drop k) k st = if st.want ≠ 0 ∨ st.items = 0 then some s.size else none := by
  have e : k = s.size := by omega
  rw [List.drop_of_length_le (by rw [len_str]; exact h), e]; rfl
/-- Bytes in memory. -/
def bytesV (l : List UInt8) : List Value := l.map fun c => Value.int .u8 (bt c)
theorem bytesV_len (l : List UInt8) : (bytesV l).length = l.length := by simp [bytesV]
theorem bytesV_at (l : List UInt8) (j : Nat) (h : j < l.length) : (bytesV l)[j]? = some (.int .u8 (at_ l j)) := by
  simp [bytesV, at_, bt, h]
end Wd
end Go.Proofs.Ytecmfdkhcffpmaa
/- The plain functions of the program's taking apart: parts, functions, and how they lie in memory. -/
namespace Go.Proofs.Ytecmfdkhcffpmaa
open Go.RowKit
set_option linter.unusedSimpArgs false
set_option linter.unusedVariables false
namespace Wd
def mkS (l : List UInt8) : ByteArray := ⟨l.toArray⟩
theorem mkS_list (l : List UInt8) : (mkS l).data.toList = l := rfl
theorem mkS_of (s : ByteArray) : mkS s.data.toList = s := rfl
theorem mkS_size (l : List UInt8) : (mkS l).size = l.length := by simp [mkS, ByteArray.size]
structure Part where
  letter : Int
  pos : Nat
  body : List UInt8
def partV (p : Part) : List Value := [.int .u8 p.letter, .int .i64 (p.pos : Int), .string (mkS p.body)]
def partsV (ps : List Part) : List Value := ps.flatMap partV
theorem partsV_snoc (ps : List Part) (p : Part) : partsV (ps ++ [p]) = partsV ps ++ partV p := by simp [partsV]
structure Fn where
  there : Bool
  body : List UInt8
  done : Bool
  fits : Bool
  text : List UInt8
def fn0 : Fn := ⟨false, [], false, false, []⟩
def fnV (f : Fn) : List Value := [.bool f.there, .string (mkS f.body), .bool f.done, .bool f.fits, .string (mkS f.text)]
/-- The program in memory: the slice of its parts, and eight functions of five cells. -/
def pgA (v : Value) (F : Nat → Fn) : Array Value :=
  #[v, .bool (F 0).there, .string (mkS (F 0).body), .bool (F 0).done, .bool (F 0).fits, .string (mkS (F 0).text),
    .bool (F 1).there, .string (mkS (F 1).body), .bool (F 1).done, .bool (F 1).fits, .string (mkS (F 1).text),
    .bool (F 2).there, .string (mkS (F 2).body), .bool (F 2).done, .bool (F 2).fits, .string (mkS (F 2).text),
    .bool (F 3).there, .string (mkS (F 3).body), .bool (F 3).done, .bool (F 3).fits, .string (mkS (F 3).text),
    .bool (F 4).there, .string (mkS (F 4).body), .bool (F 4).done, .bool (F 4).fits, .string (mkS (F 4).text),
    .bool (F 5).there, .string (mkS (F 5).body), .bool (F 5).done, .bool (F 5).fits, .string (mkS (F 5).text),
    .bool (F 6).there, .string (mkS (F 6).body), .bool (F 6).done, .bool (F 6).fits, .string (mkS (F 6).text),
    .bool (F 7).there, .string (mkS (F 7).body), .bool (F 7).done, .bool (F 7).fits, .string (mkS (F 7).text)]
theorem pgA_at (v : Value) (F : Nat → Fn) (i k : Nat) (hi : i < 8) (u : Value) (hk : (fnV (F i))[k]? = some u) : (pgA v F)[1 + i * 5 + k]? = some u := by
  have hk5 : k < 5 := (List.getElem?_eq_some_iff.1 hk).1
  match i, hi with
  | 0, _ | 1, _ | 2, _ | 3, _ | 4, _ | 5, _ | 6, _ | 7, _ =>
    match k, hk5 with
    | 0, _ | 1, _ | 2, _ | 3, _ | 4, _ => exact hk
theorem pgA_set (v : Value) (F : Nat → Fn) (i : Nat) (f : Fn) (hi : i < 8) :
    (((((pgA v F).setIfInBounds (1 + i * 5) (.bool f.there)).setIfInBounds (1 + i * 5 + 1) (.string (mkS f.body))).setIfInBounds (1 + i * 5 + 2) (.bool f.done)).setIfInBounds (1 + i * 5 + 3) (.bool f.fits)).setIfInBounds (1 + i * 5 + 4) (.string (mkS f.text))
      = pgA v (fun j => if j = i then f else F j) := by
  match i, hi with
  | 0, _ | 1, _ | 2, _ | 3, _ | 4, _ | 5, _ | 6, _ | 7, _ => simp [pgA]
theorem pgA_slice (v v' : Value) (F : Nat → Fn) : (pgA v F).setIfInBounds 0 v' = pgA v' F := by simp [pgA]
/-- A part is added. -/
def addF (F : Nat → Fn) (p : Part) : Nat → Fn := if up p.letter = true then (fun j => if j = (p.letter - 65).toNat then ⟨true, p.body, false, false, []⟩ else F j) else F
end Wd
end Go.Proofs.Ytecmfdkhcffpmaa
/- The plain functions of the program's taking apart: split, names, unfolding. -/
namespace Go.Proofs.Ytecmfdkhcffpmaa
open Go.RowKit
set_option linter.unusedSimpArgs false
set_option linter.unusedVariables false
namespace Wd
structure Sp where
  begin : Nat
  ps : List Part
  F : Nat → Fn
def partOf (l : List UInt8) (b i : Nat) : Part := ⟨at_ l b, b, (l.drop (b + 2)).take (i - (b + 2))⟩
def splitStep (l : List UInt8) (st : Sp) (i : Nat) : Sp := if at_ l i = 125 ∧ st.begin + 2 ≤ i then ⟨i + 1, st.ps ++ [partOf l st.begin i], addF st.F (partOf l st.begin i)⟩ else st
def splitTo (l : List UInt8) : Nat → Sp
  | 0 => ⟨0, [], fun _ => fn0⟩
  | k + 1 => splitStep l (splitTo l k) k
theorem splitTo_begin (l : List UInt8) (k : Nat) : (splitTo l k).begin ≤ k := by
  induction k with
  | zero => simp [splitTo]
  | succ k ih => simp only [splitTo, splitStep]; split <;> (try simp) <;> omega
theorem splitTo_len (l : List UInt8) (k : Nat) : (splitTo l k).ps.length ≤ k := by
  induction k with
  | zero => simp [splitTo]
  | succ k ih => simp only [splitTo, splitStep]; split <;> (try simp) <;> omega
def split (l : List UInt8) : Sp := splitTo l l.length
def unkP (F : Nat → Fn) (l : List UInt8) (i : Nat) : Bool := up (at_ l i) && !(F (at_ l i - 65).toNat).there
def unknown (F : Nat → Fn) (l : List UInt8) : Option Nat := first (unkP F l) l.length
def undoneP (F : Nat → Fn) (l : List UInt8) (i : Nat) : Bool := up (at_ l i) && !(F (at_ l i - 65).toNat).done
def allDone (F : Nat → Fn) (l : List UInt8) : Bool := (first (undoneP F l) l.length).isNone
/-- A body unfolded behind what there is, by the texts of functions; none: it does not fit. -/
def unf (F : Nat → Fn) : List UInt8 → List UInt8 → Option (List UInt8)
  | [], acc => some acc
  | c :: r, acc =>
    if up (bt c) = true then
      (if (F (bt c - 65).toNat).fits = true then
        (if 300 < (acc ++ (F (bt c - 65).toNat).text).length then none else unf F r (acc ++ (F (bt c - 65).toNat).text))
      else none)
    else (if 300 < (acc ++ [c]).length then none else unf F r (acc ++ [c]))
def unfold (F : Nat → Fn) (l : List UInt8) : Option (List UInt8) := unf F l []
theorem unkP_str (F : Nat → Fn) (s : ByteArray) (k : Nat) (h : k < s.size) : unkP F s.data.toList k = (up ((s[k].toNat : Nat) : Int) && !(F (s[k].toNat - 65)).there) := by
  rw [unkP, ← at_str s k h, show (((s[k].toNat : Nat) : Int) - 65).toNat = s[k].toNat - 65 from by omega]
theorem undoneP_str (F : Nat → Fn) (s : ByteArray) (k : Nat) (h : k < s.size) : undoneP F s.data.toList k = (up ((s[k].toNat : Nat) : Int) && !(F (s[k].toNat - 65)).done) := by
  rw [undoneP, ← at_str s k h, show (((s[k].toNat : Nat) : Int) - 65).toNat = s[k].toNat - 65 from by omega]
theorem unf_step (F : Nat → Fn) (s : ByteArray) (k : Nat) (acc : List UInt8) (h : k < s.size) : unf F (s.data.toList.drop k) acc =
    if up ((s[k].toNat : Nat) : Int) = true then
      (if (F (s[k].toNat - 65)).fits = true then
        (if 300 < (acc ++ (F (s[k].toNat - 65)).text).length then none else unf F (s.data.toList.drop (k + 1)) (acc ++ (F (s[k].toNat - 65)).text))
      else none)
    else (if 300 < (acc ++ [s[k]]).length then none else unf F (s.data.toList.drop (k + 1)) (acc ++ [s[k]])) := by
  rw [drop_cons s k h, unf, show (bt s[k] - 65).toNat = s[k].toNat - 65 from by unfold bt; omega]; rfl
theorem unf_end (F : Nat → Fn) (s : ByteArray) (k : Nat) (acc : List UInt8) (h : s.size ≤ k) : unf F (s.data.toList.drop k) acc = some acc := by
  rw [List.drop_of_length_le (by rw [len_str]; exact h)]; rfl
end Wd
end Go.Proofs.Ytecmfdkhcffpmaa
