/- PureP0, MacA. -/
import Derived.Test.YtecmfdkhcffpmaaB07
import Derived.Test.YtecmfdkhcffpmaaB09
import Derived.Test.YtecmfdkhcffpmaaRows
import Derived.WalkKit
import Derived.WalkSpells
import Derived.WalkLawsBesides
import Derived.Test.YtecmfdkhcffpmaaB06
/- Plain: the program's words for what goes wrong with an item by itself. -/
namespace Go.Proofs.Ytecmfdkhcffpmaa
open Go.RowKit
set_option linter.unusedSimpArgs false
set_option linter.unusedVariables false
open Mc
def hasB (h : Nat) (l : Int) : Bool := decide (0 ≤ l) && decide (l < 6) && holds h l.toNat
/-- The number of the lock or cell that the program reads at a place. -/
def numP (b : List UInt8) (p : Nat) : Int := if atB b p = 43 ∨ atB b p = 45 ∨ atB b p = 114 ∨ atB b p = 119 then num b p else -1
/-- What goes wrong, in the program's words. -/
def faultP (hd : Bool) (b : List UInt8) (p h : Nat) (off : Bool) : Int :=
  if atB b p = 43 then (if hasB h (numP b p) = true then 68 else 0)
  else if atB b p = 45 then (if hasB h (numP b p) = true then 0 else 85)
  else if atB b p = 122 then (if hd = true ∨ off = true ∨ (h == 0) = false then 83 else 0)
  else if atB b p = 60 ∨ atB b p = 62 then (if hd = true then 73 else 0)
  else if atB b p = 101 then (if (h == 0) = false ∨ (off = true ∧ hd = false) then 69 else 0)
  else 0
theorem numP_bd {b : List UInt8} (hok : PairOK b) (p : Nat) : -1 ≤ numP b p ∧ numP b p ≤ 5 := by
  unfold numP
  split
  · rename_i hc
    have hp : p < b.length := atB_lt (by rcases hc with e | e | e | e <;> rw [e] <;> decide)
    simp only [atB, hp, if_true] at hc
    have hk := hok p hp
    rcases hc with e | e | e | e
    · have := hk.1 (Or.inl e); rw [num, if_pos this.1]; split <;> omega
    · have := hk.1 (Or.inr e); rw [num, if_pos this.1]; split <;> omega
    · have := hk.2 (Or.inl e); rw [num, if_pos this.1]; split <;> omega
    · have := hk.2 (Or.inr e); rw [num, if_pos this.1]; split <;> omega
  · omega

end Go.Proofs.Ytecmfdkhcffpmaa
/- Contracts of the document's machine: places in a body, locks in a number. -/
namespace Go.Proofs.Ytecmfdkhcffpmaa
open Go.RowKit
set_option linter.unusedSimpArgs false
set_option linter.unusedVariables false
set_option maxHeartbeats 800000

theorem dp_40 : Mc.dp 40 = 1 := by decide
theorem dp_91 : Mc.dp 91 = 1 := by decide
theorem dp_41 : Mc.dp 41 = -1 := by decide
theorem dp_93 : Mc.dp 93 = -1 := by decide
theorem dp_no {c : Int} (h1 : (c == 40) = false) (h2 : (c == 91) = false) (h3 : (c == 41) = false) (h4 : (c == 93) = false) : Mc.dp c = 0 := by
  simp at h1 h2 h3 h4
  simp [Mc.dp, h1, h2, h3, h4]

theorem ahead_any (s : ByteArray) (q : Nat) (c : Int) (w : World) (hs : s.size ≤ 10000) (hq : q < s.size) (h0 : 0 ≤ c) (h1 : c ≤ 255) :
    Calls Try.prog 165 #[.string s, .int .i64 q, .int .u8 c] w fun e w' => e = .returned (.int .i64 ((Mc.ahead s.data.toList q c : Nat) : Int)) ∧ w' = w := by
  go_enter Try.func165, Try.ntmps165
  go_wp2
  go_loop [7, 8] (fun a b => ∃ (k : Nat) (d : Int), q + 1 ≤ k ∧ k ≤ s.size ∧ a = .int .i64 d ∧ b = .int .i64 k ∧ -10000 ≤ d + k ∧ d ≤ k ∧ Mc.ahead s.data.toList q c = Mc.aheadL c (s.data.toList.drop k) d k) (fun _ b => s.size - (intOf b).toNat)
  case atStart => exact ⟨q + 1, 0, by omega, by omega, rfl, by go_num, by omega, by omega, rfl⟩
  case round =>
    obtain ⟨k, d, hk0, hk, rfl, rfl, hd0, hd1, hp⟩ := hrel
    have HP := hide hp
    clear hp
    by_cases hlt : k < s.size
    · have HS := hide (Mc.aheadL_step c s k d hlt)
      by_cases hz : d = 0
      · cases hc : (((s[k].toNat : Nat) : Int) == c)
        · have z1 : (d == 0) = true := by rw [hz]; rfl
          have HN : Hid (Mc.aheadL c (s.data.toList.drop k) d k = Mc.aheadL c (s.data.toList.drop (k + 1)) (d + Mc.dp ((s[k].toNat : Nat) : Int)) (k + 1)) := by
            apply hide; rw [HS.out, if_neg]; rintro ⟨_, e⟩; simp [e] at hc
          clear hz
          by_cases e40 : ((s[k].toNat : Nat) : Int) = 40
          · have t1 : (((s[k].toNat : Nat) : Int) == 40) = true := by rw [e40]; rfl
            have t2 : (((s[k].toNat : Nat) : Int) == 91) = false := by rw [e40]; rfl
            have t3 : (((s[k].toNat : Nat) : Int) == 41) = false := by rw [e40]; rfl
            have t4 : (((s[k].toNat : Nat) : Int) == 93) = false := by rw [e40]; rfl
            have HD : Hid (Mc.dp ((s[k].toNat : Nat) : Int) = 1) := by rw [e40]; exact dp_40
            clear e40
            go_wp2
            go_round
            case rel => exact ⟨k + 1, d + 1, by omega, by omega, rfl, by go_num, by omega, by omega, by rw [HP.out, HN.out, HD.out] <;> (try congr 1) <;> (try omega)⟩
            case measure => simp [intOf] <;> omega
          by_cases e91 : ((s[k].toNat : Nat) : Int) = 91
          · have t1 : (((s[k].toNat : Nat) : Int) == 40) = false := by rw [e91]; rfl
            have t2 : (((s[k].toNat : Nat) : Int) == 91) = true := by rw [e91]; rfl
            have t3 : (((s[k].toNat : Nat) : Int) == 41) = false := by rw [e91]; rfl
            have t4 : (((s[k].toNat : Nat) : Int) == 93) = false := by rw [e91]; rfl
            have HD : Hid (Mc.dp ((s[k].toNat : Nat) : Int) = 1) := by rw [e91]; exact dp_91
            clear e91 e40
            go_wp2
            go_round
            case rel => exact ⟨k + 1, d + 1, by omega, by omega, rfl, by go_num, by omega, by omega, by rw [HP.out, HN.out, HD.out] <;> (try congr 1) <;> (try omega)⟩
            case measure => simp [intOf] <;> omega
          by_cases e41 : ((s[k].toNat : Nat) : Int) = 41
          · have t1 : (((s[k].toNat : Nat) : Int) == 40) = false := by rw [e41]; rfl
            have t2 : (((s[k].toNat : Nat) : Int) == 91) = false := by rw [e41]; rfl
            have t3 : (((s[k].toNat : Nat) : Int) == 41) = true := by rw [e41]; rfl
            have t4 : (((s[k].toNat : Nat) : Int) == 93) = false := by rw [e41]; rfl
            have HD : Hid (Mc.dp ((s[k].toNat : Nat) : Int) = -1) := by rw [e41]; exact dp_41
            clear e41 e91 e40
            go_wp2
            go_round
            case rel => exact ⟨k + 1, d - 1, by omega, by omega, rfl, by go_num, by omega, by omega, by rw [HP.out, HN.out, HD.out] <;> (try congr 1) <;> (try omega)⟩
            case measure => simp [intOf] <;> omega
          by_cases e93 : ((s[k].toNat : Nat) : Int) = 93
          · have t1 : (((s[k].toNat : Nat) : Int) == 40) = false := by rw [e93]; rfl
            have t2 : (((s[k].toNat : Nat) : Int) == 91) = false := by rw [e93]; rfl
            have t3 : (((s[k].toNat : Nat) : Int) == 41) = false := by rw [e93]; rfl
            have t4 : (((s[k].toNat : Nat) : Int) == 93) = true := by rw [e93]; rfl
            have HD : Hid (Mc.dp ((s[k].toNat : Nat) : Int) = -1) := by rw [e93]; exact dp_93
            clear e93 e41 e91 e40
            go_wp2
            go_round
            case rel => exact ⟨k + 1, d - 1, by omega, by omega, rfl, by go_num, by omega, by omega, by rw [HP.out, HN.out, HD.out] <;> (try congr 1) <;> (try omega)⟩
            case measure => simp [intOf] <;> omega
          have t1 : (((s[k].toNat : Nat) : Int) == 40) = false := beq_eq_false_iff_ne.2 e40
          have t2 : (((s[k].toNat : Nat) : Int) == 91) = false := beq_eq_false_iff_ne.2 e91
          have t3 : (((s[k].toNat : Nat) : Int) == 41) = false := beq_eq_false_iff_ne.2 e41
          have t4 : (((s[k].toNat : Nat) : Int) == 93) = false := beq_eq_false_iff_ne.2 e93
          have HD : Hid (Mc.dp ((s[k].toNat : Nat) : Int) = 0) := dp_no t1 t2 t3 t4
          clear e40 e91 e41 e93
          go_wp2
          go_round
          case rel => exact ⟨k + 1, d, by omega, by omega, rfl, by go_num, by omega, by omega, by rw [HP.out, HN.out, HD.out] <;> (try congr 1) <;> (try omega)⟩
          case measure => simp [intOf] <;> omega
        · have z1 : (d == 0) = true := by rw [hz]; rfl
          have HN : Hid (Mc.aheadL c (s.data.toList.drop k) d k = k) := by
            apply hide; rw [HS.out, if_pos ⟨hz, by simpa using hc⟩]
          clear hz
          go_wp2
          go_ret
          exact ⟨ret_int (by rw [HP.out, HN.out]), rfl⟩
      · have z1 : (d == 0) = false := beq_eq_false_iff_ne.2 hz
        have HN : Hid (Mc.aheadL c (s.data.toList.drop k) d k = Mc.aheadL c (s.data.toList.drop (k + 1)) (d + Mc.dp ((s[k].toNat : Nat) : Int)) (k + 1)) := by
          apply hide; rw [HS.out, if_neg]; rintro ⟨e, _⟩; exact hz e
        clear hz
        by_cases e40 : ((s[k].toNat : Nat) : Int) = 40
        · have t1 : (((s[k].toNat : Nat) : Int) == 40) = true := by rw [e40]; rfl
          have t2 : (((s[k].toNat : Nat) : Int) == 91) = false := by rw [e40]; rfl
          have t3 : (((s[k].toNat : Nat) : Int) == 41) = false := by rw [e40]; rfl
          have t4 : (((s[k].toNat : Nat) : Int) == 93) = false := by rw [e40]; rfl
          have HD : Hid (Mc.dp ((s[k].toNat : Nat) : Int) = 1) := by rw [e40]; exact dp_40
          clear e40
          go_wp2
          go_round
          case rel => exact ⟨k + 1, d + 1, by omega, by omega, rfl, by go_num, by omega, by omega, by rw [HP.out, HN.out, HD.out] <;> (try congr 1) <;> (try omega)⟩
          case measure => simp [intOf] <;> omega
        by_cases e91 : ((s[k].toNat : Nat) : Int) = 91
        · have t1 : (((s[k].toNat : Nat) : Int) == 40) = false := by rw [e91]; rfl
          have t2 : (((s[k].toNat : Nat) : Int) == 91) = true := by rw [e91]; rfl
          have t3 : (((s[k].toNat : Nat) : Int) == 41) = false := by rw [e91]; rfl
          have t4 : (((s[k].toNat : Nat) : Int) == 93) = false := by rw [e91]; rfl
          have HD : Hid (Mc.dp ((s[k].toNat : Nat) : Int) = 1) := by rw [e91]; exact dp_91
          clear e91 e40
          go_wp2
          go_round
          case rel => exact ⟨k + 1, d + 1, by omega, by omega, rfl, by go_num, by omega, by omega, by rw [HP.out, HN.out, HD.out] <;> (try congr 1) <;> (try omega)⟩
          case measure => simp [intOf] <;> omega
        by_cases e41 : ((s[k].toNat : Nat) : Int) = 41
        · have t1 : (((s[k].toNat : Nat) : Int) == 40) = false := by rw [e41]; rfl
          have t2 : (((s[k].toNat : Nat) : Int) == 91) = false := by rw [e41]; rfl
          have t3 : (((s[k].toNat : Nat) : Int) == 41) = true := by rw [e41]; rfl
          have t4 : (((s[k].toNat : Nat) : Int) == 93) = false := by rw [e41]; rfl
          have HD : Hid (Mc.dp ((s[k].toNat : Nat) : Int) = -1) := by rw [e41]; exact dp_41
          clear e41 e91 e40
          go_wp2
          go_round
          case rel => exact ⟨k + 1, d - 1, by omega, by omega, rfl, by go_num, by omega, by omega, by rw [HP.out, HN.out, HD.out] <;> (try congr 1) <;> (try omega)⟩
          case measure => simp [intOf] <;> omega
        by_cases e93 : ((s[k].toNat : Nat) : Int) = 93
        · have t1 : (((s[k].toNat : Nat) : Int) == 40) = false := by rw [e93]; rfl
          have t2 : (((s[k].toNat : Nat) : Int) == 91) = false := by rw [e93]; rfl
          have t3 : (((s[k].toNat : Nat) : Int) == 41) = false := by rw [e93]; rfl
          have t4 : (((s[k].toNat : Nat) : Int) == 93) = true := by rw [e93]; rfl
          have HD : Hid (Mc.dp ((s[k].toNat : Nat) : Int) = -1) := by rw [e93]; exact dp_93
          clear e93 e41 e91 e40
          go_wp2
          go_round
          case rel => exact ⟨k + 1, d - 1, by omega, by omega, rfl, by go_num, by omega, by omega, by rw [HP.out, HN.out, HD.out] <;> (try congr 1) <;> (try omega)⟩
          case measure => simp [intOf] <;> omega
        have t1 : (((s[k].toNat : Nat) : Int) == 40) = false := beq_eq_false_iff_ne.2 e40
        have t2 : (((s[k].toNat : Nat) : Int) == 91) = false := beq_eq_false_iff_ne.2 e91
        have t3 : (((s[k].toNat : Nat) : Int) == 41) = false := beq_eq_false_iff_ne.2 e41
        have t4 : (((s[k].toNat : Nat) : Int) == 93) = false := beq_eq_false_iff_ne.2 e93
        have HD : Hid (Mc.dp ((s[k].toNat : Nat) : Int) = 0) := dp_no t1 t2 t3 t4
        clear e40 e91 e41 e93
        go_wp2
        go_round
        case rel => exact ⟨k + 1, d, by omega, by omega, rfl, by go_num, by omega, by omega, by rw [HP.out, HN.out, HD.out] <;> (try congr 1) <;> (try omega)⟩
        case measure => simp [intOf] <;> omega
    · go_wp2
      go_ret
      exact ⟨ret_int (by rw [HP.out, Mc.aheadL_end c s k d (by omega)]; omega), rfl⟩

theorem back_any (s : ByteArray) (q : Nat) (w : World) (hs : s.size ≤ 10000) (hq : q ≤ s.size) :
    Calls Try.prog 166 #[.string s, .int .i64 q] w fun e w' => e = .returned (.int .i64 ((Mc.back s.data.toList q : Nat) : Int)) ∧ w' = w := by
  go_enter Try.func166, Try.ntmps166
  go_wp2
  go_loop [5, 6] (fun a b => ∃ (m : Nat) (d : Int), m ≤ q ∧ a = .int .i64 d ∧ b = .int .i64 ((m : Int) - 1) ∧ -10000 + m ≤ d + q ∧ d + m ≤ q ∧ Mc.back s.data.toList q = Mc.backN s.data.toList m d) (fun _ b => (intOf b + 1).toNat)
  case atStart => exact ⟨q, 0, by omega, rfl, rfl, by omega, by omega, rfl⟩
  case round =>
    obtain ⟨m, d, hm, rfl, rfl, hd0, hd1, hp⟩ := hrel
    have HP := hide hp
    clear hp
    cases m with
    | zero =>
      go_wp2
      go_ret
      exact ⟨ret_int (by rw [HP.out]; rfl), rfl⟩
    | succ k =>
      have hlt : k < s.size := by omega
      have HB := hide (Wd.at_str s k hlt)
      have ek : (((k + 1 : Nat) : Int) - 1) = (k : Int) := by omega
      rw [ek]
      clear ek
      by_cases hz : d = 0
      · cases hc : (((s[k].toNat : Nat) : Int) == 91)
        · have z1 : (d == 0) = true := by rw [hz]; rfl
          have HN : Hid (Mc.backN s.data.toList (k + 1) d = Mc.backN s.data.toList k (d - Mc.dp ((s[k].toNat : Nat) : Int))) := by
            apply hide; rw [Mc.backN, ← HB.out, if_neg]; rintro ⟨_, e⟩; simp [e] at hc
          clear hz
          have t2' := hc
          by_cases e40 : ((s[k].toNat : Nat) : Int) = 40
          · have t1 : (((s[k].toNat : Nat) : Int) == 40) = true := by rw [e40]; rfl
            have t2 : (((s[k].toNat : Nat) : Int) == 91) = false := by rw [e40]; rfl
            have t3 : (((s[k].toNat : Nat) : Int) == 41) = false := by rw [e40]; rfl
            have t4 : (((s[k].toNat : Nat) : Int) == 93) = false := by rw [e40]; rfl
            have HD : Hid (Mc.dp ((s[k].toNat : Nat) : Int) = 1) := by rw [e40]; exact dp_40
            clear e40
            go_wp2
            go_round
            case rel => exact ⟨k, d - 1, by omega, rfl, by go_num, by omega, by omega, by rw [HP.out, HN.out, HD.out] <;> (try congr 1) <;> (try omega)⟩
            case measure => simp [intOf] <;> omega
          by_cases e91 : ((s[k].toNat : Nat) : Int) = 91
          · exfalso; rw [e91] at hc; cases hc
          by_cases e41 : ((s[k].toNat : Nat) : Int) = 41
          · have t1 : (((s[k].toNat : Nat) : Int) == 40) = false := by rw [e41]; rfl
            have t2 : (((s[k].toNat : Nat) : Int) == 91) = false := by rw [e41]; rfl
            have t3 : (((s[k].toNat : Nat) : Int) == 41) = true := by rw [e41]; rfl
            have t4 : (((s[k].toNat : Nat) : Int) == 93) = false := by rw [e41]; rfl
            have HD : Hid (Mc.dp ((s[k].toNat : Nat) : Int) = -1) := by rw [e41]; exact dp_41
            clear e41 e91 e40
            go_wp2
            go_round
            case rel => exact ⟨k, d + 1, by omega, rfl, by go_num, by omega, by omega, by rw [HP.out, HN.out, HD.out] <;> (try congr 1) <;> (try omega)⟩
            case measure => simp [intOf] <;> omega
          by_cases e93 : ((s[k].toNat : Nat) : Int) = 93
          · have t1 : (((s[k].toNat : Nat) : Int) == 40) = false := by rw [e93]; rfl
            have t2 : (((s[k].toNat : Nat) : Int) == 91) = false := by rw [e93]; rfl
            have t3 : (((s[k].toNat : Nat) : Int) == 41) = false := by rw [e93]; rfl
            have t4 : (((s[k].toNat : Nat) : Int) == 93) = true := by rw [e93]; rfl
            have HD : Hid (Mc.dp ((s[k].toNat : Nat) : Int) = -1) := by rw [e93]; exact dp_93
            clear e93 e41 e91 e40
            go_wp2
            go_round
            case rel => exact ⟨k, d + 1, by omega, rfl, by go_num, by omega, by omega, by rw [HP.out, HN.out, HD.out] <;> (try congr 1) <;> (try omega)⟩
            case measure => simp [intOf] <;> omega
          have t1 : (((s[k].toNat : Nat) : Int) == 40) = false := beq_eq_false_iff_ne.2 e40
          have t2 : (((s[k].toNat : Nat) : Int) == 91) = false := beq_eq_false_iff_ne.2 e91
          have t3 : (((s[k].toNat : Nat) : Int) == 41) = false := beq_eq_false_iff_ne.2 e41
          have t4 : (((s[k].toNat : Nat) : Int) == 93) = false := beq_eq_false_iff_ne.2 e93
          have HD : Hid (Mc.dp ((s[k].toNat : Nat) : Int) = 0) := dp_no t1 t2 t3 t4
          clear e40 e91 e41 e93
          go_wp2
          go_round
          case rel => exact ⟨k, d, by omega, rfl, by go_num, by omega, by omega, by rw [HP.out, HN.out, HD.out] <;> (try congr 1) <;> (try omega)⟩
          case measure => simp [intOf] <;> omega
        · have z1 : (d == 0) = true := by rw [hz]; rfl
          have HN : Hid (Mc.backN s.data.toList (k + 1) d = k) := by
            apply hide; rw [Mc.backN, ← HB.out, if_pos ⟨hz, by simpa using hc⟩]
          clear hz
          go_wp2
          go_ret
          exact ⟨ret_int (by rw [HP.out, HN.out]), rfl⟩
      · have z1 : (d == 0) = false := beq_eq_false_iff_ne.2 hz
        have HN : Hid (Mc.backN s.data.toList (k + 1) d = Mc.backN s.data.toList k (d - Mc.dp ((s[k].toNat : Nat) : Int))) := by
          apply hide; rw [Mc.backN, ← HB.out, if_neg]; rintro ⟨e, _⟩; exact hz e
        clear hz
        by_cases e40 : ((s[k].toNat : Nat) : Int) = 40
        · have t1 : (((s[k].toNat : Nat) : Int) == 40) = true := by rw [e40]; rfl
          have t2 : (((s[k].toNat : Nat) : Int) == 91) = false := by rw [e40]; rfl
          have t3 : (((s[k].toNat : Nat) : Int) == 41) = false := by rw [e40]; rfl
          have t4 : (((s[k].toNat : Nat) : Int) == 93) = false := by rw [e40]; rfl
          have HD : Hid (Mc.dp ((s[k].toNat : Nat) : Int) = 1) := by rw [e40]; exact dp_40
          clear e40
          go_wp2
          go_round
          case rel => exact ⟨k, d - 1, by omega, rfl, by go_num, by omega, by omega, by rw [HP.out, HN.out, HD.out] <;> (try congr 1) <;> (try omega)⟩
          case measure => simp [intOf] <;> omega
        by_cases e91 : ((s[k].toNat : Nat) : Int) = 91
        · have t1 : (((s[k].toNat : Nat) : Int) == 40) = false := by rw [e91]; rfl
          have t2 : (((s[k].toNat : Nat) : Int) == 91) = true := by rw [e91]; rfl
          have t3 : (((s[k].toNat : Nat) : Int) == 41) = false := by rw [e91]; rfl
          have t4 : (((s[k].toNat : Nat) : Int) == 93) = false := by rw [e91]; rfl
          have HD : Hid (Mc.dp ((s[k].toNat : Nat) : Int) = 1) := by rw [e91]; exact dp_91
          clear e91 e40
          go_wp2
          go_round
          case rel => exact ⟨k, d - 1, by omega, rfl, by go_num, by omega, by omega, by rw [HP.out, HN.out, HD.out] <;> (try congr 1) <;> (try omega)⟩
          case measure => simp [intOf] <;> omega
        by_cases e41 : ((s[k].toNat : Nat) : Int) = 41
        · have t1 : (((s[k].toNat : Nat) : Int) == 40) = false := by rw [e41]; rfl
          have t2 : (((s[k].toNat : Nat) : Int) == 91) = false := by rw [e41]; rfl
          have t3 : (((s[k].toNat : Nat) : Int) == 41) = true := by rw [e41]; rfl
          have t4 : (((s[k].toNat : Nat) : Int) == 93) = false := by rw [e41]; rfl
          have HD : Hid (Mc.dp ((s[k].toNat : Nat) : Int) = -1) := by rw [e41]; exact dp_41
          clear e41 e91 e40
          go_wp2
          go_round
          case rel => exact ⟨k, d + 1, by omega, rfl, by go_num, by omega, by omega, by rw [HP.out, HN.out, HD.out] <;> (try congr 1) <;> (try omega)⟩
          case measure => simp [intOf] <;> omega
        by_cases e93 : ((s[k].toNat : Nat) : Int) = 93
        · have t1 : (((s[k].toNat : Nat) : Int) == 40) = false := by rw [e93]; rfl
          have t2 : (((s[k].toNat : Nat) : Int) == 91) = false := by rw [e93]; rfl
          have t3 : (((s[k].toNat : Nat) : Int) == 41) = false := by rw [e93]; rfl
          have t4 : (((s[k].toNat : Nat) : Int) == 93) = true := by rw [e93]; rfl
          have HD : Hid (Mc.dp ((s[k].toNat : Nat) : Int) = -1) := by rw [e93]; exact dp_93
          clear e93 e41 e91 e40
          go_wp2
          go_round
          case rel => exact ⟨k, d + 1, by omega, rfl, by go_num, by omega, by omega, by rw [HP.out, HN.out, HD.out] <;> (try congr 1) <;> (try omega)⟩
          case measure => simp [intOf] <;> omega
        have t1 : (((s[k].toNat : Nat) : Int) == 40) = false := beq_eq_false_iff_ne.2 e40
        have t2 : (((s[k].toNat : Nat) : Int) == 91) = false := beq_eq_false_iff_ne.2 e91
        have t3 : (((s[k].toNat : Nat) : Int) == 41) = false := beq_eq_false_iff_ne.2 e41
        have t4 : (((s[k].toNat : Nat) : Int) == 93) = false := beq_eq_false_iff_ne.2 e93
        have HD : Hid (Mc.dp ((s[k].toNat : Nat) : Int) = 0) := dp_no t1 t2 t3 t4
        clear e40 e91 e41 e93
        go_wp2
        go_round
        case rel => exact ⟨k, d, by omega, rfl, by go_num, by omega, by omega, by rw [HP.out, HN.out, HD.out] <;> (try congr 1) <;> (try omega)⟩
        case measure => simp [intOf] <;> omega

end Go.Proofs.Ytecmfdkhcffpmaa
