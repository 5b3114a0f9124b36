/- Pure, PureM1, MacA. -/
import Derived.Below
import Derived.Test.YtecmfdkhcffpmaaRows
import Derived.WalkKit
import Derived.WalkSpells
import Derived.WalkLawsBesides
/- The plain functions: what the program's and the document's functions compute, over integers and lists of bytes. Nothing of the translation is imported. -/
namespace Go.Proofs.Ytecmfdkhcffpmaa
open Go.RowKit
theorem hide {p : Prop} (h : p) : Hid p := h
theorem ret_int {k : IntKind} {a b : Int} (h : a = b) : Ending.returned (.int k a) = .returned (.int k b) := by rw [h]
namespace Wd
def up (n : Int) : Bool := decide (65 ≤ n ∧ n ≤ 72)
def lk (n : Int) : Bool := decide (97 ≤ n ∧ n ≤ 102)
def cl (n : Int) : Bool := decide (48 ≤ n ∧ n ≤ 51)
/-- The byte at a place, as a number; behind the end 0. -/
def at_ (l : List UInt8) (i : Nat) : Int := ((l[i]?.getD 0).toNat : Int)
theorem at_lo (l : List UInt8) (i : Nat) : 0 ≤ at_ l i := by unfold at_; omega
theorem at_hi (l : List UInt8) (i : Nat) : at_ l i ≤ 255 := by
  unfold at_; have := (l[i]?.getD 0).toNat_lt; omega
theorem at_str (s : ByteArray) (i : Nat) (h : i < s.size) : ((s[i].toNat : Nat) : Int) = at_ s.data.toList i := by
  have h' : i < s.data.size := h
  unfold at_
  rw [Array.getElem?_toList, Array.getElem?_eq_getElem h']
  rfl
theorem len_str (s : ByteArray) : s.data.toList.length = s.size := Array.length_toList
def heads (l : List UInt8) (i : Nat) : Bool := decide (i + 1 < l.length) && (at_ l (i + 1) == 123)
/-- The first place below n at which p answers yes. -/
def first (p : Nat → Bool) (n : Nat) : Option Nat := (List.range n).find? p
def toInt : Option Nat → Int
  | some i => (i : Int)
  | none => -1
theorem first_yes {p : Nat → Bool} {n k : Nat} (hk : k < n) (hp : p k = true) (hb : ∀ j, j < k → p j = false) : first p n = some k := by
  unfold first
  rw [List.find?_range_eq_some]
  exact ⟨hp, by simpa using hk, fun j hj => by simp [hb j hj]⟩
theorem first_no {p : Nat → Bool} {n : Nat} (hb : ∀ j, j < n → p j = false) : first p n = none := by
  unfold first
  rw [List.find?_range_eq_none]
  exact fun j hj => by simp [hb j hj]
def headP (l : List UInt8) (c : Int) (i : Nat) : Bool := heads l i && (at_ l i == c)
def head (l : List UInt8) (c : Int) : Option Nat := first (headP l c) l.length
def body (l : List UInt8) (i : Nat) : List UInt8 := (l.drop (i + 2)).takeWhile (fun c => !(((c.toNat : Nat) : Int) == 125))
theorem takeWhile_len {α : Type} (p : α → Bool) (l : List α) (n : Nat) (hn : n ≤ l.length) (h1 : ∀ j (hj : j < n), p (l[j]'(by omega)) = true) (h2 : ∀ hj : n < l.length, p l[n] = false) : l.takeWhile p = l.take n := by
  induction l generalizing n with
  | nil => simp at hn; subst hn; rfl
  | cons a t ih =>
    cases n with
    | zero =>
      have := h2 (by simp)
      simp at this
      simp [List.takeWhile, this]
    | succ n =>
      have h0 := h1 0 (by omega)
      simp at h0
      simp only [List.takeWhile, h0, List.take_succ_cons]
      rw [ih n (by simpa using hn) (fun j hj => by have := h1 (j + 1) (by omega); simpa using this) (fun hj => by have := h2 (by simpa using hj); simpa using this)]
theorem body_eq (l : List UInt8) (i k : Nat) (hk : i + 2 ≤ k) (hkl : k ≤ l.length) (h1 : ∀ j, i + 2 ≤ j → j < k → ¬ at_ l j = 125) (h2 : k < l.length → at_ l k = 125) : body l i = (l.drop (i + 2)).take (k - (i + 2)) := by
  unfold body
  refine takeWhile_len _ _ _ ?_ ?_ ?_
  · simp; omega
  · intro j hj
    have := h1 (i + 2 + j) (by omega) (by omega)
    unfold at_ at this
    rw [List.getElem?_eq_getElem (by omega), Option.getD_some] at this
    rw [List.getElem_drop]
    simpa using this
  · intro hj
    have hj' : k < l.length := by simp at hj; omega
    have := h2 hj'
    unfold at_ at this
    rw [List.getElem?_eq_getElem hj', Option.getD_some] at this
    rw [List.getElem_drop]
    have e : i + 2 + (k - (i + 2)) = k := by omega
    simp only [e]
    simpa using this
def misP (l : List UInt8) (i : Nat) : Bool :=
  up (at_ l i) && (decide (toInt (head l (at_ l i)) < 0) || (heads l i && decide (toInt (head l (at_ l i)) < (i : Int))))
def misnamed (l : List UInt8) : Option Nat := first (misP l) l.length
theorem extract_str (s : ByteArray) (a b : Nat) : (s.extract a b).data.toList = (s.data.toList.drop a).take (b - a) := by
  rw [ByteArray.data_extract, Array.toList_extract, List.extract_eq_take_drop]
/-- What is open, innermost last, and a byte in a body: what is to come, what is open then; none: it can't stand there. -/
def lastIs (o : List UInt8) (c : Int) : Bool := at_ o (o.length - 1) == c
def opened (c : Int) (o : List UInt8) : Option (Int × List UInt8) :=
  if c = 43 ∨ c = 45 then some (3, o)
  else if c = 114 ∨ c = 119 then some (4, o)
  else if c = 60 ∨ c = 62 ∨ c = 122 ∨ up c = true then some (2, o)
  else if c = 40 then some (2, o ++ [40])
  else if c = 91 then some (2, o ++ [91])
  else if c = 124 ∧ lastIs o 40 = true then some (2, o.take (o.length - 1) ++ [124])
  else if c = 41 ∧ lastIs o 124 = true then some (2, o.take (o.length - 1))
  else if c = 93 ∧ lastIs o 91 = true then some (2, o.take (o.length - 1))
  else if c = 125 ∧ lastIs o 123 = true then some (0, [])
  else none
def openedW (c : Int) (o : List UInt8) : Int := match opened c o with | some x => x.1 | none => 0
def openedO (c : Int) (o : List UInt8) : List UInt8 := match opened c o with | some x => x.2 | none => []
def openedB (c : Int) (o : List UInt8) : Bool := (opened c o).isSome
/-- A reader of the form: what is to come (0 an item, 1 a brace, 2 in a body, 3 a lock, 4 a cell), what is open, how many items have begun. -/
structure St where
  want : Int
  op : List UInt8
  items : Nat
def St.ok (st : St) (k : Nat) : Prop := st.items ≤ 8 ∧ st.op.length ≤ k + 1 ∧ (st.want = 0 ∨ st.want = 1 ∨ ((st.want = 2 ∨ st.want = 3 ∨ st.want = 4) ∧ ∃ r, st.op = 123 :: r))
def stepR (st : St) (c : Int) : Option St :=
  if st.want = 0 then (if st.items < 8 ∧ (c = 116 ∨ c = 104 ∨ up c = true) then some ⟨1, st.op, st.items + 1⟩ else none)
  else if st.want = 1 then (if c = 123 then some ⟨2, [123], st.items⟩ else none)
  else if st.want = 3 then (if lk c = true then some ⟨2, st.op, st.items⟩ else none)
  else if st.want = 4 then (if cl c = true then some ⟨2, st.op, st.items⟩ else none)
  else (match opened c st.op with | some x => some ⟨x.1, x.2, st.items⟩ | none => none)
def bt (c : UInt8) : Int := ((c.toNat : Nat) : Int)
/-- Of the rest of a text, from the place i and the state on: the first byte that can't stand there, or the end. -/
def placeFrom : List UInt8 → Nat → St → Option Nat
  | [], i, st => if st.want ≠ 0 ∨ st.items = 0 then some i else none
  | c :: r, i, st => match stepR st (bt c) with
    | none => some i
    | some st' => placeFrom r (i + 1) st'
def place (l : List UInt8) : Option Nat := placeFrom l 0 ⟨0, [], 0⟩
theorem drop_cons (s : ByteArray) (k : Nat) (h : k < s.size) : s.data.toList.drop k = s[k] :: s.data.toList.drop (k + 1) := by
  have h' : k < s.data.toList.length := by rw [len_str]; exact h
  rw [List.drop_eq_getElem_cons h']
  rfl
theorem placeFrom_step (s : ByteArray) (k : Nat) (st : St) (h : k < s.size) : placeFrom (s.data.toList.drop k) k st = match stepR st ((s[k].toNat : Nat) : Int) with | none => some k | some st' => placeFrom (s.data.toList.drop (k + 1)) (k + 1) st' := by
  rw [drop_cons s k h]; rfl
theorem placeFrom_end (s : ByteArray) (k : Nat) (st : St) (h : s.size ≤ k) (hk : k ≤ s.size) : placeFrom (s.data.toList.drop k) k st = if st.want ≠ 0 ∨ st.items = 0 then some s.size else none := by
  have e : k = s.size := by omega
  rw [List.drop_of_length_le (by rw [len_str]; exact h), e]; rfl
theorem last_cons {r : List UInt8} {c : Int} (h : lastIs (123 :: r) c = true) (hc : c ≠ 123) : ∃ a q, r = a :: q := by
  cases r with
  | nil => exfalso; simp [lastIs, at_] at h; exact hc h.symm
  | cons a q => exact ⟨a, q, rfl⟩
theorem opened_ok {c : Int} {o : List UInt8} {x : Int × List UInt8} {k n : Nat} (h : opened c o = some x) (ho : o.length ≤ k + 1) (hp : ∃ r, o = 123 :: r) (hn : n ≤ 8) : (⟨x.1, x.2, n⟩ : St).ok (k + 1) := by
  obtain ⟨r, rfl⟩ := hp
  unfold opened at h
  by_cases b1 : c = 43 ∨ c = 45
  · rw [if_pos b1] at h; cases h; exact ⟨hn, by simp at ho ⊢; omega, by simp⟩
  rw [if_neg b1] at h
  by_cases b2 : c = 114 ∨ c = 119
  · rw [if_pos b2] at h; cases h; exact ⟨hn, by simp at ho ⊢; omega, by simp⟩
  rw [if_neg b2] at h
  by_cases b3 : c = 60 ∨ c = 62 ∨ c = 122 ∨ up c = true
  · rw [if_pos b3] at h; cases h; exact ⟨hn, by simp at ho ⊢; omega, by simp⟩
  rw [if_neg b3] at h
  by_cases b4 : c = 40
  · rw [if_pos b4] at h; cases h; exact ⟨hn, by simp at ho ⊢; omega, by simp⟩
  rw [if_neg b4] at h
  by_cases b5 : c = 91
  · rw [if_pos b5] at h; cases h; exact ⟨hn, by simp at ho ⊢; omega, by simp⟩
  rw [if_neg b5] at h
  by_cases b6 : c = 124 ∧ lastIs (123 :: r) 40 = true
  · obtain ⟨a, q, rfl⟩ := last_cons b6.2 (by decide)
    rw [if_pos b6] at h; cases h; exact ⟨hn, by simp at ho ⊢; omega, by simp⟩
  rw [if_neg b6] at h
  by_cases b7 : c = 41 ∧ lastIs (123 :: r) 124 = true
  · obtain ⟨a, q, rfl⟩ := last_cons b7.2 (by decide)
    rw [if_pos b7] at h; cases h; exact ⟨hn, by simp at ho ⊢; omega, by simp⟩
  rw [if_neg b7] at h
  by_cases b8 : c = 93 ∧ lastIs (123 :: r) 91 = true
  · obtain ⟨a, q, rfl⟩ := last_cons b8.2 (by decide)
    rw [if_pos b8] at h; cases h; exact ⟨hn, by simp at ho ⊢; omega, by simp⟩
  rw [if_neg b8] at h
  by_cases b9 : c = 125 ∧ lastIs (123 :: r) 123 = true
  · rw [if_pos b9] at h; cases h; exact ⟨hn, by simp, by simp⟩
  rw [if_neg b9] at h
  cases h
end Wd
end Go.Proofs.Ytecmfdkhcffpmaa
/- The plain functions of the document's machine: places in a body, locks in a number. -/
namespace Go.Proofs.Ytecmfdkhcffpmaa
open Go.RowKit
set_option linter.unusedSimpArgs false
set_option linter.unusedVariables false
namespace Mc
open Wd
/-- How a byte changes the depth, read forwards. -/
def dp (c : Int) : Int := if c = 40 ∨ c = 91 then 1 else if c = 41 ∨ c = 93 then -1 else 0
def aheadL (c : Int) : List UInt8 → Int → Nat → Nat
  | [], _, i => i
  | x :: r, d, i => if d = 0 ∧ bt x = c then i else aheadL c r (d + dp (bt x)) (i + 1)
def ahead (b : List UInt8) (p : Nat) (c : Int) : Nat := aheadL c (b.drop (p + 1)) 0 (p + 1)
def backN (b : List UInt8) : Nat → Int → Nat
  | 0, _ => 0
  | i + 1, d => if d = 0 ∧ at_ b i = 91 then i else backN b i (d - dp (at_ b i))
def back (b : List UInt8) (p : Nat) : Nat := backN b p 0
def atB (b : List UInt8) (p : Nat) : Int := if p < b.length then at_ b p else 101
/-- The number of the lock or cell that is named behind p. -/
def num (b : List UInt8) (p : Nat) : Int := if p + 1 < b.length then (if 97 ≤ at_ b (p + 1) then at_ b (p + 1) - 97 else at_ b (p + 1) - 48) else 0
def behind (b : List UInt8) (p : Nat) (second : Bool) : Nat :=
  if atB b p = 43 ∨ atB b p = 45 ∨ atB b p = 114 ∨ atB b p = 119 then p + 2
  else if atB b p = 40 ∧ second = true then ahead b p 124 + 1
  else if atB b p = 124 then ahead b p 41 + 1
  else if atB b p = 91 ∧ second = true then ahead b p 93 + 1
  else if atB b p = 93 then back b p
  else p + 1
theorem aheadL_step (c : Int) (s : ByteArray) (k : Nat) (d : Int) (h : k < s.size) : aheadL c (s.data.toList.drop k) d k = if d = 0 ∧ ((s[k].toNat : Nat) : Int) = c then k else aheadL c (s.data.toList.drop (k + 1)) (d + dp ((s[k].toNat : Nat) : Int)) (k + 1) := by
  rw [drop_cons s k h]; rfl
theorem aheadL_end (c : Int) (s : ByteArray) (k : Nat) (d : Int) (h : s.size ≤ k) : aheadL c (s.data.toList.drop k) d k = k := by
  rw [List.drop_of_length_le (by rw [len_str]; exact h)]; rfl
theorem aheadL_bd (c : Int) (l : List UInt8) (d : Int) (i : Nat) : i ≤ aheadL c l d i ∧ aheadL c l d i ≤ i + l.length := by
  induction l generalizing d i with
  | nil => simp [aheadL]
  | cons x r ih =>
    unfold aheadL
    split
    · simp
    · have := ih (d + dp (bt x)) (i + 1)
      simp; omega
theorem ahead_bd (b : List UInt8) (p : Nat) (c : Int) (h : p < b.length) : p < ahead b p c ∧ ahead b p c ≤ b.length := by
  have := aheadL_bd c (b.drop (p + 1)) 0 (p + 1)
  unfold ahead
  simp at this; omega
theorem backN_le (b : List UInt8) (i : Nat) (d : Int) : backN b i d ≤ i := by
  induction i generalizing d with
  | zero => simp [backN]
  | succ i ih =>
    unfold backN
    split
    · omega
    · have := ih (d - dp (at_ b i)); omega
def holds (held : Nat) (l : Nat) : Bool := held.testBit l
end Mc
theorem atB_bd (l : List UInt8) (p : Nat) : 0 ≤ Mc.atB l p ∧ Mc.atB l p ≤ 255 := by
  unfold Mc.atB
  split
  · exact ⟨Wd.at_lo _ _, Wd.at_hi _ _⟩
  · omega
end Go.Proofs.Ytecmfdkhcffpmaa
/- Contracts of the document's machine: places in a body, locks in a number. -/
namespace Go.Proofs.Ytecmfdkhcffpmaa
open Go.RowKit
set_option linter.unusedSimpArgs false
set_option linter.unusedVariables false
set_option maxHeartbeats 800000

theorem dp_40 : Mc.dp 40 = 1 := by decide
theorem dp_91 : Mc.dp 91 = 1 := by decide
theorem dp_41 : Mc.dp 41 = -1 := by decide
theorem dp_93 : Mc.dp 93 = -1 := by decide
theorem dp_no {c : Int} (h1 : (c == 40) = false) (h2 : (c == 91) = false) (h3 : (c == 41) = false) (h4 : (c == 93) = false) : Mc.dp c = 0 := by
  simp at h1 h2 h3 h4
  simp [Mc.dp, h1, h2, h3, h4]

theorem ahead_any (s : ByteArray) (q : Nat) (c : Int) (w : World) (hs : s.size ≤ 10000) (hq : q < s.size) (h0 : 0 ≤ c) (h1 : c ≤ 255) :
    Calls Try.prog 165 #[.string s, .int .i64 q, .int .u8 c] w fun e w' => e = .returned (.int .i64 ((Mc.ahead s.data.toList q c : Nat) : Int)) ∧ w' = w := by
  go_enter Try.func165, Try.ntmps165
  go_wp2
  go_loop [7, 8] (fun a b => ∃ (k : Nat) (d : Int), q + 1 ≤ k ∧ k ≤ s.size ∧ a = .int .i64 d ∧ b = .int .i64 k ∧ -10000 ≤ d + k ∧ d ≤ k ∧ Mc.ahead s.data.toList q c = Mc.aheadL c (s.data.toList.drop k) d k) (fun _ b => s.size - (intOf b).toNat)
  case atStart => exact ⟨q + 1, 0, by omega, by omega, rfl, by go_num, by omega, by omega, rfl⟩
  case round =>
    obtain ⟨k, d, hk0, hk, rfl, rfl, hd0, hd1, hp⟩ := hrel
    have HP := hide hp
    clear hp
    by_cases hlt : k < s.size
    · have HS := hide (Mc.aheadL_step c s k d hlt)
      by_cases hz : d = 0
      · cases hc : (((s[k].toNat : Nat) : Int) == c)
        · have z1 : (d == 0) = true := by rw [hz]; rfl
          have HN : Hid (Mc.aheadL c (s.data.toList.drop k) d k = Mc.aheadL c (s.data.toList.drop (k + 1)) (d + Mc.dp ((s[k].toNat : Nat) : Int)) (k + 1)) := by
            apply hide; rw [HS.out, if_neg]; rintro ⟨_, e⟩; simp [e] at hc
          clear hz
          by_cases e40 : ((s[k].toNat : Nat) : Int) = 40
          · have t1 : (((s[k].toNat : Nat) : Int) == 40) = true := by rw [e40]; rfl
            have t2 : (((s[k].toNat : Nat) : Int) == 91) = false := by rw [e40]; rfl
            have t3 : (((s[k].toNat : Nat) : Int) == 41) = false := by rw [e40]; rfl
            have t4 : (((s[k].toNat : Nat) : Int) == 93) = false := by rw [e40]; rfl
            have HD : Hid (Mc.dp ((s[k].toNat : Nat) : Int) = 1) := by rw [e40]; exact dp_40
            clear e40
            go_wp2
            go_round
            case rel => exact ⟨k + 1, d + 1, by omega, by omega, rfl, by go_num, by omega, by omega, by rw [HP.out, HN.out, HD.out] <;> (try congr 1) <;> (try omega)⟩
            case measure => simp [intOf] <;> omega
          by_cases e91 : ((s[k].toNat : Nat) : Int) = 91
          · have t1 : (((s[k].toNat : Nat) : Int) == 40) = false := by rw [e91]; rfl
            have t2 : (((s[k].toNat : Nat) : Int) == 91) = true := by rw [e91]; rfl
            have t3 : (((s[k].toNat : Nat) : Int) == 41) = false := by rw [e91]; rfl
            have t4 : (((s[k].toNat : Nat) : Int) == 93) = false := by rw [e91]; rfl
            have HD : Hid (Mc.dp ((s[k].toNat : Nat) : Int) = 1) := by rw [e91]; exact dp_91
            clear e91 e40
            go_wp2
            go_round
            case rel => exact ⟨k + 1, d + 1, by omega, by omega, rfl, by go_num, by omega, by omega, by rw [HP.out, HN.out, HD.out] <;> (try congr 1) <;> (try omega)⟩
            case measure => simp [intOf] <;> omega
          by_cases e41 : ((s[k].toNat : Nat) : Int) = 41
          · have t1 : (((s[k].toNat : Nat) : Int) == 40) = false := by rw [e41]; rfl
            have t2 : (((s[k].toNat : Nat) : Int) == 91) = false := by rw [e41]; rfl
            have t3 : (((s[k].toNat : Nat) : Int) == 41) = true := by rw [e41]; rfl
            have t4 : (((s[k].toNat : Nat) : Int) == 93) = false := by rw [e41]; rfl
            have HD : Hid (Mc.dp ((s[k].toNat : Nat) : Int) = -1) := by rw [e41]; exact dp_41
            clear e41 e91 e40
            go_wp2
            go_round
            case rel => exact ⟨k + 1, d - 1, by omega, by omega, rfl, by go_num, by omega, by omega, by rw [HP.out, HN.out, HD.out] <;> (try congr 1) <;> (try omega)⟩
            case measure => simp [intOf] <;> omega
          by_cases e93 : ((s[k].toNat : Nat) : Int) = 93
          · have t1 : (((s[k].toNat : Nat) : Int) == 40) = false := by rw [e93]; rfl
            have t2 : (((s[k].toNat : Nat) : Int) == 91) = false := by rw [e93]; rfl
            have t3 : (((s[k].toNat : Nat) : Int) == 41) = false := by rw [e93]; rfl
            have t4 : (((s[k].toNat : Nat) : Int) == 93) = true := by rw [e93]; rfl
            have HD : Hid (Mc.dp ((s[k].toNat : Nat) : Int) = -1) := by rw [e93]; exact dp_93
            clear e93 e41 e91 e40
            go_wp2
            go_round
            case rel => exact ⟨k + 1, d - 1, by omega, by omega, rfl, by go_num, by omega, by omega, by rw [HP.out, HN.out, HD.out] <;> (try congr 1) <;> (try omega)⟩
            case measure => simp [intOf] <;> omega
          have t1 : (((s[k].toNat : Nat) : Int) == 40) = false := beq_eq_false_iff_ne.2 e40
          have t2 : (((s[k].toNat : Nat) : Int) == 91) = false := beq_eq_false_iff_ne.2 e91
          have t3 : (((s[k].toNat : Nat) : Int) == 41) = false := beq_eq_false_iff_ne.2 e41
          have t4 : (((s[k].toNat : Nat) : Int) == 93) = false := beq_eq_false_iff_ne.2 e93
          have HD : Hid (Mc.dp ((s[k].toNat : Nat) : Int) = 0) := dp_no t1 t2 t3 t4
          clear e40 e91 e41 e93
          go_wp2
          go_round
          case rel => exact ⟨k + 1, d, by omega, by omega, rfl, by go_num, by omega, by omega, by rw [HP.out, HN.out, HD.out] <;> (try congr 1) <;> (try omega)⟩
          case measure => simp [intOf] <;> omega
        · have z1 : (d == 0) = true := by rw [hz]; rfl
          have HN : Hid (Mc.aheadL c (s.data.toList.drop k) d k = k) := by
            apply hide; rw [HS.out, if_pos ⟨hz, by simpa using hc⟩]
          clear hz
          go_wp2
          go_ret
          exact ⟨ret_int (by rw [HP.out, HN.out]), rfl⟩
      · have z1 : (d == 0) = false := beq_eq_false_iff_ne.2 hz
        have HN : Hid (Mc.aheadL c (s.data.toList.drop k) d k = Mc.aheadL c (s.data.toList.drop (k + 1)) (d + Mc.dp ((s[k].toNat : Nat) : Int)) (k + 1)) := by
          apply hide; rw [HS.out, if_neg]; rintro ⟨e, _⟩; exact hz e
        clear hz
        by_cases e40 : ((s[k].toNat : Nat) : Int) = 40
        · have t1 : (((s[k].toNat : Nat) : Int) == 40) = true := by rw [e40]; rfl
          have t2 : (((s[k].toNat : Nat) : Int) == 91) = false := by rw [e40]; rfl
          have t3 : (((s[k].toNat : Nat) : Int) == 41) = false := by rw [e40]; rfl
          have t4 : (((s[k].toNat : Nat) : Int) == 93) = false := by rw [e40]; rfl
          have HD : Hid (Mc.dp ((s[k].toNat : Nat) : Int) = 1) := by rw [e40]; exact dp_40
          clear e40
          go_wp2
          go_round
          case rel => exact ⟨k + 1, d + 1, by omega, by omega, rfl, by go_num, by omega, by omega, by rw [HP.out, HN.out, HD.out] <;> (try congr 1) <;> (try omega)⟩
          case measure => simp [intOf] <;> omega
        by_cases e91 : ((s[k].toNat : Nat) : Int) = 91
        · have t1 : (((s[k].toNat : Nat) : Int) == 40) = false := by rw [e91]; rfl
          have t2 : (((s[k].toNat : Nat) : Int) == 91) = true := by rw [e91]; rfl
          have t3 : (((s[k].toNat : Nat) : Int) == 41) = false := by rw [e91]; rfl
          have t4 : (((s[k].toNat : Nat) : Int) == 93) = false := by rw [e91]; rfl
          have HD : Hid (Mc.dp ((s[k].toNat : Nat) : Int) = 1) := by rw [e91]; exact dp_91
          clear e91 e40
          go_wp2
          go_round
          case rel => exact ⟨k + 1, d + 1, by omega, by omega, rfl, by go_num, by omega, by omega, by rw [HP.out, HN.out, HD.out] <;> (try congr 1) <;> (try omega)⟩
          case measure => simp [intOf] <;> omega
        by_cases e41 : ((s[k].toNat : Nat) : Int) = 41
        · have t1 : (((s[k].toNat : Nat) : Int) == 40) = false := by rw [e41]; rfl
          have t2 : (((s[k].toNat : Nat) : Int) == 91) = false := by rw [e41]; rfl
          have t3 : (((s[k].toNat : Nat) : Int) == 41) = true := by rw [e41]; rfl
          have t4 : (((s[k].toNat : Nat) : Int) == 93) = false := by rw [e41]; rfl
          have HD : Hid (Mc.dp ((s[k].toNat : Nat) : Int) = -1) := by rw [e41]; exact dp_41
          clear e41 e91 e40
          go_wp2
          go_round
          case rel => exact ⟨k + 1, d - 1, by omega, by omega, rfl, by go_num, by omega, by omega, by rw [HP.out, HN.out, HD.out] <;> (try congr 1) <;> (try omega)⟩
          case measure => simp [intOf] <;> omega
        by_cases e93 : ((s[k].toNat : Nat) : Int) = 93
        · have t1 : (((s[k].toNat : Nat) : Int) == 40) = false := by rw [e93]; rfl
          have t2 : (((s[k].toNat : Nat) : Int) == 91) = false := by rw [e93]; rfl
          have t3 : (((s[k].toNat : Nat) : Int) == 41) = false := by rw [e93]; rfl
          have t4 : (((s[k].toNat : Nat) : Int) == 93) = true := by rw [e93]; rfl
          have HD : Hid (Mc.dp ((s[k].toNat : Nat) : Int) = -1) := by rw [e93]; exact dp_93
          clear e93 e41 e91 e40
          go_wp2
          go_round
          case rel => exact ⟨k + 1, d - 1, by omega, by omega, rfl, by go_num, by omega, by omega, by rw [HP.out, HN.out, HD.out] <;> (try congr 1) <;> (try omega)⟩
          case measure => simp [intOf] <;> omega
        have t1 : (((s[k].toNat : Nat) : Int) == 40) = false := beq_eq_false_iff_ne.2 e40
        have t2 : (((s[k].toNat : Nat) : Int) == 91) = false := beq_eq_false_iff_ne.2 e91
        have t3 : (((s[k].toNat : Nat) : Int) == 41) = false := beq_eq_false_iff_ne.2 e41
        have t4 : (((s[k].toNat : Nat) : Int) == 93) = false := beq_eq_false_iff_ne.2 e93
        have HD : Hid (Mc.dp ((s[k].toNat : Nat) : Int) = 0) := dp_no t1 t2 t3 t4
        clear e40 e91 e41 e93
        go_wp2
        go_round
        case rel => exact ⟨k + 1, d, by omega, by omega, rfl, by go_num, by omega, by omega, by rw [HP.out, HN.out, HD.out] <;> (try congr 1) <;> (try omega)⟩
        case measure => simp [intOf] <;> omega
    · go_wp2
      go_ret
      exact ⟨ret_int (by rw [HP.out, Mc.aheadL_end c s k d (by omega)]; omega), rfl⟩

theorem back_any (s : ByteArray) (q : Nat) (w : World) (hs : s.size ≤ 10000) (hq : q ≤ s.size) :
    Calls Try.prog 166 #[.string s, .int .i64 q] w fun e w' => e = .returned (.int .i64 ((Mc.back s.data.toList q : Nat) : Int)) ∧ w' = w := by
  go_enter Try.func166, Try.ntmps166
  go_wp2
  go_loop [5, 6] (fun a b => ∃ (m : Nat) (d : Int), m ≤ q ∧ a = .int .i64 d ∧ b = .int .i64 ((m : Int) - 1) ∧ -10000 + m ≤ d + q ∧ d + m ≤ q ∧ Mc.back s.data.toList q = Mc.backN s.data.toList m d) (fun _ b => (intOf b + 1).toNat)
  case atStart => exact ⟨q, 0, by omega, rfl, rfl, by omega, by omega, rfl⟩
  case round =>
    obtain ⟨m, d, hm, rfl, rfl, hd0, hd1, hp⟩ := hrel
    have HP := hide hp
    clear hp
    cases m with
    | zero =>
      go_wp2
      go_ret
      exact ⟨ret_int (by rw [HP.out]; rfl), rfl⟩
    | succ k =>
      have hlt : k < s.size := by omega
      have HB := hide (Wd.at_str s k hlt)
      have ek : (((k + 1 : Nat) : Int) - 1) = (k : Int) := by omega
      rw [ek]
      clear ek
      by_cases hz : d = 0
      · cases hc : (((s[k].toNat : Nat) : Int) == 91)
        · have z1 : (d == 0) = true := by rw [hz]; rfl
          have HN : Hid (Mc.backN s.data.toList (k + 1) d = Mc.backN s.data.toList k (d - Mc.dp ((s[k].toNat : Nat) : Int))) := by
            apply hide; rw [Mc.backN, ← HB.out, if_neg]; rintro ⟨_, e⟩; simp [e] at hc
          clear hz
          have t2' := hc
          by_cases e40 : ((s[k].toNat : Nat) : Int) = 40
          · have t1 : (((s[k].toNat : Nat) : Int) == 40) = true := by rw [e40]; rfl
            have t2 : (((s[k].toNat : Nat) : Int) == 91) = false := by rw [e40]; rfl
            have t3 : (((s[k].toNat : Nat) : Int) == 41) = false := by rw [e40]; rfl
            have t4 : (((s[k].toNat : Nat) : Int) == 93) = false := by rw [e40]; rfl
            have HD : Hid (Mc.dp ((s[k].toNat : Nat) : Int) = 1) := by rw [e40]; exact dp_40
            clear e40
            go_wp2
            go_round
            case rel => exact ⟨k, d - 1, by omega, rfl, by go_num, by omega, by omega, by rw [HP.out, HN.out, HD.out] <;> (try congr 1) <;> (try omega)⟩
            case measure => simp [intOf] <;> omega
          by_cases e91 : ((s[k].toNat : Nat) : Int) = 91
          · exfalso; rw [e91] at hc; cases hc
          by_cases e41 : ((s[k].toNat : Nat) : Int) = 41
          · have t1 : (((s[k].toNat : Nat) : Int) == 40) = false := by rw [e41]; rfl
            have t2 : (((s[k].toNat : Nat) : Int) == 91) = false := by rw [e41]; rfl
            have t3 : (((s[k].toNat : Nat) : Int) == 41) = true := by rw [e41]; rfl
            have t4 : (((s[k].toNat : Nat) : Int) == 93) = false := by rw [e41]; rfl
            have HD : Hid (Mc.dp ((s[k].toNat : Nat) : Int) = -1) := by rw [e41]; exact dp_41
            clear e41 e91 e40
            go_wp2
            go_round
            case rel => exact ⟨k, d + 1, by omega, rfl, by go_num, by omega, by omega, by rw [HP.out, HN.out, HD.out] <;> (try congr 1) <;> (try omega)⟩
            case measure => simp [intOf] <;> omega
          by_cases e93 : ((s[k].toNat : Nat) : Int) = 93
          · have t1 : (((s[k].toNat : Nat) : Int) == 40) = false := by rw [e93]; rfl
            have t2 : (((s[k].toNat : Nat) : Int) == 91) = false := by rw [e93]; rfl
            have t3 : (((s[k].toNat : Nat) : Int) == 41) = false := by rw [e93]; rfl
            have t4 : (((s[k].toNat : Nat) : Int) == 93) = true := by rw [e93]; rfl
            have HD : Hid (Mc.dp ((s[k].toNat : Nat) : Int) = -1) := by rw [e93]; exact dp_93
            clear e93 e41 e91 e40
            go_wp2
            go_round
            case rel => exact ⟨k, d + 1, by omega, rfl, by go_num, by omega, by omega, by rw [HP.out, HN.out, HD.out] <;> (try congr 1) <;> (try omega)⟩
            case measure => simp [intOf] <;> omega
          have t1 : (((s[k].toNat : Nat) : Int) == 40) = false := beq_eq_false_iff_ne.2 e40
          have t2 : (((s[k].toNat : Nat) : Int) == 91) = false := beq_eq_false_iff_ne.2 e91
          have t3 : (((s[k].toNat : Nat) : Int) == 41) = false := beq_eq_false_iff_ne.2 e41
          have t4 : (((s[k].toNat : Nat) : Int) == 93) = false := beq_eq_false_iff_ne.2 e93
          have HD : Hid (Mc.dp ((s[k].toNat : Nat) : Int) = 0) := dp_no t1 t2 t3 t4
          clear e40 e91 e41 e93
          go_wp2
          go_round
          case rel => exact ⟨k, d, by omega, rfl, by go_num, by omega, by omega, by rw [HP.out, HN.out, HD.out] <;> (try congr 1) <;> (try omega)⟩
          case measure => simp [intOf] <;> omega
        · have z1 : (d == 0) = true := by rw [hz]; rfl
          have HN : Hid (Mc.backN s.data.toList (k + 1) d = k) := by
            apply hide; rw [Mc.backN, ← HB.out, if_pos ⟨hz, by simpa using hc⟩]
          clear hz
          go_wp2
          go_ret
          exact ⟨ret_int (by rw [HP.out, HN.out]), rfl⟩
      · have z1 : (d == 0) = false := beq_eq_false_iff_ne.2 hz
        have HN : Hid (Mc.backN s.data.toList (k + 1) d = Mc.backN s.data.toList k (d - Mc.dp ((s[k].toNat : Nat) : Int))) := by
          apply hide; rw [Mc.backN, ← HB.out, if_neg]; rintro ⟨e, _⟩; exact hz e
        clear hz
        by_cases e40 : ((s[k].toNat : Nat) : Int) = 40
        · have t1 : (((s[k].toNat : Nat) : Int) == 40) = true := by rw [e40]; rfl
          have t2 : (((s[k].toNat : Nat) : Int) == 91) = false := by rw [e40]; rfl
          have t3 : (((s[k].toNat : Nat) : Int) == 41) = false := by rw [e40]; rfl
          have t4 : (((s[k].toNat : Nat) : Int) == 93) = false := by rw [e40]; rfl
          have HD : Hid (Mc.dp ((s[k].toNat : Nat) : Int) = 1) := by rw [e40]; exact dp_40
          clear e40
          go_wp2
          go_round
          case rel => exact ⟨k, d - 1, by omega, rfl, by go_num, by omega, by omega, by rw [HP.out, HN.out, HD.out] <;> (try congr 1) <;> (try omega)⟩
          case measure => simp [intOf] <;> omega
        by_cases e91 : ((s[k].toNat : Nat) : Int) = 91
        · have t1 : (((s[k].toNat : Nat) : Int) == 40) = false := by rw [e91]; rfl
          have t2 : (((s[k].toNat : Nat) : Int) == 91) = true := by rw [e91]; rfl
          have t3 : (((s[k].toNat : Nat) : Int) == 41) = false := by rw [e91]; rfl
          have t4 : (((s[k].toNat : Nat) : Int) == 93) = false := by rw [e91]; rfl
          have HD : Hid (Mc.dp ((s[k].toNat : Nat) : Int) = 1) := by rw [e91]; exact dp_91
          clear e91 e40
          go_wp2
          go_round
          case rel => exact ⟨k, d - 1, by omega, rfl, by go_num, by omega, by omega, by rw [HP.out, HN.out, HD.out] <;> (try congr 1) <;> (try omega)⟩
          case measure => simp [intOf] <;> omega
        by_cases e41 : ((s[k].toNat : Nat) : Int) = 41
        · have t1 : (((s[k].toNat : Nat) : Int) == 40) = false := by rw [e41]; rfl
          have t2 : (((s[k].toNat : Nat) : Int) == 91) = false := by rw [e41]; rfl
          have t3 : (((s[k].toNat : Nat) : Int) == 41) = true := by rw [e41]; rfl
          have t4 : (((s[k].toNat : Nat) : Int) == 93) = false := by rw [e41]; rfl
          have HD : Hid (Mc.dp ((s[k].toNat : Nat) : Int) = -1) := by rw [e41]; exact dp_41
          clear e41 e91 e40
          go_wp2
          go_round
          case rel => exact ⟨k, d + 1, by omega, rfl, by go_num, by omega, by omega, by rw [HP.out, HN.out, HD.out] <;> (try congr 1) <;> (try omega)⟩
          case measure => simp [intOf] <;> omega
        by_cases e93 : ((s[k].toNat : Nat) : Int) = 93
        · have t1 : (((s[k].toNat : Nat) : Int) == 40) = false := by rw [e93]; rfl
          have t2 : (((s[k].toNat : Nat) : Int) == 91) = false := by rw [e93]; rfl
          have t3 : (((s[k].toNat : Nat) : Int) == 41) = false := by rw [e93]; rfl
          have t4 : (((s[k].toNat : Nat) : Int) == 93) = true := by rw [e93]; rfl
          have HD : Hid (Mc.dp ((s[k].toNat : Nat) : Int) = -1) := by rw [e93]; exact dp_93
          clear e93 e41 e91 e40
          go_wp2
          go_round
          case rel => exact ⟨k, d + 1, by omega, rfl, by go_num, by omega, by omega, by rw [HP.out, HN.out, HD.out] <;> (try congr 1) <;> (try omega)⟩
          case measure => simp [intOf] <;> omega
        have t1 : (((s[k].toNat : Nat) : Int) == 40) = false := beq_eq_false_iff_ne.2 e40
        have t2 : (((s[k].toNat : Nat) : Int) == 91) = false := beq_eq_false_iff_ne.2 e91
        have t3 : (((s[k].toNat : Nat) : Int) == 41) = false := beq_eq_false_iff_ne.2 e41
        have t4 : (((s[k].toNat : Nat) : Int) == 93) = false := beq_eq_false_iff_ne.2 e93
        have HD : Hid (Mc.dp ((s[k].toNat : Nat) : Int) = 0) := dp_no t1 t2 t3 t4
        clear e40 e91 e41 e93
        go_wp2
        go_round
        case rel => exact ⟨k, d, by omega, rfl, by go_num, by omega, by omega, by rw [HP.out, HN.out, HD.out] <;> (try congr 1) <;> (try omega)⟩
        case measure => simp [intOf] <;> omega

end Go.Proofs.Ytecmfdkhcffpmaa
