/- The plain functions: what the program's and the document's functions compute, over integers and lists of bytes. Nothing of the translation is imported. -/
import Derived.Below
namespace Go.Proofs.Ytecmfdkhcffpmaa
open Go.RowKit
theorem hide {p : Prop} (h : p) : Hid p := h
theorem ret_int {k : IntKind} {a b : Int} (h : a = b) : Ending.returned (.int k a) = .returned (.int k b) := by rw [h]
namespace Wd
def up (n : Int) : Bool := decide (65 ≤ n ∧ n ≤ 72)
def lk (n : Int) : Bool := decide (97 ≤ n ∧ n ≤ 102)
def cl (n : Int) : Bool := decide (48 ≤ n ∧ n ≤ 51)
/-- The byte at a place, as a number; behind the end 0. -/
def at_ (l : List UInt8) (i : Nat) : Int := ((l[i]?.getD 0).toNat : Int)
theorem at_lo (l : List UInt8) (i : Nat) : 0 ≤ at_ l i := by unfold at_; omega
theorem at_hi (l : List UInt8) (i : Nat) : at_ l i ≤ 255 := by
  unfold at_; have := (l[i]?.getD 0).toNat_lt; omega
theorem at_str (s : ByteArray) (i : Nat) (h : i < s.size) : ((s[i].toNat : Nat) : Int) = at_ s.data.toList i := by
  have h' : i < s.data.size := h
  unfold at_
  rw [Array.getElem?_toList, Array.getElem?_eq_getElem h']
  rfl
theorem len_str (s : ByteArray) : s.data.toList.length = s.size := Array.length_toList
def heads (l : List UInt8) (i : Nat) : Bool := decide (i + 1 < l.length) && (at_ l (i + 1) == 123)
/-- The first place below n at which p answers yes. -/
def first (p : Nat → Bool) (n : Nat) : Option Nat := (List.range n).find? p
def toInt : Option Nat → Int
  | some i => (i : Int)
  | none => -1
theorem first_yes {p : Nat → Bool} {n k : Nat} (hk : k < n) (hp : p k = true) (hb : ∀ j, j < k → p j = false) : first p n = some k := by
  unfold first
  rw [List.find?_range_eq_some]
  exact ⟨hp, by simpa using hk, fun j hj => by simp [hb j hj]⟩
theorem first_no {p : Nat → Bool} {n : Nat} (hb : ∀ j, j < n → p j = false) : first p n = none := by
  unfold first
  rw [List.find?_range_eq_none]
  exact fun j hj => by simp [hb j hj]
def headP (l : List UInt8) (c : Int) (i : Nat) : Bool := heads l i && (at_ l i == c)
def head (l : List UInt8) (c : Int) : Option Nat := first (headP l c) l.length
/-- The end of the body of the item at i: the first closing brace from i + 2 on, or the end. -/
def bodyEnd (l : List UInt8) (k : Nat) : Nat := k + ((l.drop k).takeWhile (fun c => !(((c.toNat : Nat) : Int) == 125))).length
def body (l : List UInt8) (i : Nat) : List UInt8 := (l.drop (i + 2)).takeWhile (fun c => !(((c.toNat : Nat) : Int) == 125))
theorem takeWhile_len {α : Type} (p : α → Bool) (l : List α) (n : Nat) (hn : n ≤ l.length) (h1 : ∀ j (hj : j < n), p (l[j]'(by omega)) = true) (h2 : ∀ hj : n < l.length, p l[n] = false) : l.takeWhile p = l.take n := by
  induction l generalizing n with
  | nil => simp at hn; subst hn; rfl
  | cons a t ih =>
    cases n with
    | zero =>
      have := h2 (by simp)
      simp at this
      simp [List.takeWhile, this]
    | succ n =>
      have h0 := h1 0 (by omega)
      simp at h0
      simp only [List.takeWhile, h0, List.take_succ_cons]
      rw [ih n (by simpa using hn) (fun j hj => by have := h1 (j + 1) (by omega); simpa using this) (fun hj => by have := h2 (by simpa using hj); simpa using this)]
theorem body_eq (l : List UInt8) (i k : Nat) (hk : i + 2 ≤ k) (hkl : k ≤ l.length) (h1 : ∀ j, i + 2 ≤ j → j < k → ¬ at_ l j = 125) (h2 : k < l.length → at_ l k = 125) : body l i = (l.drop (i + 2)).take (k - (i + 2)) := by
  unfold body
  refine takeWhile_len _ _ _ ?_ ?_ ?_
  · simp; omega
  · intro j hj
    have := h1 (i + 2 + j) (by omega) (by omega)
    unfold at_ at this
    rw [List.getElem?_eq_getElem (by omega), Option.getD_some] at this
    rw [List.getElem_drop]
    simpa using this
  · intro hj
    have hj' : k < l.length := by simp at hj; omega
    have := h2 hj'
    unfold at_ at this
    rw [List.getElem?_eq_getElem hj', Option.getD_some] at this
    rw [List.getElem_drop]
    have e : i + 2 + (k - (i + 2)) = k := by omega
    simp only [e]
    simpa using this
def misP (l : List UInt8) (i : Nat) : Bool :=
  up (at_ l i) && (decide (toInt (head l (at_ l i)) < 0) || (heads l i && decide (toInt (head l (at_ l i)) < (i : Int))))
def misnamed (l : List UInt8) : Option Nat := first (misP l) l.length
theorem extract_str (s : ByteArray) (a b : Nat) : (s.extract a b).data.toList = (s.data.toList.drop a).take (b - a) := by
  rw [ByteArray.data_extract, Array.toList_extract, List.extract_eq_take_drop]
/-- What is open, innermost last, and a byte in a body: what is to come, what is open then; none: it can't stand there. -/
def lastIs (o : List UInt8) (c : Int) : Bool := at_ o (o.length - 1) == c
def opened (c : Int) (o : List UInt8) : Option (Int × List UInt8) :=
  if c = 43 ∨ c = 45 then some (3, o)
  else if c = 114 ∨ c = 119 then some (4, o)
  else if c = 60 ∨ c = 62 ∨ c = 122 ∨ up c = true then some (2, o)
  else if c = 40 then some (2, o ++ [40])
  else if c = 91 then some (2, o ++ [91])
  else if c = 124 ∧ lastIs o 40 = true then some (2, o.take (o.length - 1) ++ [124])
  else if c = 41 ∧ lastIs o 124 = true then some (2, o.take (o.length - 1))
  else if c = 93 ∧ lastIs o 91 = true then some (2, o.take (o.length - 1))
  else if c = 125 ∧ lastIs o 123 = true then some (0, [])
  else none
def openedW (c : Int) (o : List UInt8) : Int := match opened c o with | some x => x.1 | none => 0
def openedO (c : Int) (o : List UInt8) : List UInt8 := match opened c o with | some x => x.2 | none => []
def openedB (c : Int) (o : List UInt8) : Bool := (opened c o).isSome
/-- A reader of the form: what is to come (0 an item, 1 a brace, 2 in a body, 3 a lock, 4 a cell), what is open, how many items have begun. -/
structure St where
  want : Int
  op : List UInt8
  items : Nat
def St.ok (st : St) (k : Nat) : Prop := st.items ≤ 8 ∧ st.op.length ≤ k + 1 ∧ (st.want = 0 ∨ st.want = 1 ∨ ((st.want = 2 ∨ st.want = 3 ∨ st.want = 4) ∧ ∃ r, st.op = 123 :: r))
def stepR (st : St) (c : Int) : Option St :=
  if st.want = 0 then (if st.items < 8 ∧ (c = 116 ∨ c = 104 ∨ up c = true) then some ⟨1, st.op, st.items + 1⟩ else none)
  else if st.want = 1 then (if c = 123 then some ⟨2, [123], st.items⟩ else none)
  else if st.want = 3 then (if lk c = true then some ⟨2, st.op, st.items⟩ else none)
  else if st.want = 4 then (if cl c = true then some ⟨2, st.op, st.items⟩ else none)
  else (match opened c st.op with | some x => some ⟨x.1, x.2, st.items⟩ | none => none)
def bt (c : UInt8) : Int := ((c.toNat : Nat) : Int)
/-- Of the rest of a text, from the place i and the state on: the first byte that can't stand there, or the end. -/
def placeFrom : List UInt8 → Nat → St → Option Nat
  | [], i, st => if st.want ≠ 0 ∨ st.items = 0 then some i else none
  | c :: r, i, st => match stepR st (bt c) with
    | none => some i
    | some st' => placeFrom r (i + 1) st'
def place (l : List UInt8) : Option Nat := placeFrom l 0 ⟨0, [], 0⟩
theorem drop_cons (s : ByteArray) (k : Nat) (h : k < s.size) : s.data.toList.drop k = s[k] :: s.data.toList.drop (k + 1) := by
  have h' : k < s.data.toList.length := by rw [len_str]; exact h
  rw [List.drop_eq_getElem_cons h']
  rfl
theorem placeFrom_step (s : ByteArray) (k : Nat) (st : St) (h : k < s.size) : placeFrom (s.data.toList.drop k) k st = match stepR st ((s[k].toNat : Nat) : Int) with | none => some k | some st' => placeFrom (s.data.toList.drop (k + 1)) (k + 1) st' := by
  rw [drop_cons s k h]; rfl
theorem placeFrom_end (s : ByteArray) (k : Nat) (st : St) (h : s.size ≤ k) (hk : k ≤ s.size) : placeFrom (s.data.toList.drop k) k st = if st.want ≠ 0 ∨ st.items = 0 then some s.size else none := by
  have e : k = s.size := by omega
  rw [List.drop_of_length_le (by rw [len_str]; exact h), e]; rfl
theorem last_cons {r : List UInt8} {c : Int} (h : lastIs (123 :: r) c = true) (hc : c ≠ 123) : ∃ a q, r = a :: q := by
  cases r with
  | nil => exfalso; simp [lastIs, at_] at h; exact hc h.symm
  | cons a q => exact ⟨a, q, rfl⟩
theorem opened_ok {c : Int} {o : List UInt8} {x : Int × List UInt8} {k n : Nat} (h : opened c o = some x) (ho : o.length ≤ k + 1) (hp : ∃ r, o = 123 :: r) (hn : n ≤ 8) : (⟨x.1, x.2, n⟩ : St).ok (k + 1) := by
  obtain ⟨r, rfl⟩ := hp
  unfold opened at h
  by_cases b1 : c = 43 ∨ c = 45
  · rw [if_pos b1] at h; cases h; exact ⟨hn, by simp at ho ⊢; omega, by simp⟩
  rw [if_neg b1] at h
  by_cases b2 : c = 114 ∨ c = 119
  · rw [if_pos b2] at h; cases h; exact ⟨hn, by simp at ho ⊢; omega, by simp⟩
  rw [if_neg b2] at h
  by_cases b3 : c = 60 ∨ c = 62 ∨ c = 122 ∨ up c = true
  · rw [if_pos b3] at h; cases h; exact ⟨hn, by simp at ho ⊢; omega, by simp⟩
  rw [if_neg b3] at h
  by_cases b4 : c = 40
  · rw [if_pos b4] at h; cases h; exact ⟨hn, by simp at ho ⊢; omega, by simp⟩
  rw [if_neg b4] at h
  by_cases b5 : c = 91
  · rw [if_pos b5] at h; cases h; exact ⟨hn, by simp at ho ⊢; omega, by simp⟩
  rw [if_neg b5] at h
  by_cases b6 : c = 124 ∧ lastIs (123 :: r) 40 = true
  · obtain ⟨a, q, rfl⟩ := last_cons b6.2 (by decide)
    rw [if_pos b6] at h; cases h; exact ⟨hn, by simp at ho ⊢; omega, by simp⟩
  rw [if_neg b6] at h
  by_cases b7 : c = 41 ∧ lastIs (123 :: r) 124 = true
  · obtain ⟨a, q, rfl⟩ := last_cons b7.2 (by decide)
    rw [if_pos b7] at h; cases h; exact ⟨hn, by simp at ho ⊢; omega, by simp⟩
  rw [if_neg b7] at h
  by_cases b8 : c = 93 ∧ lastIs (123 :: r) 91 = true
  · obtain ⟨a, q, rfl⟩ := last_cons b8.2 (by decide)
    rw [if_pos b8] at h; cases h; exact ⟨hn, by simp at ho ⊢; omega, by simp⟩
  rw [if_neg b8] at h
  by_cases b9 : c = 125 ∧ lastIs (123 :: r) 123 = true
  · rw [if_pos b9] at h; cases h; exact ⟨hn, by simp, by simp⟩
  rw [if_neg b9] at h
  cases h
end Wd
end Go.Proofs.Ytecmfdkhcffpmaa
