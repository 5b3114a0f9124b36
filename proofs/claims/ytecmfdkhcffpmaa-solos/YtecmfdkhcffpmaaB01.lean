/- Pure, Pure2, Pure3, Pure4, Pure5. -/
import Derived.Below
import Derived.Laws.Tables
import Derived.Laws.Rows
/- The plain functions: what the program's and the document's functions compute, over integers and lists of bytes. Nothing of the translation is imported. -/
namespace Go.Proofs.Ytecmfdkhcffpmaa
open Go.RowKit
theorem hide {p : Prop} (h : p) : Hid p := h
theorem ret_int {k : IntKind} {a b : Int} (h : a = b) : Ending.returned (.int k a) = .returned (.int k b) := by rw [h]
namespace Wd
def up (n : Int) : Bool := decide (65 ≤ n ∧ n ≤ 72)
def lk (n : Int) : Bool := decide (97 ≤ n ∧ n ≤ 102)
def cl (n : Int) : Bool := decide (48 ≤ n ∧ n ≤ 51)
/-- The byte at a place, as a number; behind the end 0. -/
def at_ (l : List UInt8) (i : Nat) : Int := ((l[i]?.getD 0).toNat : Int)
theorem at_lo (l : List UInt8) (i : Nat) : 0 ≤ at_ l i := by unfold at_; omega
theorem at_hi (l : List UInt8) (i : Nat) : at_ l i ≤ 255 := by
  unfold at_; have := (l[i]?.getD 0).toNat_lt; omega
theorem at_str (s : ByteArray) (i : Nat) (h : i < s.size) : ((s[i].toNat : Nat) : Int) = at_ s.data.toList i := by
  have h' : i < s.data.size := h
  unfold at_
  rw [Array.getElem?_toList, Array.getElem?_eq_getElem h']
  rfl
theorem len_str (s : ByteArray) : s.data.toList.length = s.size := Array.length_toList
def heads (l : List UInt8) (i : Nat) : Bool := decide (i + 1 < l.length) && (at_ l (i + 1) == 123)
/-- The first place below n at which p answers yes. -/
def first (p : Nat → Bool) (n : Nat) : Option Nat := (List.range n).find? p
def toInt : Option Nat → Int
  | some i => (i : Int)
  | none => -1
theorem first_yes {p : Nat → Bool} {n k : Nat} (hk : k < n) (hp : p k = true) (hb : ∀ j, j < k → p j = false) : first p n = some k := by
  unfold first
  rw [List.find?_range_eq_some]
  exact ⟨hp, by simpa using hk, fun j hj => by simp [hb j hj]⟩
theorem first_no {p : Nat → Bool} {n : Nat} (hb : ∀ j, j < n → p j = false) : first p n = none := by
  unfold first
  rw [List.find?_range_eq_none]
  exact fun j hj => by simp [hb j hj]
def headP (l : List UInt8) (c : Int) (i : Nat) : Bool := heads l i && (at_ l i == c)
def head (l : List UInt8) (c : Int) : Option Nat := first (headP l c) l.length
/-- The end of the body of the item at i: the first closing brace from i + 2 on, or the end. -/
def bodyEnd (l : List UInt8) (k : Nat) : Nat := k + ((l.drop k).takeWhile (fun c => !(((c.toNat : Nat) : Int) == 125))).length
def body (l : List UInt8) (i : Nat) : List UInt8 := (l.drop (i + 2)).takeWhile (fun c => !(((c.toNat : Nat) : Int) == 125))
theorem takeWhile_len {α : Type} (p : α → Bool) (l : List α) (n : Nat) (hn : n ≤ l.length) (h1 : ∀ j (hj : j < n), p (l[j]'(by omega)) = true) (h2 : ∀ hj : n < l.length, p l[n] = false) : l.takeWhile p = l.take n := by
  induction l generalizing n with
  | nil => simp at hn; subst hn; rfl
  | cons a t ih =>
    cases n with
    | zero =>
      have := h2 (by simp)
      simp at this
      simp [List.takeWhile, this]
    | succ n =>
      have h0 := h1 0 (by omega)
      simp at h0
      simp only [List.takeWhile, h0, List.take_succ_cons]
      rw [ih n (by simpa using hn) (fun j hj => by have := h1 (j + 1) (by omega); simpa using this) (fun hj => by have := h2 (by simpa using hj); simpa using this)]
theorem body_eq (l : List UInt8) (i k : Nat) (hk : i + 2 ≤ k) (hkl : k ≤ l.length) (h1 : ∀ j, i + 2 ≤ j → j < k → ¬ at_ l j = 125) (h2 : k < l.length → at_ l k = 125) : body l i = (l.drop (i + 2)).take (k - (i + 2)) := by
  unfold body
  refine takeWhile_len _ _ _ ?_ ?_ ?_
  · simp; omega
  · intro j hj
    have := h1 (i + 2 + j) (by omega) (by omega)
    unfold at_ at this
    rw [List.getElem?_eq_getElem (by omega), Option.getD_some] at this
    rw [List.getElem_drop]
    simpa using this
  · intro hj
    have hj' : k < l.length := by simp at hj; omega
    have := h2 hj'
    unfold at_ at this
    rw [List.getElem?_eq_getElem hj', Option.getD_some] at this
    rw [List.getElem_drop]
    have e : i + 2 + (k - (i + 2)) = k := by omega
    simp only [e]
    simpa using this
def misP (l : List UInt8) (i : Nat) : Bool :=
  up (at_ l i) && (decide (toInt (head l (at_ l i)) < 0) || (heads l i && decide (toInt (head l (at_ l i)) < (i : Int))))
def misnamed (l : List UInt8) : Option Nat := first (misP l) l.length
theorem extract_str (s : ByteArray) (a b : Nat) : (s.extract a b).data.toList = (s.data.toList.drop a).take (b - a) := by
  rw [ByteArray.data_extract, Array.toList_extract, List.extract_eq_take_drop]
/-- What is open, innermost last, and a byte in a body: what is to come, what is open then; none: it can't stand there. -/
def lastIs (o : List UInt8) (c : Int) : Bool := at_ o (o.length - 1) == c
def opened (c : Int) (o : List UInt8) : Option (Int × List UInt8) :=
  if c = 43 ∨ c = 45 then some (3, o)
  else if c = 114 ∨ c = 119 then some (4, o)
  else if c = 60 ∨ c = 62 ∨ c = 122 ∨ up c = true then some (2, o)
  else if c = 40 then some (2, o ++ [40])
  else if c = 91 then some (2, o ++ [91])
  else if c = 124 ∧ lastIs o 40 = true then some (2, o.take (o.length - 1) ++ [124])
  else if c = 41 ∧ lastIs o 124 = true then some (2, o.take (o.length - 1))
  else if c = 93 ∧ lastIs o 91 = true then some (2, o.take (o.length - 1))
  else if c = 125 ∧ lastIs o 123 = true then some (0, [])
  else none
def openedW (c : Int) (o : List UInt8) : Int := match opened c o with | some x => x.1 | none => 0
def openedO (c : Int) (o : List UInt8) : List UInt8 := match opened c o with | some x => x.2 | none => []
def openedB (c : Int) (o : List UInt8) : Bool := (opened c o).isSome
/-- A reader of the form: what is to come (0 an item, 1 a brace, 2 in a body, 3 a lock, 4 a cell), what is open, how many items have begun. -/
structure St where
  want : Int
  op : List UInt8
  items : Nat
def St.ok (st : St) (k : Nat) : Prop := st.items ≤ 8 ∧ st.op.length ≤ k + 1 ∧ (st.want = 0 ∨ st.want = 1 ∨ ((st.want = 2 ∨ st.want = 3 ∨ st.want = 4) ∧ ∃ r, st.op = 123 :: r))
def stepR (st : St) (c : Int) : Option St :=
  if st.want = 0 then (if st.items < 8 ∧ (c = 116 ∨ c = 104 ∨ up c = true) then some ⟨1, st.op, st.items + 1⟩ else none)
  else if st.want = 1 then (if c = 123 then some ⟨2, [123], st.items⟩ else none)
  else if st.want = 3 then (if lk c = true then some ⟨2, st.op, st.items⟩ else none)
  else if st.want = 4 then (if cl c = true then some ⟨2, st.op, st.items⟩ else none)
  else (match opened c st.op with | some x => some ⟨x.1, x.2, st.items⟩ | none => none)
def bt (c : UInt8) : Int := ((c.toNat : Nat) : Int)
/-- Of the rest of a text, from the place i and the state on: the first byte that can't stand there, or the end. -/
def placeFrom : List UInt8 → Nat → St → Option Nat
  | [], i, st => if st.want ≠ 0 ∨ st.items = 0 then some i else none
  | c :: r, i, st => match stepR st (bt c) with
    | none => some i
    | some st' => placeFrom r (i + 1) st'
def place (l : List UInt8) : Option Nat := placeFrom l 0 ⟨0, [], 0⟩
theorem drop_cons (s : ByteArray) (k : Nat) (h : k < s.size) : s.data.toList.drop k = s[k] :: s.data.toList.drop (k + 1) := by
  have h' : k < s.data.toList.length := by rw [len_str]; exact h
  rw [List.drop_eq_getElem_cons h']
  rfl
theorem placeFrom_step (s : ByteArray) (k : Nat) (st : St) (h : k < s.size) : placeFrom (s.data.toList.drop k) k st = match stepR st ((s[k].toNat : Nat) : Int) with | none => some k | some st' => placeFrom (s.data.toList.drop (k + 1)) (k + 1) st' := by
  rw [drop_cons s k h]; rfl
theorem placeFrom_end (s : ByteArray) (k : Nat) (st : St) (h : s.size ≤ k) (hk : k ≤ s.size) : placeFrom (s.data.toList.drop k) k st = if st.want ≠ 0 ∨ st.items = 0 then some s.size else none := by
  have e : k = s.size := by omega
  rw [List.drop_of_length_le (by rw [len_str]; exact h), e]; rfl
theorem last_cons {r : List UInt8} {c : Int} (h : lastIs (123 :: r) c = true) (hc : c ≠ 123) : ∃ a q, r = a :: q := by
  cases r with
  | nil => exfalso; simp [lastIs, at_] at h; exact hc h.symm
  | cons a q => exact ⟨a, q, rfl⟩
theorem opened_ok {c : Int} {o : List UInt8} {x : Int × List UInt8} {k n : Nat} (h : opened c o = some x) (ho : o.length ≤ k + 1) (hp : ∃ r, o = 123 :: r) (hn : n ≤ 8) : (⟨x.1, x.2, n⟩ : St).ok (k + 1) := by
  obtain ⟨r, rfl⟩ := hp
  unfold opened at h
  by_cases b1 : c = 43 ∨ c = 45
  · rw [if_pos b1] at h; cases h; exact ⟨hn, by simp at ho ⊢; omega, by simp⟩
  rw [if_neg b1] at h
  by_cases b2 : c = 114 ∨ c = 119
  · rw [if_pos b2] at h; cases h; exact ⟨hn, by simp at ho ⊢; omega, by simp⟩
  rw [if_neg b2] at h
  by_cases b3 : c = 60 ∨ c = 62 ∨ c = 122 ∨ up c = true
  · rw [if_pos b3] at h; cases h; exact ⟨hn, by simp at ho ⊢; omega, by simp⟩
  rw [if_neg b3] at h
  by_cases b4 : c = 40
  · rw [if_pos b4] at h; cases h; exact ⟨hn, by simp at ho ⊢; omega, by simp⟩
  rw [if_neg b4] at h
  by_cases b5 : c = 91
  · rw [if_pos b5] at h; cases h; exact ⟨hn, by simp at ho ⊢; omega, by simp⟩
  rw [if_neg b5] at h
  by_cases b6 : c = 124 ∧ lastIs (123 :: r) 40 = true
  · obtain ⟨a, q, rfl⟩ := last_cons b6.2 (by decide)
    rw [if_pos b6] at h; cases h; exact ⟨hn, by simp at ho ⊢; omega, by simp⟩
  rw [if_neg b6] at h
  by_cases b7 : c = 41 ∧ lastIs (123 :: r) 124 = true
  · obtain ⟨a, q, rfl⟩ := last_cons b7.2 (by decide)
    rw [if_pos b7] at h; cases h; exact ⟨hn, by simp at ho ⊢; omega, by simp⟩
  rw [if_neg b7] at h
  by_cases b8 : c = 93 ∧ lastIs (123 :: r) 91 = true
  · obtain ⟨a, q, rfl⟩ := last_cons b8.2 (by decide)
    rw [if_pos b8] at h; cases h; exact ⟨hn, by simp at ho ⊢; omega, by simp⟩
  rw [if_neg b8] at h
  by_cases b9 : c = 125 ∧ lastIs (123 :: r) 123 = true
  · rw [if_pos b9] at h; cases h; exact ⟨hn, by simp, by simp⟩
  rw [if_neg b9] at h
  cases h
end Wd
end Go.Proofs.Ytecmfdkhcffpmaa
/- The plain functions, more: how long bodies are, unfolded; which names stand where. -/
namespace Go.Proofs.Ytecmfdkhcffpmaa
open Go.RowKit
namespace Wd
/-- How long a body is, unfolded, by the functions' lengths; more than 300 all the same. -/
def plus (of : Nat → Int) (n c : Int) : Int := if up c = true then n + of (c - 65).toNat else n + 1
def sizeFrom (of : Nat → Int) : List UInt8 → Int → Int
  | [], n => n
  | c :: r, n => if 300 < plus of n (bt c) then 301 else sizeFrom of r (plus of n (bt c))
def size (l : List UInt8) (of : Nat → Int) : Int := sizeFrom of l 0
theorem sizeFrom_step (of : Nat → Int) (s : ByteArray) (k : Nat) (n : Int) (h : k < s.size) : sizeFrom of (s.data.toList.drop k) n =
    if 300 < plus of n ((s[k].toNat : Nat) : Int) then 301 else sizeFrom of (s.data.toList.drop (k + 1)) (plus of n ((s[k].toNat : Nat) : Int)) := by
  rw [drop_cons s k h]; rfl
theorem sizeFrom_end (of : Nat → Int) (s : ByteArray) (k : Nat) (n : Int) (h : s.size ≤ k) : sizeFrom of (s.data.toList.drop k) n = n := by
  rw [List.drop_of_length_le (by rw [len_str]; exact h)]; rfl
theorem plus_lo (of : Nat → Int) (h0 : ∀ j, 0 ≤ of j) (n c : Int) (hn : 0 ≤ n) : 0 ≤ plus of n c := by
  have := h0 (c - 65).toNat
  unfold plus; split <;> omega
theorem sizeFrom_bd (of : Nat → Int) (h0 : ∀ j, 0 ≤ of j) (l : List UInt8) (n : Int) (hn : 0 ≤ n) (hn' : n ≤ 301) : 0 ≤ sizeFrom of l n ∧ sizeFrom of l n ≤ 301 := by
  induction l generalizing n with
  | nil => exact ⟨hn, hn'⟩
  | cons c r ih =>
    unfold sizeFrom
    have := plus_lo of h0 n (bt c) hn
    split
    · omega
    · exact ih _ this (by omega)
theorem size_bd (of : Nat → Int) (h0 : ∀ j, 0 ≤ of j) (l : List UInt8) : 0 ≤ size l of ∧ size l of ≤ 301 := sizeFrom_bd of h0 l 0 (by omega) (by omega)
theorem head_some {l : List UInt8} {c : Int} {i : Nat} (h : head l c = some i) : i + 1 < l.length ∧ at_ l i = c := by
  unfold head first at h
  have := List.find?_some h
  simp [headP, heads] at this
  exact ⟨this.1.1, this.2⟩
/-- The functions' lengths, one round more. -/
def sizesStep (l : List UInt8) (of : Nat → Int) (f : Nat) : Int :=
  match head l (65 + (f : Int)) with
  | some i => size (body l i) of
  | none => of f
def sizesN (l : List UInt8) : Nat → Nat → Int
  | 0 => fun _ => 0
  | k + 1 => fun f => sizesStep l (sizesN l k) f
theorem sizesN_bd (l : List UInt8) (k f : Nat) : 0 ≤ sizesN l k f ∧ sizesN l k f ≤ 301 := by
  induction k generalizing f with
  | zero => exact ⟨by simp [sizesN], by simp [sizesN]⟩
  | succ k ih =>
    simp only [sizesN, sizesStep]
    split
    · exact size_bd _ (fun j => (ih j).1) _
    · exact ih f
/-- Eight numbers in memory. -/
def arr8 (of : Nat → Int) : Array Value := #[.int .i64 (of 0), .int .i64 (of 1), .int .i64 (of 2), .int .i64 (of 3), .int .i64 (of 4), .int .i64 (of 5), .int .i64 (of 6), .int .i64 (of 7)]
theorem arr8_size (of : Nat → Int) : (arr8 of).size = 8 := rfl
theorem arr8_at (of : Nat → Int) (j : Nat) (h : j < 8) : (arr8 of)[j]? = some (.int .i64 (of j)) := by
  match j, h with
  | 0, _ | 1, _ | 2, _ | 3, _ | 4, _ | 5, _ | 6, _ | 7, _ => rfl
theorem arr8_set (of : Nat → Int) (f : Nat) (v : Int) (h : f < 8) : (arr8 of).setIfInBounds f (.int .i64 v) = arr8 (fun j => if j = f then v else of j) := by
  match f, h with
  | 0, _ | 1, _ | 2, _ | 3, _ | 4, _ | 5, _ | 6, _ | 7, _ => simp [arr8]
theorem arr8_congr {a b : Nat → Int} (h : ∀ j, j < 8 → a j = b j) : arr8 a = arr8 b := by
  simp [arr8, h]
theorem arr8_one (of : Nat → Int) : (arr8 of).all (·.oneCell') = true := by simp [arr8, Value.oneCell']
end Wd
end Go.Proofs.Ytecmfdkhcffpmaa
/- The plain functions, more: which names stand in which function's body; does a function come back to itself. -/
namespace Go.Proofs.Ytecmfdkhcffpmaa
open Go.RowKit
set_option linter.unusedSimpArgs false
set_option linter.unusedVariables false
namespace Wd
/-- Sixty-four truth values in memory. -/
def arr64 (b : Nat → Bool) : Array Value := ((List.range 64).map fun j => Value.bool (b j)).toArray
theorem arr64_size (b : Nat → Bool) : (arr64 b).size = 64 := by simp [arr64]
theorem arr64_at (b : Nat → Bool) (j : Nat) (h : j < 64) : (arr64 b)[j]? = some (.bool (b j)) := by
  simp [arr64, h]
theorem arr64_congr {a b : Nat → Bool} (h : ∀ j, j < 64 → a j = b j) : arr64 a = arr64 b := by
  unfold arr64
  congr 1
  apply List.map_congr_left
  intro j hj
  rw [h j (by simpa using hj)]
theorem arr64_set (b : Nat → Bool) (f : Nat) (v : Bool) (h : f < 64) : (arr64 b).setIfInBounds f (.bool v) = arr64 (fun j => if j = f then v else b j) := by
  apply Array.ext
  · simp [arr64]
  · intro i h1 h2
    rw [Array.getElem_setIfInBounds]
    · simp [arr64]
      by_cases e : f = i
      · subst e; simp
      · simp [e, Ne.symm e, show ¬ i = f from fun x => e x.symm]
    · simpa [arr64] using h1
theorem arr64_one (b : Nat → Bool) : (arr64 b).all (·.oneCell') = true := by
  simp [arr64, Value.oneCell']
/-- Does the function g stand in a body? -/
def callRow (b : List UInt8) (g : Nat) : Bool := b.any fun c => bt c == 65 + (g : Int)
def calls (l : List UInt8) (f g : Nat) : Bool :=
  match head l (65 + (f : Int)) with
  | some i => callRow (body l i) g
  | none => false
def callsTo (l : List UInt8) (n j : Nat) : Bool := decide (j / 8 < n) && calls l (j / 8) (j % 8)
def callsIn (l b : List UInt8) (f k j : Nat) : Bool := if j / 8 = f then callRow (b.take k) (j % 8) else callsTo l f j
theorem callRow_snoc (s : ByteArray) (k g : Nat) (h : k < s.size) : callRow (s.data.toList.take (k + 1)) g = (callRow (s.data.toList.take k) g || (((s[k].toNat : Nat) : Int) == 65 + (g : Int))) := by
  rw [List.take_succ_eq_append_getElem (by rw [len_str]; exact h)]
  simp [callRow, bt]
  rfl
def upd (b : Nat → Bool) (k i j : Nat) : Nat → Bool := fun x => if x = i * 8 + j then (b x || (b (i * 8 + k) && b (k * 8 + j))) else b x
def jLoop (b : Nat → Bool) (k i : Nat) : Nat → Nat → Bool
  | 0 => b
  | j + 1 => upd (jLoop b k i j) k i j
def iLoop (b : Nat → Bool) (k : Nat) : Nat → Nat → Bool
  | 0 => b
  | i + 1 => jLoop (iLoop b k i) k i 8
def kLoop (b : Nat → Bool) : Nat → Nat → Bool
  | 0 => b
  | k + 1 => iLoop (kLoop b k) k 8
def round (l : List UInt8) : Bool := (first (fun i => kLoop (callsTo l 8) 8 (i * 8 + i)) 8).isSome
end Wd
end Go.Proofs.Ytecmfdkhcffpmaa
/- The plain functions, more: where the threads and handlers begin; the document's answer to Check. -/
namespace Go.Proofs.Ytecmfdkhcffpmaa
open Go.RowKit
set_option linter.unusedSimpArgs false
set_option linter.unusedVariables false
namespace Wd
def startP (l : List UInt8) (i : Nat) : Bool := heads l i && (at_ l i == 116 || at_ l i == 104)
def startsTo (l : List UInt8) (k : Nat) : List Nat := (List.range k).filter (startP l)
def starts (l : List UInt8) : List Nat := startsTo l l.length
theorem startsTo_yes {l : List UInt8} {k : Nat} (h : startP l k = true) : startsTo l (k + 1) = startsTo l k ++ [k] := by
  simp [startsTo, List.range_succ, List.filter_append, h]
theorem startsTo_no {l : List UInt8} {k : Nat} (h : startP l k = false) : startsTo l (k + 1) = startsTo l k := by
  simp [startsTo, List.range_succ, List.filter_append, h]
theorem startsTo_len (l : List UInt8) (k : Nat) : (startsTo l k).length ≤ k := by
  have := List.length_filter_le (startP l) (List.range k)
  simpa [startsTo] using this
theorem starts_mem {l : List UInt8} {i : Nat} (h : i ∈ starts l) : i + 1 < l.length := by
  simp [starts, startsTo, startP, heads] at h
  exact h.2.1.1
/-- The numbers of the threads and handlers in memory. -/
def intsV (l : List Nat) : List Value := l.map fun (i : Nat) => Value.int .i64 (i : Int)
/-- The number of the first thread or handler that is too long, unfolded. -/
def bigR (l : List UInt8) : Option Nat := first (fun k => decide (300 < size (body l ((starts l).getD k 0)) (sizesN l 8))) (starts l).length
/-- The document's answer to Check: the error and the place. -/
def checkR (l : List UInt8) : Int × Int :=
  if 240 < l.length then (1, 0)
  else match place l with
    | some i => (2, (i : Int))
    | none => match misnamed l with
      | some i => (3, (i : Int))
      | none => if round l = true then (4, 0) else match bigR l with
        | some i => (5, (i : Int))
        | none => (0, 0)
theorem checkR_long {l : List UInt8} (h : 240 < l.length) : checkR l = (1, 0) := by simp [checkR, h]
theorem checkR_text {l : List UInt8} (h : ¬ 240 < l.length) {i : Nat} (h1 : place l = some i) : checkR l = (2, (i : Int)) := by simp only [checkR, if_neg h, h1]
theorem checkR_name {l : List UInt8} (h : ¬ 240 < l.length) {i : Nat} (h1 : place l = none) (h2 : misnamed l = some i) : checkR l = (3, (i : Int)) := by simp only [checkR, if_neg h, h1, h2]
theorem checkR_round {l : List UInt8} (h : ¬ 240 < l.length) (h1 : place l = none) (h2 : misnamed l = none) (h3 : round l = true) : checkR l = (4, 0) := by simp only [checkR, if_neg h, h1, h2, if_pos h3]
theorem checkR_big {l : List UInt8} (h : ¬ 240 < l.length) (h1 : place l = none) (h2 : misnamed l = none) (h3 : round l = false) {i : Nat} (h4 : bigR l = some i) : checkR l = (5, (i : Int)) := by simp [checkR, if_neg h, h1, h2, h3, h4]
theorem checkR_ok {l : List UInt8} (h : ¬ 240 < l.length) (h1 : place l = none) (h2 : misnamed l = none) (h3 : round l = false) (h4 : bigR l = none) : checkR l = (0, 0) := by simp [checkR, if_neg h, h1, h2, h3, h4]
end Wd
end Go.Proofs.Ytecmfdkhcffpmaa
/- The plain functions of the program's reader of the form. -/
namespace Go.Proofs.Ytecmfdkhcffpmaa
open Go.RowKit
set_option linter.unusedSimpArgs false
set_option linter.unusedVariables false
namespace Wd
/-- What is open innermost is taken away, if it is that byte. -/
def shut (o : List UInt8) (c : Int) : Option (List UInt8) := if 0 < o.length ∧ at_ o (o.length - 1) = c then some (o.take (o.length - 1)) else none
def bodyP (st : St) (c : Int) : Option St :=
  if c = 43 ∨ c = 45 then some ⟨3, st.op, st.items⟩
  else if c = 114 ∨ c = 119 then some ⟨4, st.op, st.items⟩
  else if c = 60 ∨ c = 62 ∨ c = 122 then some st
  else if c = 40 then some ⟨st.want, st.op ++ [40], st.items⟩
  else if c = 91 then some ⟨st.want, st.op ++ [91], st.items⟩
  else if c = 124 then (match shut st.op 40 with | some o => some ⟨st.want, o ++ [124], st.items⟩ | none => none)
  else if c = 41 then (match shut st.op 124 with | some o => some ⟨st.want, o, st.items⟩ | none => none)
  else if c = 93 then (match shut st.op 91 with | some o => some ⟨st.want, o, st.items⟩ | none => none)
  else if c = 125 then (if st.op.length = 0 then some ⟨0, st.op, st.items⟩ else none)
  else if up c = true then some st else none
def stepP (st : St) (c : Int) : Option St :=
  if st.want = 0 then (if st.items < 8 ∧ (c = 116 ∨ c = 104 ∨ up c = true) then some ⟨1, st.op, st.items + 1⟩ else none)
  else if st.want = 1 then (if c = 123 then some ⟨2, st.op, st.items⟩ else none)
  else if st.want = 3 then (if lk c = true then some ⟨2, st.op, st.items⟩ else none)
  else if st.want = 4 then (if cl c = true then some ⟨2, st.op, st.items⟩ else none)
  else bodyP st c
def faultFrom : List UInt8 → Nat → St → Option Nat
  | [], i, st => if st.want ≠ 0 ∨ st.items = 0 then some i else none
  | c :: r, i, st => match stepP st (bt c) with
    | none => some i
    | some st' => faultFrom r (i + 1) st'
def fault (l : List UInt8) : Option Nat := faultFrom l 0 ⟨0, [], 0⟩
theorem faultFrom_step (s : ByteArray) (k : Nat) (st : St) (h : k < s.size) : faultFrom (s.data.toList.drop k) k st = match stepP st ((s[k].toNat : Nat) : Int) with | none => some k | some st' => faultFrom (s.data.toList.drop (k + 1)) (k + 1) st' := by
  rw [drop_cons s k h]; rfl
theorem faultFrom_end (s : ByteArray) (k : Nat) (st : St) (h : s.size ≤ k) (hk : k ≤ s.size) : faultFrom (s.data.toList.drop k) k st = if st.want ≠ 0 ∨ st.items = 0 then some s.size else none := by
  have e : k = s.size := by omega
  rw [List.drop_of_length_le (by rw [len_str]; exact h), e]; rfl
/-- Bytes in memory. -/
def bytesV (l : List UInt8) : List Value := l.map fun c => Value.int .u8 (bt c)
theorem bytesV_len (l : List UInt8) : (bytesV l).length = l.length := by simp [bytesV]
theorem bytesV_at (l : List UInt8) (j : Nat) (h : j < l.length) : (bytesV l)[j]? = some (.int .u8 (at_ l j)) := by
  simp [bytesV, at_, bt, h]
end Wd
end Go.Proofs.Ytecmfdkhcffpmaa
