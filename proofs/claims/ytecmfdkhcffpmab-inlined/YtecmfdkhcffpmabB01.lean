/- Pure, Pure2, Pure3, Pure5, Pure6, Pure7, Pure8, Pure9. -/
import Derived.Below
import Derived.Laws.Tables
import Derived.Laws.Rows
/- The plain functions: what the program's and the document's functions compute, over integers and lists of bytes. Nothing of the translation is imported. -/
namespace Go.Proofs.Ytecmfdkhcffpmab
open Go.RowKit
theorem hide {p : Prop} (h : p) : Hid p := h
theorem ret_int {k : IntKind} {a b : Int} (h : a = b) : Ending.returned (.int k a) = .returned (.int k b) := by rw [h]
namespace Wd
def up (n : Int) : Bool := decide (65 ≤ n ∧ n ≤ 72)
def lk (n : Int) : Bool := decide (97 ≤ n ∧ n ≤ 102)
def cl (n : Int) : Bool := decide (48 ≤ n ∧ n ≤ 51)
/-- The byte at a place, as a number; behind the end 0. -/
def at_ (l : List UInt8) (i : Nat) : Int := ((l[i]?.getD 0).toNat : Int)
theorem at_lo (l : List UInt8) (i : Nat) : 0 ≤ at_ l i := by unfold at_; omega
theorem at_hi (l : List UInt8) (i : Nat) : at_ l i ≤ 255 := by
  unfold at_; have := (l[i]?.getD 0).toNat_lt; omega
theorem at_str (s : ByteArray) (i : Nat) (h : i < s.size) : ((s[i].toNat : Nat) : Int) = at_ s.data.toList i := by
  have h' : i < s.data.size := h
  unfold at_
  rw [Array.getElem?_toList, Array.getElem?_eq_getElem h']
  rfl
theorem len_str (s : ByteArray) : s.data.toList.length = s.size := Array.length_toList
def heads (l : List UInt8) (i : Nat) : Bool := decide (i + 1 < l.length) && (at_ l (i + 1) == 123)
/-- The first place below n at which p answers yes. -/
def first (p : Nat → Bool) (n : Nat) : Option Nat := (List.range n).find? p
def toInt : Option Nat → Int
  | some i => (i : Int)
  | none => -1
theorem first_yes {p : Nat → Bool} {n k : Nat} (hk : k < n) (hp : p k = true) (hb : ∀ j, j < k → p j = false) : first p n = some k := by
  unfold first
  rw [List.find?_range_eq_some]
  exact ⟨hp, by simpa using hk, fun j hj => by simp [hb j hj]⟩
theorem first_no {p : Nat → Bool} {n : Nat} (hb : ∀ j, j < n → p j = false) : first p n = none := by
  unfold first
  rw [List.find?_range_eq_none]
  exact fun j hj => by simp [hb j hj]
def headP (l : List UInt8) (c : Int) (i : Nat) : Bool := heads l i && (at_ l i == c)
def head (l : List UInt8) (c : Int) : Option Nat := first (headP l c) l.length
def body (l : List UInt8) (i : Nat) : List UInt8 := (l.drop (i + 2)).takeWhile (fun c => !(((c.toNat : Nat) : Int) == 125))
theorem extract_str (s : ByteArray) (a b : Nat) : (s.extract a b).data.toList = (s.data.toList.drop a).take (b - a) := by
  rw [ByteArray.data_extract, Array.toList_extract, List.extract_eq_take_drop]
/-- What is open, innermost last, and a byte in a body: what is to come, what is open then; none: it can't stand there. -/
def lastIs (o : List UInt8) (c : Int) : Bool := at_ o (o.length - 1) == c
def opened (c : Int) (o : List UInt8) : Option (Int × List UInt8) :=
  if c = 43 ∨ c = 45 then some (3, o)
  else if c = 114 ∨ c = 119 then some (4, o)
  else if c = 60 ∨ c = 62 ∨ c = 122 ∨ up c = true then some (2, o)
  else if c = 40 then some (2, o ++ [40])
  else if c = 91 then some (2, o ++ [91])
  else if c = 124 ∧ lastIs o 40 = true then some (2, o.take (o.length - 1) ++ [124])
  else if c = 41 ∧ lastIs o 124 = true then some (2, o.take (o.length - 1))
  else if c = 93 ∧ lastIs o 91 = true then some (2, o.take (o.length - 1))
  else if c = 125 ∧ lastIs o 123 = true then some (0, [])
  else none
/-- A reader of the form: what is to come (0 an item, 1 a brace, 2 in a body, 3 a lock, 4 a cell), what is open, how many items have begun. -/
structure St where
  want : Int
  op : List UInt8
  items : Nat
def St.ok (st : St) (k : Nat) : Prop := st.items ≤ 8 ∧ st.op.length ≤ k + 1 ∧ (st.want = 0 ∨ st.want = 1 ∨ ((st.want = 2 ∨ st.want = 3 ∨ st.want = 4) ∧ ∃ r, st.op = 123 :: r))
def stepR (st : St) (c : Int) : Option St :=
  if st.want = 0 then (if st.items < 8 ∧ (c = 116 ∨ c = 104 ∨ up c = true) then some ⟨1, st.op, st.items + 1⟩ else none)
  else if st.want = 1 then (if c = 123 then some ⟨2, [123], st.items⟩ else none)
  else if st.want = 3 then (if lk c = true then some ⟨2, st.op, st.items⟩ else none)
  else if st.want = 4 then (if cl c = true then some ⟨2, st.op, st.items⟩ else none)
  else (match opened c st.op with | some x => some ⟨x.1, x.2, st.items⟩ | none => none)
def bt (c : UInt8) : Int := ((c.toNat : Nat) : Int)
/-- Of the rest of a text, from the place i and the state on: the first byte that can't stand there, or the end. -/
def placeFrom : List UInt8 → Nat → St → Option Nat
  | [], i, st => if st.want ≠ 0 ∨ st.items = 0 then some i else none
  | c :: r, i, st => match stepR st (bt c) with
    | none => some i
    | some st' => placeFrom r (i + 1) st'
def place (l : List UInt8) : Option Nat := placeFrom l 0 ⟨0, [], 0⟩
theorem drop_cons (s : ByteArray) (k : Nat) (h : k < s.size) : s.data.toList.drop k = s[k] :: s.data.toList.drop (k + 1) := by
  have h' : k < s.data.toList.length := by rw [len_str]; exact h
  rw [List.drop_eq_getElem_cons h']
  rfl
end Wd
end Go.Proofs.Ytecmfdkhcffpmab
/- The plain functions, more: how long bodies are, unfolded; which names stand where. -/
namespace Go.Proofs.Ytecmfdkhcffpmab
open Go.RowKit
namespace Wd
/-- How long a body is, unfolded, by the functions' lengths; more than 300 all the same. -/
def plus (of : Nat → Int) (n c : Int) : Int := if up c = true then n + of (c - 65).toNat else n + 1
def sizeFrom (of : Nat → Int) : List UInt8 → Int → Int
  | [], n => n
  | c :: r, n => if 300 < plus of n (bt c) then 301 else sizeFrom of r (plus of n (bt c))
def size (l : List UInt8) (of : Nat → Int) : Int := sizeFrom of l 0
end Wd
end Go.Proofs.Ytecmfdkhcffpmab
/- The plain functions, more: which names stand in which function's body; does a function come back to itself. -/
namespace Go.Proofs.Ytecmfdkhcffpmab
open Go.RowKit
set_option linter.unusedSimpArgs false
set_option linter.unusedVariables false
namespace Wd
/-- Does the function g stand in a body? -/
def callRow (b : List UInt8) (g : Nat) : Bool := b.any fun c => bt c == 65 + (g : Int)
def calls (l : List UInt8) (f g : Nat) : Bool :=
  match head l (65 + (f : Int)) with
  | some i => callRow (body l i) g
  | none => false
def callsTo (l : List UInt8) (n j : Nat) : Bool := decide (j / 8 < n) && calls l (j / 8) (j % 8)
def upd (b : Nat → Bool) (k i j : Nat) : Nat → Bool := fun x => if x = i * 8 + j then (b x || (b (i * 8 + k) && b (k * 8 + j))) else b x
def jLoop (b : Nat → Bool) (k i : Nat) : Nat → Nat → Bool
  | 0 => b
  | j + 1 => upd (jLoop b k i j) k i j
def iLoop (b : Nat → Bool) (k : Nat) : Nat → Nat → Bool
  | 0 => b
  | i + 1 => jLoop (iLoop b k i) k i 8
def kLoop (b : Nat → Bool) : Nat → Nat → Bool
  | 0 => b
  | k + 1 => iLoop (kLoop b k) k 8
def round (l : List UInt8) : Bool := (first (fun i => kLoop (callsTo l 8) 8 (i * 8 + i)) 8).isSome
end Wd
end Go.Proofs.Ytecmfdkhcffpmab
/- The plain functions of the program's reader of the form. -/
namespace Go.Proofs.Ytecmfdkhcffpmab
open Go.RowKit
set_option linter.unusedSimpArgs false
set_option linter.unusedVariables false
namespace Wd
/-- What is open innermost is taken away, if it is that byte. -/
def shut (o : List UInt8) (c : Int) : Option (List UInt8) := if 0 < o.length ∧ at_ o (o.length - 1) = c then some (o.take (o.length - 1)) else none
def bodyP (st : St) (c : Int) : Option St :=
  if c = 43 ∨ c = 45 then some ⟨3, st.op, st.items⟩
  else if c = 114 ∨ c = 119 then some ⟨4, st.op, st.items⟩
  else if c = 60 ∨ c = 62 ∨ c = 122 then some st
  else if c = 40 then some ⟨st.want, st.op ++ [40], st.items⟩
  else if c = 91 then some ⟨st.want, st.op ++ [91], st.items⟩
  else if c = 124 then (match shut st.op 40 with | some o => some ⟨st.want, o ++ [124], st.items⟩ | none => none)
  else if c = 41 then (match shut st.op 124 with | some o => some ⟨st.want, o, st.items⟩ | none => none)
  else if c = 93 then (match shut st.op 91 with | some o => some ⟨st.want, o, st.items⟩ | none => none)
  else if c = 125 then (if st.op.length = 0 then some ⟨0, st.op, st.items⟩ else none)
  else if up c = true then some st else none
def stepP (st : St) (c : Int) : Option St :=
  if st.want = 0 then (if st.items < 8 ∧ (c = 116 ∨ c = 104 ∨ up c = true) then some ⟨1, st.op, st.items + 1⟩ else none)
  else if st.want = 1 then (if c = 123 then some ⟨2, st.op, st.items⟩ else none)
  else if st.want = 3 then (if lk c = true then some ⟨2, st.op, st.items⟩ else none)
  else if st.want = 4 then (if cl c = true then some ⟨2, st.op, st.items⟩ else none)
  else bodyP st c
def faultFrom : List UInt8 → Nat → St → Option Nat
  | [], i, st => if st.want ≠ 0 ∨ st.items = 0 then some i else none
  | c :: r, i, st => match stepP st (bt c) with
    | none => some i
    | some st' => faultFrom r (i + 1) st'
def fault (l : List UInt8) : Option Nat := faultFrom l 0 ⟨0, [], 0⟩
theorem faultFrom_step (s : ByteArray) (k : Nat) (st : St) (h : k < s.size) : faultFrom (s.data.toList.drop k) k st = match stepP st ((s[k].toNat : Nat) : Int) with | none => some k | some st' => faultFrom (s.data.toList.drop (k + 1)) (k + 1) st' := by
  rw [drop_cons s k h]; rfl
theorem faultFrom_end (s : ByteArray) (k : Nat) (st : St) (h : s.size ≤ k) (hk : k ≤ s.size) : faultFrom (s.data.toList.drop k) k st = if st.want ≠ 0 ∨ st.items = 0 then some s.size else none := by
  have e : k = s.size := by omega
  rw [List.drop_of_length_le (by rw [len_str]; exact h), e]; rfl
/-- Bytes in memory. -/
def bytesV (l : List UInt8) : List Value := l.map fun c => Value.int .u8 (bt c)
theorem bytesV_len (l : List UInt8) : (bytesV l).length = l.length := by simp [bytesV]
theorem bytesV_at (l : List UInt8) (j : Nat) (h : j < l.length) : (bytesV l)[j]? = some (.int .u8 (at_ l j)) := by
  simp [bytesV, at_, bt, h]
end Wd
end Go.Proofs.Ytecmfdkhcffpmab
/- The plain functions of the program's taking apart: parts, functions, and how they lie in memory. -/
namespace Go.Proofs.Ytecmfdkhcffpmab
open Go.RowKit
set_option linter.unusedSimpArgs false
set_option linter.unusedVariables false
namespace Wd
def mkS (l : List UInt8) : ByteArray := ⟨l.toArray⟩
theorem mkS_list (l : List UInt8) : (mkS l).data.toList = l := rfl
theorem mkS_size (l : List UInt8) : (mkS l).size = l.length := by simp [mkS, ByteArray.size]
structure Part where
  letter : Int
  pos : Nat
  body : List UInt8
def partV (p : Part) : List Value := [.int .u8 p.letter, .int .i64 (p.pos : Int), .string (mkS p.body)]
def partsV (ps : List Part) : List Value := ps.flatMap partV
theorem partsV_snoc (ps : List Part) (p : Part) : partsV (ps ++ [p]) = partsV ps ++ partV p := by simp [partsV]
structure Fn where
  there : Bool
  body : List UInt8
  done : Bool
  fits : Bool
  text : List UInt8
def fn0 : Fn := ⟨false, [], false, false, []⟩
def fnV (f : Fn) : List Value := [.bool f.there, .string (mkS f.body), .bool f.done, .bool f.fits, .string (mkS f.text)]
/-- The program in memory: the slice of its parts, and eight functions of five cells. -/
def pgA (v : Value) (F : Nat → Fn) : Array Value :=
  #[v, .bool (F 0).there, .string (mkS (F 0).body), .bool (F 0).done, .bool (F 0).fits, .string (mkS (F 0).text),
    .bool (F 1).there, .string (mkS (F 1).body), .bool (F 1).done, .bool (F 1).fits, .string (mkS (F 1).text),
    .bool (F 2).there, .string (mkS (F 2).body), .bool (F 2).done, .bool (F 2).fits, .string (mkS (F 2).text),
    .bool (F 3).there, .string (mkS (F 3).body), .bool (F 3).done, .bool (F 3).fits, .string (mkS (F 3).text),
    .bool (F 4).there, .string (mkS (F 4).body), .bool (F 4).done, .bool (F 4).fits, .string (mkS (F 4).text),
    .bool (F 5).there, .string (mkS (F 5).body), .bool (F 5).done, .bool (F 5).fits, .string (mkS (F 5).text),
    .bool (F 6).there, .string (mkS (F 6).body), .bool (F 6).done, .bool (F 6).fits, .string (mkS (F 6).text),
    .bool (F 7).there, .string (mkS (F 7).body), .bool (F 7).done, .bool (F 7).fits, .string (mkS (F 7).text)]
theorem pgA_at (v : Value) (F : Nat → Fn) (i k : Nat) (hi : i < 8) (u : Value) (hk : (fnV (F i))[k]? = some u) : (pgA v F)[1 + i * 5 + k]? = some u := by
  have hk5 : k < 5 := (List.getElem?_eq_some_iff.1 hk).1
  match i, hi with
  | 0, _ | 1, _ | 2, _ | 3, _ | 4, _ | 5, _ | 6, _ | 7, _ =>
    match k, hk5 with
    | 0, _ | 1, _ | 2, _ | 3, _ | 4, _ => exact hk
theorem pgA_set (v : Value) (F : Nat → Fn) (i : Nat) (f : Fn) (hi : i < 8) :
    (((((pgA v F).setIfInBounds (1 + i * 5) (.bool f.there)).setIfInBounds (1 + i * 5 + 1) (.string (mkS f.body))).setIfInBounds (1 + i * 5 + 2) (.bool f.done)).setIfInBounds (1 + i * 5 + 3) (.bool f.fits)).setIfInBounds (1 + i * 5 + 4) (.string (mkS f.text))
      = pgA v (fun j => if j = i then f else F j) := by
  match i, hi with
  | 0, _ | 1, _ | 2, _ | 3, _ | 4, _ | 5, _ | 6, _ | 7, _ => simp [pgA]
theorem pgA_slice (v v' : Value) (F : Nat → Fn) : (pgA v F).setIfInBounds 0 v' = pgA v' F := by simp [pgA]
/-- A part is added. -/
def addF (F : Nat → Fn) (p : Part) : Nat → Fn := if up p.letter = true then (fun j => if j = (p.letter - 65).toNat then ⟨true, p.body, false, false, []⟩ else F j) else F
end Wd
end Go.Proofs.Ytecmfdkhcffpmab
/- The plain functions of the program's taking apart: split, names, unfolding. -/
namespace Go.Proofs.Ytecmfdkhcffpmab
open Go.RowKit
set_option linter.unusedSimpArgs false
set_option linter.unusedVariables false
namespace Wd
structure Sp where
  begin : Nat
  ps : List Part
  F : Nat → Fn
def partOf (l : List UInt8) (b i : Nat) : Part := ⟨at_ l b, b, (l.drop (b + 2)).take (i - (b + 2))⟩
def splitStep (l : List UInt8) (st : Sp) (i : Nat) : Sp := if at_ l i = 125 ∧ st.begin + 2 ≤ i then ⟨i + 1, st.ps ++ [partOf l st.begin i], addF st.F (partOf l st.begin i)⟩ else st
def splitTo (l : List UInt8) : Nat → Sp
  | 0 => ⟨0, [], fun _ => fn0⟩
  | k + 1 => splitStep l (splitTo l k) k
theorem splitTo_begin (l : List UInt8) (k : Nat) : (splitTo l k).begin ≤ k := by
  induction k with
  | zero => simp [splitTo]
  | succ k ih => simp only [splitTo, splitStep]; split <;> (try simp) <;> omega
theorem splitTo_len (l : List UInt8) (k : Nat) : (splitTo l k).ps.length ≤ k := by
  induction k with
  | zero => simp [splitTo]
  | succ k ih => simp only [splitTo, splitStep]; split <;> (try simp) <;> omega
def split (l : List UInt8) : Sp := splitTo l l.length
def unkP (F : Nat → Fn) (l : List UInt8) (i : Nat) : Bool := up (at_ l i) && !(F (at_ l i - 65).toNat).there
def unknown (F : Nat → Fn) (l : List UInt8) : Option Nat := first (unkP F l) l.length
def undoneP (F : Nat → Fn) (l : List UInt8) (i : Nat) : Bool := up (at_ l i) && !(F (at_ l i - 65).toNat).done
def allDone (F : Nat → Fn) (l : List UInt8) : Bool := (first (undoneP F l) l.length).isNone
/-- A body unfolded behind what there is, by the texts of functions; none: it does not fit. -/
def unf (F : Nat → Fn) : List UInt8 → List UInt8 → Option (List UInt8)
  | [], acc => some acc
  | c :: r, acc =>
    if up (bt c) = true then
      (if (F (bt c - 65).toNat).fits = true then
        (if 300 < (acc ++ (F (bt c - 65).toNat).text).length then none else unf F r (acc ++ (F (bt c - 65).toNat).text))
      else none)
    else (if 300 < (acc ++ [c]).length then none else unf F r (acc ++ [c]))
def unfold (F : Nat → Fn) (l : List UInt8) : Option (List UInt8) := unf F l []
theorem unkP_str (F : Nat → Fn) (s : ByteArray) (k : Nat) (h : k < s.size) : unkP F s.data.toList k = (up ((s[k].toNat : Nat) : Int) && !(F (s[k].toNat - 65)).there) := by
  rw [unkP, ← at_str s k h, show (((s[k].toNat : Nat) : Int) - 65).toNat = s[k].toNat - 65 from by omega]
theorem undoneP_str (F : Nat → Fn) (s : ByteArray) (k : Nat) (h : k < s.size) : undoneP F s.data.toList k = (up ((s[k].toNat : Nat) : Int) && !(F (s[k].toNat - 65)).done) := by
  rw [undoneP, ← at_str s k h, show (((s[k].toNat : Nat) : Int) - 65).toNat = s[k].toNat - 65 from by omega]
theorem unf_step (F : Nat → Fn) (s : ByteArray) (k : Nat) (acc : List UInt8) (h : k < s.size) : unf F (s.data.toList.drop k) acc =
    if up ((s[k].toNat : Nat) : Int) = true then
      (if (F (s[k].toNat - 65)).fits = true then
        (if 300 < (acc ++ (F (s[k].toNat - 65)).text).length then none else unf F (s.data.toList.drop (k + 1)) (acc ++ (F (s[k].toNat - 65)).text))
      else none)
    else (if 300 < (acc ++ [s[k]]).length then none else unf F (s.data.toList.drop (k + 1)) (acc ++ [s[k]])) := by
  rw [drop_cons s k h, unf, show (bt s[k] - 65).toNat = s[k].toNat - 65 from by unfold bt; omega]; rfl
theorem unf_end (F : Nat → Fn) (s : ByteArray) (k : Nat) (acc : List UInt8) (h : s.size ≤ k) : unf F (s.data.toList.drop k) acc = some acc := by
  rw [List.drop_of_length_le (by rw [len_str]; exact h)]; rfl
end Wd
end Go.Proofs.Ytecmfdkhcffpmab
/- The plain functions of the program: names, functions unfolded, items; the program's answer to Check. -/
namespace Go.Proofs.Ytecmfdkhcffpmab
open Go.RowKit
set_option linter.unusedSimpArgs false
set_option linter.unusedVariables false
namespace Wd
theorem partsV_at (ps : List Part) (j k : Nat) (hj : j < ps.length) (hk : k < 3) : (partsV ps)[j * 3 + k]? = (partV ps[j])[k]? := by
  induction ps generalizing j with
  | nil => simp at hj
  | cons p r ih =>
    have e : partsV (p :: r) = partV p ++ partsV r := rfl
    rw [e]
    cases j with
    | zero =>
      rw [List.getElem?_append_left (by simp [partV]; omega)]
      simp
    | succ j =>
      rw [List.getElem?_append_right (by simp [partV]; omega)]
      have e2 : (j + 1) * 3 + k - (partV p).length = j * 3 + k := by simp [partV]; omega
      rw [e2, ih j (by simpa using hj)]
      simp
/-- Eight truth values in memory. -/
def arr8b (b : Nat → Bool) : Array Value := #[.bool (b 0), .bool (b 1), .bool (b 2), .bool (b 3), .bool (b 4), .bool (b 5), .bool (b 6), .bool (b 7)]
theorem arr8b_at (b : Nat → Bool) (j : Nat) (h : j < 8) : (arr8b b)[j]? = some (.bool (b j)) := by
  match j, h with
  | 0, _ | 1, _ | 2, _ | 3, _ | 4, _ | 5, _ | 6, _ | 7, _ => rfl
theorem arr8b_set (b : Nat → Bool) (f : Nat) (v : Bool) (h : f < 8) : (arr8b b).setIfInBounds f (.bool v) = arr8b (fun j => if j = f then v else b j) := by
  match f, h with
  | 0, _ | 1, _ | 2, _ | 3, _ | 4, _ | 5, _ | 6, _ | 7, _ => simp [arr8b]
/-- The first name that is there already or that no function has. -/
def namesFrom (F : Nat → Fn) : List Part → (Nat → Bool) → Option Nat
  | [], _ => none
  | p :: r, seen =>
    if up p.letter = true ∧ seen (p.letter - 65).toNat = true then some p.pos
    else match unknown F p.body with
      | some u => some (p.pos + 2 + u)
      | none => namesFrom F r (if up p.letter = true then (fun j => if j = (p.letter - 65).toNat then true else seen j) else seen)
def names (F : Nat → Fn) (ps : List Part) : Option Nat := namesFrom F ps (fun _ => false)
/-- A part as the reader leaves it: a byte, and short. -/
def Part.fine (p : Part) : Prop := 0 ≤ p.letter ∧ p.letter ≤ 255 ∧ p.pos ≤ 10000 ∧ p.body.length ≤ 10000
theorem first_lt {p : Nat → Bool} {n k : Nat} (h : first p n = some k) : k < n := by
  unfold first at h
  have := List.mem_of_find?_eq_some h
  simpa using this
theorem unknown_lt {F : Nat → Fn} {l : List UInt8} {k : Nat} (h : unknown F l = some k) : k < l.length := first_lt h
/-- A function unfolded, by the functions that there are. -/
def newFn (F : Nat → Fn) (f : Fn) : Fn := match unfold F f.body with
  | some x => ⟨f.there, f.body, true, true, x⟩
  | none => ⟨f.there, f.body, true, false, []⟩
def readyStep (F : Nat → Fn) (n : Nat) : Nat → Fn := if (F n).there = true ∧ (F n).done = false ∧ allDone F (F n).body = true then (fun j => if j = n then newFn F (F n) else F j) else F
def readyTo (F : Nat → Fn) : Nat → Nat → Fn
  | 0 => F
  | n + 1 => readyStep (readyTo F n) n
def roundsTo (F : Nat → Fn) : Nat → Nat → Fn
  | 0 => F
  | n + 1 => readyTo (roundsTo F n) 8
def FnFine (F : Nat → Fn) : Prop := ∀ j, (F j).text.length ≤ 300 ∧ (F j).body.length ≤ 10000
theorem unf_len (F : Nat → Fn) (l acc x : List UInt8) (ha : acc.length ≤ 300) (h : unf F l acc = some x) : x.length ≤ 300 := by
  induction l generalizing acc with
  | nil => simp [unf] at h; subst h; exact ha
  | cons c r ih =>
    unfold unf at h
    split at h
    · split at h
      · split at h
        · cases h
        · exact ih _ (by omega) h
      · cases h
    · split at h
      · cases h
      · exact ih _ (by omega) h
theorem newFn_fine {F : Nat → Fn} (h : FnFine F) (n : Nat) : (newFn F (F n)).text.length ≤ 300 ∧ (newFn F (F n)).body.length ≤ 10000 := by
  unfold newFn
  split
  · next x hx => exact ⟨unf_len F _ [] x (by simp) hx, (h n).2⟩
  · exact ⟨by simp, (h n).2⟩
theorem readyStep_fine {F : Nat → Fn} (h : FnFine F) (n : Nat) : FnFine (readyStep F n) := by
  intro j
  unfold readyStep
  split
  · by_cases e : j = n
    · subst e; simp only [if_true]; exact newFn_fine h j
    · simp only [e, if_false]; exact h j
  · exact h j
theorem readyTo_fine {F : Nat → Fn} (h : FnFine F) (n : Nat) : FnFine (readyTo F n) := by
  induction n with
  | zero => exact h
  | succ n ih => exact readyStep_fine ih n
theorem roundsTo_fine {F : Nat → Fn} (h : FnFine F) (n : Nat) : FnFine (roundsTo F n) := by
  induction n with
  | zero => exact h
  | succ n ih => exact readyTo_fine ih 8
/-- Is there a function that could not be unfolded? -/
def leftP (F : Nat → Fn) (j : Nat) : Bool := (F j).there && !(F j).done
def left (F : Nat → Fn) : Bool := (first (leftP F) 8).isSome
/-- A thread or handler, unfolded. -/
structure It where
  handler : Bool
  body : List UInt8
def itV (p : It) : List Value := [.bool p.handler, .string (mkS p.body)]
def itsV (ps : List It) : List Value := ps.flatMap itV
theorem itsV_snoc (ps : List It) (p : It) : itsV (ps ++ [p]) = itsV ps ++ itV p := by simp [itsV]
def itemsFrom (F : Nat → Fn) : List Part → List It → Except Nat (List It)
  | [], acc => .ok acc
  | p :: r, acc =>
    if up p.letter = true then itemsFrom F r acc
    else match unfold F p.body with
      | some x => itemsFrom F r (acc ++ [⟨p.letter == 104, x⟩])
      | none => .error acc.length
def items (F : Nat → Fn) (ps : List Part) : Except Nat (List It) := itemsFrom F ps []
end Wd
end Go.Proofs.Ytecmfdkhcffpmab
/- The plain function of the program's 'read': the error and the place, or the items. -/
namespace Go.Proofs.Ytecmfdkhcffpmab
open Go.RowKit
set_option linter.unusedSimpArgs false
set_option linter.unusedVariables false
namespace Wd
theorem partOf_fine (l : List UInt8) (b i : Nat) (hl : l.length ≤ 10000) (hb : b ≤ 10000) : (partOf l b i).fine := by
  refine ⟨at_lo _ _, at_hi _ _, hb, ?_⟩
  simp [partOf]; omega
theorem splitTo_fine (l : List UInt8) (hl : l.length ≤ 10000) (k : Nat) (hk : k ≤ 10000) : (∀ p ∈ (splitTo l k).ps, p.fine) ∧ FnFine (splitTo l k).F := by
  induction k with
  | zero => exact ⟨by simp [splitTo], fun j => by simp [splitTo, fn0]⟩
  | succ k ih =>
    obtain ⟨h1, h2⟩ := ih (by omega)
    have hb := splitTo_begin l k
    simp only [splitTo, splitStep]
    split
    · have hf := partOf_fine l (splitTo l k).begin k hl (by omega)
      refine ⟨?_, ?_⟩
      · intro p hp
        simp at hp
        rcases hp with hp | hp
        · exact h1 p hp
        · rw [hp]; exact hf
      · intro j
        simp only [addF]
        split
        · by_cases e : j = ((partOf l (splitTo l k).begin k).letter - 65).toNat
          · simp only [e, if_true]; exact ⟨by simp, hf.2.2.2⟩
          · simp only [e, if_false]; exact h2 j
        · exact h2 j
    · exact ⟨h1, h2⟩
def readP (l : List UInt8) : Except (Int × Int) (List It) :=
  if 240 < l.length then .error (1, 0)
  else match fault l with
    | some i => .error (2, (i : Int))
    | none => match names (split l).F (split l).ps with
      | some i => .error (3, (i : Int))
      | none => if left (roundsTo (split l).F 8) = true then .error (4, 0) else match items (roundsTo (split l).F 8) (split l).ps with
        | .error n => .error (5, (n : Int))
        | .ok its => .ok its
theorem readP_long {l : List UInt8} (h : 240 < l.length) : readP l = .error (1, 0) := by simp [readP, h]
theorem readP_text {l : List UInt8} (h : ¬ 240 < l.length) {i : Nat} (h1 : fault l = some i) : readP l = .error (2, (i : Int)) := by simp only [readP, if_neg h, h1]
theorem readP_name {l : List UInt8} (h : ¬ 240 < l.length) {i : Nat} (h1 : fault l = none) (h2 : names (split l).F (split l).ps = some i) : readP l = .error (3, (i : Int)) := by simp only [readP, if_neg h, h1, h2]
theorem readP_round {l : List UInt8} (h : ¬ 240 < l.length) (h1 : fault l = none) (h2 : names (split l).F (split l).ps = none) (h3 : left (roundsTo (split l).F 8) = true) : readP l = .error (4, 0) := by simp only [readP, if_neg h, h1, h2, if_pos h3]
theorem readP_big {l : List UInt8} (h : ¬ 240 < l.length) (h1 : fault l = none) (h2 : names (split l).F (split l).ps = none) (h3 : left (roundsTo (split l).F 8) = false) {n : Nat} (h4 : items (roundsTo (split l).F 8) (split l).ps = .error n) : readP l = .error (5, (n : Int)) := by simp [readP, if_neg h, h1, h2, h3, h4]
theorem readP_ok {l : List UInt8} (h : ¬ 240 < l.length) (h1 : fault l = none) (h2 : names (split l).F (split l).ps = none) (h3 : left (roundsTo (split l).F 8) = false) {its : List It} (h4 : items (roundsTo (split l).F 8) (split l).ps = .ok its) : readP l = .ok its := by simp [readP, if_neg h, h1, h2, h3, h4]
end Wd
end Go.Proofs.Ytecmfdkhcffpmab
