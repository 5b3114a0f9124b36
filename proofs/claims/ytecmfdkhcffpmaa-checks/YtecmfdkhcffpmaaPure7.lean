/- The plain functions of the program's taking apart: split, names, unfolding. -/
import Derived.Test.YtecmfdkhcffpmaaPure6
namespace Go.Proofs.Ytecmfdkhcffpmaa
open Go.RowKit
set_option linter.unusedSimpArgs false
set_option linter.unusedVariables false
namespace Wd
structure Sp where
  begin : Nat
  ps : List Part
  F : Nat → Fn
def partOf (l : List UInt8) (b i : Nat) : Part := ⟨at_ l b, b, (l.drop (b + 2)).take (i - (b + 2))⟩
def splitStep (l : List UInt8) (st : Sp) (i : Nat) : Sp := if at_ l i = 125 ∧ st.begin + 2 ≤ i then ⟨i + 1, st.ps ++ [partOf l st.begin i], addF st.F (partOf l st.begin i)⟩ else st
def splitTo (l : List UInt8) : Nat → Sp
  | 0 => ⟨0, [], fun _ => fn0⟩
  | k + 1 => splitStep l (splitTo l k) k
theorem splitTo_begin (l : List UInt8) (k : Nat) : (splitTo l k).begin ≤ k := by
  induction k with
  | zero => simp [splitTo]
  | succ k ih => simp only [splitTo, splitStep]; split <;> (try simp) <;> omega
theorem splitTo_len (l : List UInt8) (k : Nat) : (splitTo l k).ps.length ≤ k := by
  induction k with
  | zero => simp [splitTo]
  | succ k ih => simp only [splitTo, splitStep]; split <;> (try simp) <;> omega
def split (l : List UInt8) : Sp := splitTo l l.length
def unkP (F : Nat → Fn) (l : List UInt8) (i : Nat) : Bool := up (at_ l i) && !(F (at_ l i - 65).toNat).there
def unknown (F : Nat → Fn) (l : List UInt8) : Option Nat := first (unkP F l) l.length
def undoneP (F : Nat → Fn) (l : List UInt8) (i : Nat) : Bool := up (at_ l i) && !(F (at_ l i - 65).toNat).done
def allDone (F : Nat → Fn) (l : List UInt8) : Bool := (first (undoneP F l) l.length).isNone
/-- A body unfolded behind what there is, by the texts of functions; none: it does not fit. -/
def unf (F : Nat → Fn) : List UInt8 → List UInt8 → Option (List UInt8)
  | [], acc => some acc
  | c :: r, acc =>
    if up (bt c) = true then
      (if (F (bt c - 65).toNat).fits = true then
        (if 300 < (acc ++ (F (bt c - 65).toNat).text).length then none else unf F r (acc ++ (F (bt c - 65).toNat).text))
      else none)
    else (if 300 < (acc ++ [c]).length then none else unf F r (acc ++ [c]))
def unfold (F : Nat → Fn) (l : List UInt8) : Option (List UInt8) := unf F l []
theorem unkP_str (F : Nat → Fn) (s : ByteArray) (k : Nat) (h : k < s.size) : unkP F s.data.toList k = (up ((s[k].toNat : Nat) : Int) && !(F (s[k].toNat - 65)).there) := by
  rw [unkP, ← at_str s k h, show (((s[k].toNat : Nat) : Int) - 65).toNat = s[k].toNat - 65 from by omega]
theorem undoneP_str (F : Nat → Fn) (s : ByteArray) (k : Nat) (h : k < s.size) : undoneP F s.data.toList k = (up ((s[k].toNat : Nat) : Int) && !(F (s[k].toNat - 65)).done) := by
  rw [undoneP, ← at_str s k h, show (((s[k].toNat : Nat) : Int) - 65).toNat = s[k].toNat - 65 from by omega]
theorem unf_step (F : Nat → Fn) (s : ByteArray) (k : Nat) (acc : List UInt8) (h : k < s.size) : unf F (s.data.toList.drop k) acc =
    if up ((s[k].toNat : Nat) : Int) = true then
      (if (F (s[k].toNat - 65)).fits = true then
        (if 300 < (acc ++ (F (s[k].toNat - 65)).text).length then none else unf F (s.data.toList.drop (k + 1)) (acc ++ (F (s[k].toNat - 65)).text))
      else none)
    else (if 300 < (acc ++ [s[k]]).length then none else unf F (s.data.toList.drop (k + 1)) (acc ++ [s[k]])) := by
  rw [drop_cons s k h, unf, show (bt s[k] - 65).toNat = s[k].toNat - 65 from by unfold bt; omega]; rfl
theorem unf_end (F : Nat → Fn) (s : ByteArray) (k : Nat) (acc : List UInt8) (h : s.size ≤ k) : unf F (s.data.toList.drop k) acc = some acc := by
  rw [List.drop_of_length_le (by rw [len_str]; exact h)]; rfl
end Wd
end Go.Proofs.Ytecmfdkhcffpmaa
