/- The plain functions, more: which names stand in which function's body; does a function come back to itself. -/
import Derived.Test.YtecmfdkhcffpmaaPure2
namespace Go.Proofs.Ytecmfdkhcffpmaa
open Go.RowKit
set_option linter.unusedSimpArgs false
set_option linter.unusedVariables false
namespace Wd
/-- Sixty-four truth values in memory. -/
def arr64 (b : Nat → Bool) : Array Value := ((List.range 64).map fun j => Value.bool (b j)).toArray
theorem arr64_size (b : Nat → Bool) : (arr64 b).size = 64 := by simp [arr64]
theorem arr64_at (b : Nat → Bool) (j : Nat) (h : j < 64) : (arr64 b)[j]? = some (.bool (b j)) := by
  simp [arr64, h]
theorem arr64_congr {a b : Nat → Bool} (h : ∀ j, j < 64 → a j = b j) : arr64 a = arr64 b := by
  unfold arr64
  congr 1
  apply List.map_congr_left
  intro j hj
  rw [h j (by simpa using hj)]
theorem arr64_set (b : Nat → Bool) (f : Nat) (v : Bool) (h : f < 64) : (arr64 b).setIfInBounds f (.bool v) = arr64 (fun j => if j = f then v else b j) := by
  apply Array.ext
  · simp [arr64]
  · intro i h1 h2
    rw [Array.getElem_setIfInBounds]
    · simp [arr64]
      by_cases e : f = i
      · subst e; simp
      · simp [e, Ne.symm e, show ¬ i = f from fun x => e x.symm]
    · simpa [arr64] using h1
theorem arr64_one (b : Nat → Bool) : (arr64 b).all (·.oneCell') = true := by
  simp [arr64, Value.oneCell']
/-- Does the function g stand in a body? -/
def callRow (b : List UInt8) (g : Nat) : Bool := b.any fun c => bt c == 65 + (g : Int)
def calls (l : List UInt8) (f g : Nat) : Bool :=
  match head l (65 + (f : Int)) with
  | some i => callRow (body l i) g
  | none => false
def callsTo (l : List UInt8) (n j : Nat) : Bool := decide (j / 8 < n) && calls l (j / 8) (j % 8)
def callsIn (l b : List UInt8) (f k j : Nat) : Bool := if j / 8 = f then callRow (b.take k) (j % 8) else callsTo l f j
theorem callRow_snoc (s : ByteArray) (k g : Nat) (h : k < s.size) : callRow (s.data.toList.take (k + 1)) g = (callRow (s.data.toList.take k) g || (((s[k].toNat : Nat) : Int) == 65 + (g : Int))) := by
  rw [List.take_succ_eq_append_getElem (by rw [len_str]; exact h)]
  simp [callRow, bt]
  rfl
def upd (b : Nat → Bool) (k i j : Nat) : Nat → Bool := fun x => if x = i * 8 + j then (b x || (b (i * 8 + k) && b (k * 8 + j))) else b x
def jLoop (b : Nat → Bool) (k i : Nat) : Nat → Nat → Bool
  | 0 => b
  | j + 1 => upd (jLoop b k i j) k i j
def iLoop (b : Nat → Bool) (k : Nat) : Nat → Nat → Bool
  | 0 => b
  | i + 1 => jLoop (iLoop b k i) k i 8
def kLoop (b : Nat → Bool) : Nat → Nat → Bool
  | 0 => b
  | k + 1 => iLoop (kLoop b k) k 8
def round (l : List UInt8) : Bool := (first (fun i => kLoop (callsTo l 8) 8 (i * 8 + i)) 8).isSome
end Wd
end Go.Proofs.Ytecmfdkhcffpmaa
