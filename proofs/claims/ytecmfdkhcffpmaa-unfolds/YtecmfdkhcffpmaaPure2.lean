/- The plain functions, more: how long bodies are, unfolded; which names stand where. -/
import Derived.Test.YtecmfdkhcffpmaaPure
import Derived.Laws.Tables
import Derived.Laws.Rows
namespace Go.Proofs.Ytecmfdkhcffpmaa
open Go.RowKit
namespace Wd
/-- How long a body is, unfolded, by the functions' lengths; more than 300 all the same. -/
def plus (of : Nat → Int) (n c : Int) : Int := if up c = true then n + of (c - 65).toNat else n + 1
def sizeFrom (of : Nat → Int) : List UInt8 → Int → Int
  | [], n => n
  | c :: r, n => if 300 < plus of n (bt c) then 301 else sizeFrom of r (plus of n (bt c))
def size (l : List UInt8) (of : Nat → Int) : Int := sizeFrom of l 0
theorem sizeFrom_step (of : Nat → Int) (s : ByteArray) (k : Nat) (n : Int) (h : k < s.size) : sizeFrom of (s.data.toList.drop k) n =
    if 300 < plus of n ((s[k].toNat : Nat) : Int) then 301 else sizeFrom of (s.data.toList.drop (k + 1)) (plus of n ((s[k].toNat : Nat) : Int)) := by
  rw [drop_cons s k h]; rfl
theorem sizeFrom_end (of : Nat → Int) (s : ByteArray) (k : Nat) (n : Int) (h : s.size ≤ k) : sizeFrom of (s.data.toList.drop k) n = n := by
  rw [List.drop_of_length_le (by rw [len_str]; exact h)]; rfl
theorem plus_lo (of : Nat → Int) (h0 : ∀ j, 0 ≤ of j) (n c : Int) (hn : 0 ≤ n) : 0 ≤ plus of n c := by
  have := h0 (c - 65).toNat
  unfold plus; split <;> omega
theorem sizeFrom_bd (of : Nat → Int) (h0 : ∀ j, 0 ≤ of j) (l : List UInt8) (n : Int) (hn : 0 ≤ n) (hn' : n ≤ 301) : 0 ≤ sizeFrom of l n ∧ sizeFrom of l n ≤ 301 := by
  induction l generalizing n with
  | nil => exact ⟨hn, hn'⟩
  | cons c r ih =>
    unfold sizeFrom
    have := plus_lo of h0 n (bt c) hn
    split
    · omega
    · exact ih _ this (by omega)
theorem size_bd (of : Nat → Int) (h0 : ∀ j, 0 ≤ of j) (l : List UInt8) : 0 ≤ size l of ∧ size l of ≤ 301 := sizeFrom_bd of h0 l 0 (by omega) (by omega)
theorem head_some {l : List UInt8} {c : Int} {i : Nat} (h : head l c = some i) : i + 1 < l.length ∧ at_ l i = c := by
  unfold head first at h
  have := List.find?_some h
  simp [headP, heads] at this
  exact ⟨this.1.1, this.2⟩
/-- The functions' lengths, one round more. -/
def sizesStep (l : List UInt8) (of : Nat → Int) (f : Nat) : Int :=
  match head l (65 + (f : Int)) with
  | some i => size (body l i) of
  | none => of f
def sizesN (l : List UInt8) : Nat → Nat → Int
  | 0 => fun _ => 0
  | k + 1 => fun f => sizesStep l (sizesN l k) f
theorem sizesN_bd (l : List UInt8) (k f : Nat) : 0 ≤ sizesN l k f ∧ sizesN l k f ≤ 301 := by
  induction k generalizing f with
  | zero => exact ⟨by simp [sizesN], by simp [sizesN]⟩
  | succ k ih =>
    simp only [sizesN, sizesStep]
    split
    · exact size_bd _ (fun j => (ih j).1) _
    · exact ih f
/-- Eight numbers in memory. -/
def arr8 (of : Nat → Int) : Array Value := #[.int .i64 (of 0), .int .i64 (of 1), .int .i64 (of 2), .int .i64 (of 3), .int .i64 (of 4), .int .i64 (of 5), .int .i64 (of 6), .int .i64 (of 7)]
theorem arr8_size (of : Nat → Int) : (arr8 of).size = 8 := rfl
theorem arr8_at (of : Nat → Int) (j : Nat) (h : j < 8) : (arr8 of)[j]? = some (.int .i64 (of j)) := by
  match j, h with
  | 0, _ | 1, _ | 2, _ | 3, _ | 4, _ | 5, _ | 6, _ | 7, _ => rfl
theorem arr8_set (of : Nat → Int) (f : Nat) (v : Int) (h : f < 8) : (arr8 of).setIfInBounds f (.int .i64 v) = arr8 (fun j => if j = f then v else of j) := by
  match f, h with
  | 0, _ | 1, _ | 2, _ | 3, _ | 4, _ | 5, _ | 6, _ | 7, _ => simp [arr8]
theorem arr8_congr {a b : Nat → Int} (h : ∀ j, j < 8 → a j = b j) : arr8 a = arr8 b := by
  simp [arr8, h]
theorem arr8_one (of : Nat → Int) : (arr8 of).all (·.oneCell') = true := by simp [arr8, Value.oneCell']
end Wd
end Go.Proofs.Ytecmfdkhcffpmaa
