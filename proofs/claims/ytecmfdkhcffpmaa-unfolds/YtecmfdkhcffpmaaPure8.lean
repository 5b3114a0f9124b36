/- The plain functions of the program: names, functions unfolded, items; the program's answer to Check. -/
import Derived.Test.YtecmfdkhcffpmaaPure7
namespace Go.Proofs.Ytecmfdkhcffpmaa
open Go.RowKit
set_option linter.unusedSimpArgs false
set_option linter.unusedVariables false
namespace Wd
theorem partsV_at (ps : List Part) (j k : Nat) (hj : j < ps.length) (hk : k < 3) : (partsV ps)[j * 3 + k]? = (partV ps[j])[k]? := by
  induction ps generalizing j with
  | nil => simp at hj
  | cons p r ih =>
    have e : partsV (p :: r) = partV p ++ partsV r := rfl
    rw [e]
    cases j with
    | zero =>
      rw [List.getElem?_append_left (by simp [partV]; omega)]
      simp
    | succ j =>
      rw [List.getElem?_append_right (by simp [partV]; omega)]
      have e2 : (j + 1) * 3 + k - (partV p).length = j * 3 + k := by simp [partV]; omega
      rw [e2, ih j (by simpa using hj)]
      simp
/-- Eight truth values in memory. -/
def arr8b (b : Nat → Bool) : Array Value := #[.bool (b 0), .bool (b 1), .bool (b 2), .bool (b 3), .bool (b 4), .bool (b 5), .bool (b 6), .bool (b 7)]
theorem arr8b_at (b : Nat → Bool) (j : Nat) (h : j < 8) : (arr8b b)[j]? = some (.bool (b j)) := by
  match j, h with
  | 0, _ | 1, _ | 2, _ | 3, _ | 4, _ | 5, _ | 6, _ | 7, _ => rfl
theorem arr8b_set (b : Nat → Bool) (f : Nat) (v : Bool) (h : f < 8) : (arr8b b).setIfInBounds f (.bool v) = arr8b (fun j => if j = f then v else b j) := by
  match f, h with
  | 0, _ | 1, _ | 2, _ | 3, _ | 4, _ | 5, _ | 6, _ | 7, _ => simp [arr8b]
/-- The first name that is there already or that no function has. -/
def namesFrom (F : Nat → Fn) : List Part → (Nat → Bool) → Option Nat
  | [], _ => none
  | p :: r, seen =>
    if up p.letter = true ∧ seen (p.letter - 65).toNat = true then some p.pos
    else match unknown F p.body with
      | some u => some (p.pos + 2 + u)
      | none => namesFrom F r (if up p.letter = true then (fun j => if j = (p.letter - 65).toNat then true else seen j) else seen)
def names (F : Nat → Fn) (ps : List Part) : Option Nat := namesFrom F ps (fun _ => false)
/-- A part as the reader leaves it: a byte, and short. -/
def Part.fine (p : Part) : Prop := 0 ≤ p.letter ∧ p.letter ≤ 255 ∧ p.pos ≤ 10000 ∧ p.body.length ≤ 10000
theorem first_lt {p : Nat → Bool} {n k : Nat} (h : first p n = some k) : k < n := by
  unfold first at h
  have := List.mem_of_find?_eq_some h
  simpa using this
theorem unknown_lt {F : Nat → Fn} {l : List UInt8} {k : Nat} (h : unknown F l = some k) : k < l.length := first_lt h
/-- A function unfolded, by the functions that there are. -/
def newFn (F : Nat → Fn) (f : Fn) : Fn := match unfold F f.body with
  | some x => ⟨f.there, f.body, true, true, x⟩
  | none => ⟨f.there, f.body, true, false, []⟩
def readyStep (F : Nat → Fn) (n : Nat) : Nat → Fn := if (F n).there = true ∧ (F n).done = false ∧ allDone F (F n).body = true then (fun j => if j = n then newFn F (F n) else F j) else F
def readyTo (F : Nat → Fn) : Nat → Nat → Fn
  | 0 => F
  | n + 1 => readyStep (readyTo F n) n
def roundsTo (F : Nat → Fn) : Nat → Nat → Fn
  | 0 => F
  | n + 1 => readyTo (roundsTo F n) 8
def FnFine (F : Nat → Fn) : Prop := ∀ j, (F j).text.length ≤ 300 ∧ (F j).body.length ≤ 10000
theorem unf_len (F : Nat → Fn) (l acc x : List UInt8) (ha : acc.length ≤ 300) (h : unf F l acc = some x) : x.length ≤ 300 := by
  induction l generalizing acc with
  | nil => simp [unf] at h; subst h; exact ha
  | cons c r ih =>
    unfold unf at h
    split at h
    · split at h
      · split at h
        · cases h
        · exact ih _ (by omega) h
      · cases h
    · split at h
      · cases h
      · exact ih _ (by omega) h
theorem newFn_fine {F : Nat → Fn} (h : FnFine F) (n : Nat) : (newFn F (F n)).text.length ≤ 300 ∧ (newFn F (F n)).body.length ≤ 10000 := by
  unfold newFn
  split
  · next x hx => exact ⟨unf_len F _ [] x (by simp) hx, (h n).2⟩
  · exact ⟨by simp, (h n).2⟩
theorem readyStep_fine {F : Nat → Fn} (h : FnFine F) (n : Nat) : FnFine (readyStep F n) := by
  intro j
  unfold readyStep
  split
  · by_cases e : j = n
    · subst e; simp only [if_true]; exact newFn_fine h j
    · simp only [e, if_false]; exact h j
  · exact h j
theorem readyTo_fine {F : Nat → Fn} (h : FnFine F) (n : Nat) : FnFine (readyTo F n) := by
  induction n with
  | zero => exact h
  | succ n ih => exact readyStep_fine ih n
theorem roundsTo_fine {F : Nat → Fn} (h : FnFine F) (n : Nat) : FnFine (roundsTo F n) := by
  induction n with
  | zero => exact h
  | succ n ih => exact readyTo_fine ih 8
/-- Is there a function that could not be unfolded? -/
def leftP (F : Nat → Fn) (j : Nat) : Bool := (F j).there && !(F j).done
def left (F : Nat → Fn) : Bool := (first (leftP F) 8).isSome
/-- A thread or handler, unfolded. -/
structure It where
  handler : Bool
  body : List UInt8
def itV (p : It) : List Value := [.bool p.handler, .string (mkS p.body)]
def itsV (ps : List It) : List Value := ps.flatMap itV
theorem itsV_snoc (ps : List It) (p : It) : itsV (ps ++ [p]) = itsV ps ++ itV p := by simp [itsV]
def itemsFrom (F : Nat → Fn) : List Part → List It → Except Nat (List It)
  | [], acc => .ok acc
  | p :: r, acc =>
    if up p.letter = true then itemsFrom F r acc
    else match unfold F p.body with
      | some x => itemsFrom F r (acc ++ [⟨p.letter == 104, x⟩])
      | none => .error acc.length
def items (F : Nat → Fn) (ps : List Part) : Except Nat (List It) := itemsFrom F ps []
end Wd
end Go.Proofs.Ytecmfdkhcffpmaa
