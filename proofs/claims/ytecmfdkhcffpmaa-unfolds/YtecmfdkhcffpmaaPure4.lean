/- The plain functions, more: where the threads and handlers begin; the document's answer to Check. -/
import Derived.Test.YtecmfdkhcffpmaaPure3
namespace Go.Proofs.Ytecmfdkhcffpmaa
open Go.RowKit
set_option linter.unusedSimpArgs false
set_option linter.unusedVariables false
namespace Wd
def startP (l : List UInt8) (i : Nat) : Bool := heads l i && (at_ l i == 116 || at_ l i == 104)
def startsTo (l : List UInt8) (k : Nat) : List Nat := (List.range k).filter (startP l)
def starts (l : List UInt8) : List Nat := startsTo l l.length
theorem startsTo_yes {l : List UInt8} {k : Nat} (h : startP l k = true) : startsTo l (k + 1) = startsTo l k ++ [k] := by
  simp [startsTo, List.range_succ, List.filter_append, h]
theorem startsTo_no {l : List UInt8} {k : Nat} (h : startP l k = false) : startsTo l (k + 1) = startsTo l k := by
  simp [startsTo, List.range_succ, List.filter_append, h]
theorem startsTo_len (l : List UInt8) (k : Nat) : (startsTo l k).length ≤ k := by
  have := List.length_filter_le (startP l) (List.range k)
  simpa [startsTo] using this
theorem starts_mem {l : List UInt8} {i : Nat} (h : i ∈ starts l) : i + 1 < l.length := by
  simp [starts, startsTo, startP, heads] at h
  exact h.2.1.1
/-- The numbers of the threads and handlers in memory. -/
def intsV (l : List Nat) : List Value := l.map fun (i : Nat) => Value.int .i64 (i : Int)
/-- The number of the first thread or handler that is too long, unfolded. -/
def bigR (l : List UInt8) : Option Nat := first (fun k => decide (300 < size (body l ((starts l).getD k 0)) (sizesN l 8))) (starts l).length
/-- The document's answer to Check: the error and the place. -/
def checkR (l : List UInt8) : Int × Int :=
  if 240 < l.length then (1, 0)
  else match place l with
    | some i => (2, (i : Int))
    | none => match misnamed l with
      | some i => (3, (i : Int))
      | none => if round l = true then (4, 0) else match bigR l with
        | some i => (5, (i : Int))
        | none => (0, 0)
theorem checkR_long {l : List UInt8} (h : 240 < l.length) : checkR l = (1, 0) := by simp [checkR, h]
theorem checkR_text {l : List UInt8} (h : ¬ 240 < l.length) {i : Nat} (h1 : place l = some i) : checkR l = (2, (i : Int)) := by simp only [checkR, if_neg h, h1]
theorem checkR_name {l : List UInt8} (h : ¬ 240 < l.length) {i : Nat} (h1 : place l = none) (h2 : misnamed l = some i) : checkR l = (3, (i : Int)) := by simp only [checkR, if_neg h, h1, h2]
theorem checkR_round {l : List UInt8} (h : ¬ 240 < l.length) (h1 : place l = none) (h2 : misnamed l = none) (h3 : round l = true) : checkR l = (4, 0) := by simp only [checkR, if_neg h, h1, h2, if_pos h3]
theorem checkR_big {l : List UInt8} (h : ¬ 240 < l.length) (h1 : place l = none) (h2 : misnamed l = none) (h3 : round l = false) {i : Nat} (h4 : bigR l = some i) : checkR l = (5, (i : Int)) := by simp [checkR, if_neg h, h1, h2, h3, h4]
theorem checkR_ok {l : List UInt8} (h : ¬ 240 < l.length) (h1 : place l = none) (h2 : misnamed l = none) (h3 : round l = false) (h4 : bigR l = none) : checkR l = (0, 0) := by simp [checkR, if_neg h, h1, h2, h3, h4]
end Wd
end Go.Proofs.Ytecmfdkhcffpmaa
