/- The plain functions of the program's taking apart: parts, functions, and how they lie in memory. -/
import Derived.Test.YtecmfdkhcffpmaaPure5
import Derived.Laws.Tables
import Derived.Laws.Rows
namespace Go.Proofs.Ytecmfdkhcffpmaa
open Go.RowKit
set_option linter.unusedSimpArgs false
set_option linter.unusedVariables false
namespace Wd
def mkS (l : List UInt8) : ByteArray := ⟨l.toArray⟩
theorem mkS_list (l : List UInt8) : (mkS l).data.toList = l := rfl
theorem mkS_of (s : ByteArray) : mkS s.data.toList = s := rfl
theorem mkS_size (l : List UInt8) : (mkS l).size = l.length := by simp [mkS, ByteArray.size]
structure Part where
  letter : Int
  pos : Nat
  body : List UInt8
def partV (p : Part) : List Value := [.int .u8 p.letter, .int .i64 (p.pos : Int), .string (mkS p.body)]
def partsV (ps : List Part) : List Value := ps.flatMap partV
theorem partsV_len (ps : List Part) : (partsV ps).length = ps.length * 3 := by
  induction ps with
  | nil => rfl
  | cons p r ih => simp [partsV, partV] at ih ⊢; omega
theorem partsV_snoc (ps : List Part) (p : Part) : partsV (ps ++ [p]) = partsV ps ++ partV p := by simp [partsV]
structure Fn where
  there : Bool
  body : List UInt8
  done : Bool
  fits : Bool
  text : List UInt8
def fn0 : Fn := ⟨false, [], false, false, []⟩
def fnV (f : Fn) : List Value := [.bool f.there, .string (mkS f.body), .bool f.done, .bool f.fits, .string (mkS f.text)]
/-- The program in memory: the slice of its parts, and eight functions of five cells. -/
def pgA (v : Value) (F : Nat → Fn) : Array Value :=
  #[v, .bool (F 0).there, .string (mkS (F 0).body), .bool (F 0).done, .bool (F 0).fits, .string (mkS (F 0).text),
    .bool (F 1).there, .string (mkS (F 1).body), .bool (F 1).done, .bool (F 1).fits, .string (mkS (F 1).text),
    .bool (F 2).there, .string (mkS (F 2).body), .bool (F 2).done, .bool (F 2).fits, .string (mkS (F 2).text),
    .bool (F 3).there, .string (mkS (F 3).body), .bool (F 3).done, .bool (F 3).fits, .string (mkS (F 3).text),
    .bool (F 4).there, .string (mkS (F 4).body), .bool (F 4).done, .bool (F 4).fits, .string (mkS (F 4).text),
    .bool (F 5).there, .string (mkS (F 5).body), .bool (F 5).done, .bool (F 5).fits, .string (mkS (F 5).text),
    .bool (F 6).there, .string (mkS (F 6).body), .bool (F 6).done, .bool (F 6).fits, .string (mkS (F 6).text),
    .bool (F 7).there, .string (mkS (F 7).body), .bool (F 7).done, .bool (F 7).fits, .string (mkS (F 7).text)]
theorem pgA_size (v : Value) (F : Nat → Fn) : (pgA v F).size = 41 := rfl
theorem pgA_at (v : Value) (F : Nat → Fn) (i k : Nat) (hi : i < 8) (u : Value) (hk : (fnV (F i))[k]? = some u) : (pgA v F)[1 + i * 5 + k]? = some u := by
  have hk5 : k < 5 := (List.getElem?_eq_some_iff.1 hk).1
  match i, hi with
  | 0, _ | 1, _ | 2, _ | 3, _ | 4, _ | 5, _ | 6, _ | 7, _ =>
    match k, hk5 with
    | 0, _ | 1, _ | 2, _ | 3, _ | 4, _ => exact hk
theorem pgA_set (v : Value) (F : Nat → Fn) (i : Nat) (f : Fn) (hi : i < 8) :
    (((((pgA v F).setIfInBounds (1 + i * 5) (.bool f.there)).setIfInBounds (1 + i * 5 + 1) (.string (mkS f.body))).setIfInBounds (1 + i * 5 + 2) (.bool f.done)).setIfInBounds (1 + i * 5 + 3) (.bool f.fits)).setIfInBounds (1 + i * 5 + 4) (.string (mkS f.text))
      = pgA v (fun j => if j = i then f else F j) := by
  match i, hi with
  | 0, _ | 1, _ | 2, _ | 3, _ | 4, _ | 5, _ | 6, _ | 7, _ => simp [pgA]
theorem pgA_slice (v v' : Value) (F : Nat → Fn) : (pgA v F).setIfInBounds 0 v' = pgA v' F := by simp [pgA]
theorem pgA_congr (v : Value) {F G : Nat → Fn} (h : ∀ j, j < 8 → F j = G j) : pgA v F = pgA v G := by
  simp only [pgA, h 0 (by omega), h 1 (by omega), h 2 (by omega), h 3 (by omega), h 4 (by omega), h 5 (by omega), h 6 (by omega), h 7 (by omega)]
/-- A part is added. -/
def addF (F : Nat → Fn) (p : Part) : Nat → Fn := if up p.letter = true then (fun j => if j = (p.letter - 65).toNat then ⟨true, p.body, false, false, []⟩ else F j) else F
end Wd
end Go.Proofs.Ytecmfdkhcffpmaa
