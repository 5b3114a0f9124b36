/- Pure6, Pure7, Pure8, Pure9, Same1. -/
import Derived.Test.YtecmfdkhcffpmaaB01
import Derived.Laws.Tables
import Derived.Laws.Rows
/- The plain functions of the program's taking apart: parts, functions, and how they lie in memory. -/
namespace Go.Proofs.Ytecmfdkhcffpmaa
open Go.RowKit
set_option linter.unusedSimpArgs false
set_option linter.unusedVariables false
namespace Wd
def mkS (l : List UInt8) : ByteArray := ⟨l.toArray⟩
theorem mkS_list (l : List UInt8) : (mkS l).data.toList = l := rfl
theorem mkS_of (s : ByteArray) : mkS s.data.toList = s := rfl
theorem mkS_size (l : List UInt8) : (mkS l).size = l.length := by simp [mkS, ByteArray.size]
structure Part where
  letter : Int
  pos : Nat
  body : List UInt8
def partV (p : Part) : List Value := [.int .u8 p.letter, .int .i64 (p.pos : Int), .string (mkS p.body)]
def partsV (ps : List Part) : List Value := ps.flatMap partV
theorem partsV_len (ps : List Part) : (partsV ps).length = ps.length * 3 := by
  induction ps with
  | nil => rfl
  | cons p r ih => simp [partsV, partV] at ih ⊢; omega
theorem partsV_snoc (ps : List Part) (p : Part) : partsV (ps ++ [p]) = partsV ps ++ partV p := by simp [partsV]
structure Fn where
  there : Bool
  body : List UInt8
  done : Bool
  fits : Bool
  text : List UInt8
def fn0 : Fn := ⟨false, [], false, false, []⟩
def fnV (f : Fn) : List Value := [.bool f.there, .string (mkS f.body), .bool f.done, .bool f.fits, .string (mkS f.text)]
/-- The program in memory: the slice of its parts, and eight functions of five cells. -/
def pgA (v : Value) (F : Nat → Fn) : Array Value :=
  #[v, .bool (F 0).there, .string (mkS (F 0).body), .bool (F 0).done, .bool (F 0).fits, .string (mkS (F 0).text),
    .bool (F 1).there, .string (mkS (F 1).body), .bool (F 1).done, .bool (F 1).fits, .string (mkS (F 1).text),
    .bool (F 2).there, .string (mkS (F 2).body), .bool (F 2).done, .bool (F 2).fits, .string (mkS (F 2).text),
    .bool (F 3).there, .string (mkS (F 3).body), .bool (F 3).done, .bool (F 3).fits, .string (mkS (F 3).text),
    .bool (F 4).there, .string (mkS (F 4).body), .bool (F 4).done, .bool (F 4).fits, .string (mkS (F 4).text),
    .bool (F 5).there, .string (mkS (F 5).body), .bool (F 5).done, .bool (F 5).fits, .string (mkS (F 5).text),
    .bool (F 6).there, .string (mkS (F 6).body), .bool (F 6).done, .bool (F 6).fits, .string (mkS (F 6).text),
    .bool (F 7).there, .string (mkS (F 7).body), .bool (F 7).done, .bool (F 7).fits, .string (mkS (F 7).text)]
theorem pgA_size (v : Value) (F : Nat → Fn) : (pgA v F).size = 41 := rfl
theorem pgA_at (v : Value) (F : Nat → Fn) (i k : Nat) (hi : i < 8) (u : Value) (hk : (fnV (F i))[k]? = some u) : (pgA v F)[1 + i * 5 + k]? = some u := by
  have hk5 : k < 5 := (List.getElem?_eq_some_iff.1 hk).1
  match i, hi with
  | 0, _ | 1, _ | 2, _ | 3, _ | 4, _ | 5, _ | 6, _ | 7, _ =>
    match k, hk5 with
    | 0, _ | 1, _ | 2, _ | 3, _ | 4, _ => exact hk
theorem pgA_set (v : Value) (F : Nat → Fn) (i : Nat) (f : Fn) (hi : i < 8) :
    (((((pgA v F).setIfInBounds (1 + i * 5) (.bool f.there)).setIfInBounds (1 + i * 5 + 1) (.string (mkS f.body))).setIfInBounds (1 + i * 5 + 2) (.bool f.done)).setIfInBounds (1 + i * 5 + 3) (.bool f.fits)).setIfInBounds (1 + i * 5 + 4) (.string (mkS f.text))
      = pgA v (fun j => if j = i then f else F j) := by
  match i, hi with
  | 0, _ | 1, _ | 2, _ | 3, _ | 4, _ | 5, _ | 6, _ | 7, _ => simp [pgA]
theorem pgA_slice (v v' : Value) (F : Nat → Fn) : (pgA v F).setIfInBounds 0 v' = pgA v' F := by simp [pgA]
theorem pgA_congr (v : Value) {F G : Nat → Fn} (h : ∀ j, j < 8 → F j = G j) : pgA v F = pgA v G := by
  simp only [pgA, h 0 (by omega), h 1 (by omega), h 2 (by omega), h 3 (by omega), h 4 (by omega), h 5 (by omega), h 6 (by omega), h 7 (by omega)]
/-- A part is added. -/
def addF (F : Nat → Fn) (p : Part) : Nat → Fn := if up p.letter = true then (fun j => if j = (p.letter - 65).toNat then ⟨true, p.body, false, false, []⟩ else F j) else F
end Wd
end Go.Proofs.Ytecmfdkhcffpmaa
/- The plain functions of the program's taking apart: split, names, unfolding. -/
namespace Go.Proofs.Ytecmfdkhcffpmaa
open Go.RowKit
set_option linter.unusedSimpArgs false
set_option linter.unusedVariables false
namespace Wd
structure Sp where
  begin : Nat
  ps : List Part
  F : Nat → Fn
def partOf (l : List UInt8) (b i : Nat) : Part := ⟨at_ l b, b, (l.drop (b + 2)).take (i - (b + 2))⟩
def splitStep (l : List UInt8) (st : Sp) (i : Nat) : Sp := if at_ l i = 125 ∧ st.begin + 2 ≤ i then ⟨i + 1, st.ps ++ [partOf l st.begin i], addF st.F (partOf l st.begin i)⟩ else st
def splitTo (l : List UInt8) : Nat → Sp
  | 0 => ⟨0, [], fun _ => fn0⟩
  | k + 1 => splitStep l (splitTo l k) k
theorem splitTo_begin (l : List UInt8) (k : Nat) : (splitTo l k).begin ≤ k := by
  induction k with
  | zero => simp [splitTo]
  | succ k ih => simp only [splitTo, splitStep]; split <;> (try simp) <;> omega
theorem splitTo_len (l : List UInt8) (k : Nat) : (splitTo l k).ps.length ≤ k := by
  induction k with
  | zero => simp [splitTo]
  | succ k ih => simp only [splitTo, splitStep]; split <;> (try simp) <;> omega
def split (l : List UInt8) : Sp := splitTo l l.length
def unkP (F : Nat → Fn) (l : List UInt8) (i : Nat) : Bool := up (at_ l i) && !(F (at_ l i - 65).toNat).there
def unknown (F : Nat → Fn) (l : List UInt8) : Option Nat := first (unkP F l) l.length
def undoneP (F : Nat → Fn) (l : List UInt8) (i : Nat) : Bool := up (at_ l i) && !(F (at_ l i - 65).toNat).done
def allDone (F : Nat → Fn) (l : List UInt8) : Bool := (first (undoneP F l) l.length).isNone
/-- A body unfolded behind what there is, by the texts of functions; none: it does not fit. -/
def unf (F : Nat → Fn) : List UInt8 → List UInt8 → Option (List UInt8)
  | [], acc => some acc
  | c :: r, acc =>
    if up (bt c) = true then
      (if (F (bt c - 65).toNat).fits = true then
        (if 300 < (acc ++ (F (bt c - 65).toNat).text).length then none else unf F r (acc ++ (F (bt c - 65).toNat).text))
      else none)
    else (if 300 < (acc ++ [c]).length then none else unf F r (acc ++ [c]))
def unfold (F : Nat → Fn) (l : List UInt8) : Option (List UInt8) := unf F l []
theorem unkP_str (F : Nat → Fn) (s : ByteArray) (k : Nat) (h : k < s.size) : unkP F s.data.toList k = (up ((s[k].toNat : Nat) : Int) && !(F (s[k].toNat - 65)).there) := by
  rw [unkP, ← at_str s k h, show (((s[k].toNat : Nat) : Int) - 65).toNat = s[k].toNat - 65 from by omega]
theorem undoneP_str (F : Nat → Fn) (s : ByteArray) (k : Nat) (h : k < s.size) : undoneP F s.data.toList k = (up ((s[k].toNat : Nat) : Int) && !(F (s[k].toNat - 65)).done) := by
  rw [undoneP, ← at_str s k h, show (((s[k].toNat : Nat) : Int) - 65).toNat = s[k].toNat - 65 from by omega]
theorem unf_step (F : Nat → Fn) (s : ByteArray) (k : Nat) (acc : List UInt8) (h : k < s.size) : unf F (s.data.toList.drop k) acc =
    if up ((s[k].toNat : Nat) : Int) = true then
      (if (F (s[k].toNat - 65)).fits = true then
        (if 300 < (acc ++ (F (s[k].toNat - 65)).text).length then none else unf F (s.data.toList.drop (k + 1)) (acc ++ (F (s[k].toNat - 65)).text))
      else none)
    else (if 300 < (acc ++ [s[k]]).length then none else unf F (s.data.toList.drop (k + 1)) (acc ++ [s[k]])) := by
  rw [drop_cons s k h, unf, show (bt s[k] - 65).toNat = s[k].toNat - 65 from by unfold bt; omega]; rfl
theorem unf_end (F : Nat → Fn) (s : ByteArray) (k : Nat) (acc : List UInt8) (h : s.size ≤ k) : unf F (s.data.toList.drop k) acc = some acc := by
  rw [List.drop_of_length_le (by rw [len_str]; exact h)]; rfl
end Wd
end Go.Proofs.Ytecmfdkhcffpmaa
/- The plain functions of the program: names, functions unfolded, items; the program's answer to Check. -/
namespace Go.Proofs.Ytecmfdkhcffpmaa
open Go.RowKit
set_option linter.unusedSimpArgs false
set_option linter.unusedVariables false
namespace Wd
theorem partsV_at (ps : List Part) (j k : Nat) (hj : j < ps.length) (hk : k < 3) : (partsV ps)[j * 3 + k]? = (partV ps[j])[k]? := by
  induction ps generalizing j with
  | nil => simp at hj
  | cons p r ih =>
    have e : partsV (p :: r) = partV p ++ partsV r := rfl
    rw [e]
    cases j with
    | zero =>
      rw [List.getElem?_append_left (by simp [partV]; omega)]
      simp
    | succ j =>
      rw [List.getElem?_append_right (by simp [partV]; omega)]
      have e2 : (j + 1) * 3 + k - (partV p).length = j * 3 + k := by simp [partV]; omega
      rw [e2, ih j (by simpa using hj)]
      simp
/-- Eight truth values in memory. -/
def arr8b (b : Nat → Bool) : Array Value := #[.bool (b 0), .bool (b 1), .bool (b 2), .bool (b 3), .bool (b 4), .bool (b 5), .bool (b 6), .bool (b 7)]
theorem arr8b_at (b : Nat → Bool) (j : Nat) (h : j < 8) : (arr8b b)[j]? = some (.bool (b j)) := by
  match j, h with
  | 0, _ | 1, _ | 2, _ | 3, _ | 4, _ | 5, _ | 6, _ | 7, _ => rfl
theorem arr8b_set (b : Nat → Bool) (f : Nat) (v : Bool) (h : f < 8) : (arr8b b).setIfInBounds f (.bool v) = arr8b (fun j => if j = f then v else b j) := by
  match f, h with
  | 0, _ | 1, _ | 2, _ | 3, _ | 4, _ | 5, _ | 6, _ | 7, _ => simp [arr8b]
/-- The first name that is there already or that no function has. -/
def namesFrom (F : Nat → Fn) : List Part → (Nat → Bool) → Option Nat
  | [], _ => none
  | p :: r, seen =>
    if up p.letter = true ∧ seen (p.letter - 65).toNat = true then some p.pos
    else match unknown F p.body with
      | some u => some (p.pos + 2 + u)
      | none => namesFrom F r (if up p.letter = true then (fun j => if j = (p.letter - 65).toNat then true else seen j) else seen)
def names (F : Nat → Fn) (ps : List Part) : Option Nat := namesFrom F ps (fun _ => false)
/-- A part as the reader leaves it: a byte, and short. -/
def Part.fine (p : Part) : Prop := 0 ≤ p.letter ∧ p.letter ≤ 255 ∧ p.pos ≤ 10000 ∧ p.body.length ≤ 10000
theorem first_lt {p : Nat → Bool} {n k : Nat} (h : first p n = some k) : k < n := by
  unfold first at h
  have := List.mem_of_find?_eq_some h
  simpa using this
theorem unknown_lt {F : Nat → Fn} {l : List UInt8} {k : Nat} (h : unknown F l = some k) : k < l.length := first_lt h
/-- A function unfolded, by the functions that there are. -/
def newFn (F : Nat → Fn) (f : Fn) : Fn := match unfold F f.body with
  | some x => ⟨f.there, f.body, true, true, x⟩
  | none => ⟨f.there, f.body, true, false, []⟩
def readyStep (F : Nat → Fn) (n : Nat) : Nat → Fn := if (F n).there = true ∧ (F n).done = false ∧ allDone F (F n).body = true then (fun j => if j = n then newFn F (F n) else F j) else F
def readyTo (F : Nat → Fn) : Nat → Nat → Fn
  | 0 => F
  | n + 1 => readyStep (readyTo F n) n
def roundsTo (F : Nat → Fn) : Nat → Nat → Fn
  | 0 => F
  | n + 1 => readyTo (roundsTo F n) 8
def FnFine (F : Nat → Fn) : Prop := ∀ j, (F j).text.length ≤ 300 ∧ (F j).body.length ≤ 10000
theorem unf_len (F : Nat → Fn) (l acc x : List UInt8) (ha : acc.length ≤ 300) (h : unf F l acc = some x) : x.length ≤ 300 := by
  induction l generalizing acc with
  | nil => simp [unf] at h; subst h; exact ha
  | cons c r ih =>
    unfold unf at h
    split at h
    · split at h
      · split at h
        · cases h
        · exact ih _ (by omega) h
      · cases h
    · split at h
      · cases h
      · exact ih _ (by omega) h
theorem newFn_fine {F : Nat → Fn} (h : FnFine F) (n : Nat) : (newFn F (F n)).text.length ≤ 300 ∧ (newFn F (F n)).body.length ≤ 10000 := by
  unfold newFn
  split
  · next x hx => exact ⟨unf_len F _ [] x (by simp) hx, (h n).2⟩
  · exact ⟨by simp, (h n).2⟩
theorem readyStep_fine {F : Nat → Fn} (h : FnFine F) (n : Nat) : FnFine (readyStep F n) := by
  intro j
  unfold readyStep
  split
  · by_cases e : j = n
    · subst e; simp only [if_true]; exact newFn_fine h j
    · simp only [e, if_false]; exact h j
  · exact h j
theorem readyTo_fine {F : Nat → Fn} (h : FnFine F) (n : Nat) : FnFine (readyTo F n) := by
  induction n with
  | zero => exact h
  | succ n ih => exact readyStep_fine ih n
theorem roundsTo_fine {F : Nat → Fn} (h : FnFine F) (n : Nat) : FnFine (roundsTo F n) := by
  induction n with
  | zero => exact h
  | succ n ih => exact readyTo_fine ih 8
/-- Is there a function that could not be unfolded? -/
def leftP (F : Nat → Fn) (j : Nat) : Bool := (F j).there && !(F j).done
def left (F : Nat → Fn) : Bool := (first (leftP F) 8).isSome
/-- A thread or handler, unfolded. -/
structure It where
  handler : Bool
  body : List UInt8
def itV (p : It) : List Value := [.bool p.handler, .string (mkS p.body)]
def itsV (ps : List It) : List Value := ps.flatMap itV
theorem itsV_snoc (ps : List It) (p : It) : itsV (ps ++ [p]) = itsV ps ++ itV p := by simp [itsV]
def itemsFrom (F : Nat → Fn) : List Part → List It → Except Nat (List It)
  | [], acc => .ok acc
  | p :: r, acc =>
    if up p.letter = true then itemsFrom F r acc
    else match unfold F p.body with
      | some x => itemsFrom F r (acc ++ [⟨p.letter == 104, x⟩])
      | none => .error acc.length
def items (F : Nat → Fn) (ps : List Part) : Except Nat (List It) := itemsFrom F ps []
end Wd
end Go.Proofs.Ytecmfdkhcffpmaa
/- The plain function of the program's 'read': the error and the place, or the items. -/
namespace Go.Proofs.Ytecmfdkhcffpmaa
open Go.RowKit
set_option linter.unusedSimpArgs false
set_option linter.unusedVariables false
namespace Wd
theorem partOf_fine (l : List UInt8) (b i : Nat) (hl : l.length ≤ 10000) (hb : b ≤ 10000) : (partOf l b i).fine := by
  refine ⟨at_lo _ _, at_hi _ _, hb, ?_⟩
  simp [partOf]; omega
theorem splitTo_fine (l : List UInt8) (hl : l.length ≤ 10000) (k : Nat) (hk : k ≤ 10000) : (∀ p ∈ (splitTo l k).ps, p.fine) ∧ FnFine (splitTo l k).F := by
  induction k with
  | zero => exact ⟨by simp [splitTo], fun j => by simp [splitTo, fn0]⟩
  | succ k ih =>
    obtain ⟨h1, h2⟩ := ih (by omega)
    have hb := splitTo_begin l k
    simp only [splitTo, splitStep]
    split
    · have hf := partOf_fine l (splitTo l k).begin k hl (by omega)
      refine ⟨?_, ?_⟩
      · intro p hp
        simp at hp
        rcases hp with hp | hp
        · exact h1 p hp
        · rw [hp]; exact hf
      · intro j
        simp only [addF]
        split
        · by_cases e : j = ((partOf l (splitTo l k).begin k).letter - 65).toNat
          · simp only [e, if_true]; exact ⟨by simp, hf.2.2.2⟩
          · simp only [e, if_false]; exact h2 j
        · exact h2 j
    · exact ⟨h1, h2⟩
def readP (l : List UInt8) : Except (Int × Int) (List It) :=
  if 240 < l.length then .error (1, 0)
  else match fault l with
    | some i => .error (2, (i : Int))
    | none => match names (split l).F (split l).ps with
      | some i => .error (3, (i : Int))
      | none => if left (roundsTo (split l).F 8) = true then .error (4, 0) else match items (roundsTo (split l).F 8) (split l).ps with
        | .error n => .error (5, (n : Int))
        | .ok its => .ok its
theorem readP_long {l : List UInt8} (h : 240 < l.length) : readP l = .error (1, 0) := by simp [readP, h]
theorem readP_text {l : List UInt8} (h : ¬ 240 < l.length) {i : Nat} (h1 : fault l = some i) : readP l = .error (2, (i : Int)) := by simp only [readP, if_neg h, h1]
theorem readP_name {l : List UInt8} (h : ¬ 240 < l.length) {i : Nat} (h1 : fault l = none) (h2 : names (split l).F (split l).ps = some i) : readP l = .error (3, (i : Int)) := by simp only [readP, if_neg h, h1, h2]
theorem readP_round {l : List UInt8} (h : ¬ 240 < l.length) (h1 : fault l = none) (h2 : names (split l).F (split l).ps = none) (h3 : left (roundsTo (split l).F 8) = true) : readP l = .error (4, 0) := by simp only [readP, if_neg h, h1, h2, if_pos h3]
theorem readP_big {l : List UInt8} (h : ¬ 240 < l.length) (h1 : fault l = none) (h2 : names (split l).F (split l).ps = none) (h3 : left (roundsTo (split l).F 8) = false) {n : Nat} (h4 : items (roundsTo (split l).F 8) (split l).ps = .error n) : readP l = .error (5, (n : Int)) := by simp [readP, if_neg h, h1, h2, h3, h4]
theorem readP_ok {l : List UInt8} (h : ¬ 240 < l.length) (h1 : fault l = none) (h2 : names (split l).F (split l).ps = none) (h3 : left (roundsTo (split l).F 8) = false) {its : List It} (h4 : items (roundsTo (split l).F 8) (split l).ps = .ok its) : readP l = .ok its := by simp [readP, if_neg h, h1, h2, h3, h4]
def checkP (l : List UInt8) : Int × Int := match readP l with
  | .ok _ => (0, 0)
  | .error x => x
end Wd
end Go.Proofs.Ytecmfdkhcffpmaa
/- The two readers of the form stop at the same byte. -/
namespace Go.Proofs.Ytecmfdkhcffpmaa
set_option linter.unusedSimpArgs false
set_option linter.unusedVariables false
namespace Wd
def Rel (p r : St) : Prop := p.want = r.want ∧ p.items = r.items ∧ (∀ c ∈ p.op, bt c = 40 ∨ bt c = 91 ∨ bt c = 124) ∧
  (((p.want = 0 ∨ p.want = 1) ∧ p.op = []) ∨ ((p.want = 2 ∨ p.want = 3 ∨ p.want = 4) ∧ r.op = 123 :: p.op))
theorem at_mem {l : List UInt8} {i : Nat} (h : i < l.length) : ∃ c ∈ l, at_ l i = bt c := by
  refine ⟨l[i], List.getElem_mem h, ?_⟩
  simp [at_, bt, h]
theorem lastIs_cons (a : UInt8) (o : List UInt8) (d : Int) (h : o ≠ []) : lastIs (a :: o) d = (at_ o (o.length - 1) == d) := by
  cases o with
  | nil => exact absurd rfl h
  | cons b r => simp [lastIs, at_]
theorem take_cons_last (a : UInt8) (o : List UInt8) (h : o ≠ []) : (a :: o).take ((a :: o).length - 1) = a :: o.take (o.length - 1) := by
  cases o with
  | nil => exact absurd rfl h
  | cons b r => simp
/-- A byte in a body: the two readers agree. -/
theorem body_rel (o : List UInt8) (items : Nat) (hop : ∀ c ∈ o, bt c = 40 ∨ bt c = 91 ∨ bt c = 124) (c : Int) :
    (bodyP ⟨2, o, items⟩ c = none ∧ opened c (123 :: o) = none) ∨
    ∃ (w : Int) (o1 o2 : List UInt8), bodyP ⟨2, o, items⟩ c = some ⟨w, o1, items⟩ ∧ opened c (123 :: o) = some (w, o2) ∧ (∀ c ∈ o1, bt c = 40 ∨ bt c = 91 ∨ bt c = 124) ∧ ((w = 0 ∧ o1 = []) ∨ ((w = 2 ∨ w = 3 ∨ w = 4) ∧ o2 = 123 :: o1)) := by
  unfold bodyP opened
  simp only
  by_cases b1 : c = 43 ∨ c = 45
  · right; exact ⟨3, o, _, by rw [if_pos b1], by rw [if_pos b1], hop, by simp⟩
  rw [if_neg b1, if_neg b1]
  by_cases b2 : c = 114 ∨ c = 119
  · right; exact ⟨4, o, _, by rw [if_pos b2], by rw [if_pos b2], hop, by simp⟩
  rw [if_neg b2, if_neg b2]
  by_cases b3 : c = 60 ∨ c = 62 ∨ c = 122
  · right; exact ⟨2, o, _, by rw [if_pos b3], by rw [if_pos (by rcases b3 with h | h | h <;> simp [h])], hop, by simp⟩
  rw [if_neg b3]
  by_cases bu : up c = true
  · right
    have hu := bu
    simp [up] at hu
    refine ⟨2, o, _, ?_, by rw [if_pos (by simp [bu])], hop, by simp⟩
    rw [if_neg (by omega), if_neg (by omega), if_neg (by omega), if_neg (by omega), if_neg (by omega), if_neg (by omega), if_pos bu]
  have b3' : ¬ (c = 60 ∨ c = 62 ∨ c = 122 ∨ up c = true) := by
    rintro (h | h | h | h)
    · exact b3 (Or.inl h)
    · exact b3 (Or.inr (Or.inl h))
    · exact b3 (Or.inr (Or.inr h))
    · exact bu h
  rw [if_neg b3']
  by_cases b4 : c = 40
  · right; refine ⟨2, o ++ [40], _, by rw [if_pos b4], by rw [if_pos b4], ?_, by simp⟩
    intro x hx; simp at hx; rcases hx with hx | hx
    · exact hop x hx
    · subst hx; left; rfl
  rw [if_neg b4, if_neg b4]
  by_cases b5 : c = 91
  · right; refine ⟨2, o ++ [91], _, by rw [if_pos b5], by rw [if_pos b5], ?_, by simp⟩
    intro x hx; simp at hx; rcases hx with hx | hx
    · exact hop x hx
    · subst hx; right; left; rfl
  rw [if_neg b5, if_neg b5]
  have hsub : ∀ n, ∀ x ∈ o.take n, bt x = 40 ∨ bt x = 91 ∨ bt x = 124 := fun n x hx => hop x (List.mem_of_mem_take hx)
  have h123 : o ≠ [] → at_ o (o.length - 1) ≠ 123 := by
    intro ho hh
    have hl : o.length - 1 < o.length := by have := List.length_pos_iff.2 ho; omega
    obtain ⟨x, hx, e⟩ := at_mem hl
    rw [e] at hh
    have := hop x hx
    omega
  have hsh : ∀ d : Int, d ≠ 123 → lastIs (123 :: o) d = (shut o d).isSome := by
    intro d hd
    by_cases ho : o = []
    · subst ho; simp [lastIs, shut, at_]; intro h; exact hd h.symm
    · rw [lastIs_cons _ _ _ ho]
      have := List.length_pos_iff.2 ho
      simp only [shut]
      by_cases hq : at_ o (o.length - 1) = d
      · simp [hq, this]
      · simp [hq]
  have hshv : ∀ d x, shut o d = some x → o ≠ [] ∧ x = o.take (o.length - 1) := by
    intro d x hx
    simp only [shut] at hx
    split at hx
    · next h => cases hx; exact ⟨List.length_pos_iff.1 h.1, rfl⟩
    · cases hx
  by_cases b6 : c = 124
  · subst b6
    simp only [if_true, true_and]
    cases hq : shut o 40 with
    | none => left; simp [hsh 40 (by decide), hq]
    | some x =>
      obtain ⟨ho, rfl⟩ := hshv 40 x hq
      right
      refine ⟨2, o.take (o.length - 1) ++ [124], (123 :: o).take ((123 :: o).length - 1) ++ [124], rfl, by simp [hsh 40 (by decide), hq], ?_, Or.inr ⟨Or.inl rfl, by rw [take_cons_last _ _ ho]; rfl⟩⟩
      intro y hy; simp only [List.mem_append, List.mem_singleton] at hy; rcases hy with hy | hy
      · exact hsub _ y hy
      · subst hy; right; right; rfl
  rw [if_neg b6, if_neg (show ¬ (c = 124 ∧ lastIs (123 :: o) 40 = true) from fun h => b6 h.1)]
  by_cases b7 : c = 41
  · subst b7
    simp only [if_true, true_and]
    cases hq : shut o 124 with
    | none => left; simp [hsh 124 (by decide), hq]
    | some x =>
      obtain ⟨ho, rfl⟩ := hshv 124 x hq
      right
      exact ⟨2, o.take (o.length - 1), (123 :: o).take ((123 :: o).length - 1), rfl, by simp [hsh 124 (by decide), hq], hsub _, Or.inr ⟨Or.inl rfl, take_cons_last _ _ ho⟩⟩
  rw [if_neg b7, if_neg (show ¬ (c = 41 ∧ lastIs (123 :: o) 124 = true) from fun h => b7 h.1)]
  by_cases b8 : c = 93
  · subst b8
    simp only [if_true, true_and]
    cases hq : shut o 91 with
    | none => left; simp [hsh 91 (by decide), hq]
    | some x =>
      obtain ⟨ho, rfl⟩ := hshv 91 x hq
      right
      exact ⟨2, o.take (o.length - 1), (123 :: o).take ((123 :: o).length - 1), rfl, by simp [hsh 91 (by decide), hq], hsub _, Or.inr ⟨Or.inl rfl, take_cons_last _ _ ho⟩⟩
  rw [if_neg b8, if_neg (show ¬ (c = 93 ∧ lastIs (123 :: o) 91 = true) from fun h => b8 h.1)]
  by_cases b9 : c = 125
  · subst b9
    simp only [if_true, true_and]
    by_cases ho : o = []
    · subst ho
      right
      exact ⟨0, [], [], rfl, by simp [lastIs, at_], by simp, Or.inl ⟨rfl, rfl⟩⟩
    · left
      have := List.length_pos_iff.2 ho
      refine ⟨by rw [if_neg (by omega)], ?_⟩
      rw [lastIs_cons _ _ _ ho, if_neg]
      simpa using h123 ho
  · rw [if_neg b9, if_neg (show ¬ (c = 125 ∧ lastIs (123 :: o) 123 = true) from fun h => b9 h.1)]
    left
    exact ⟨by rw [if_neg bu], rfl⟩
theorem step_rel {p r : St} (h : Rel p r) (c : Int) : (stepP p c = none ∧ stepR r c = none) ∨ ∃ p' r', stepP p c = some p' ∧ stepR r c = some r' ∧ Rel p' r' := by
  obtain ⟨want, o, items⟩ := p
  obtain ⟨want2, o2, items2⟩ := r
  obtain ⟨h1, h2, h3, h4⟩ := h
  simp only at h1 h2 h3 h4
  subst h1 h2
  unfold stepP stepR
  simp only
  by_cases w0 : want = 0
  · rw [if_pos w0, if_pos w0]
    by_cases hc : items < 8 ∧ (c = 116 ∨ c = 104 ∨ up c = true)
    · right
      refine ⟨⟨1, o, items + 1⟩, ⟨1, o2, items + 1⟩, by rw [if_pos hc], by rw [if_pos hc], rfl, rfl, h3, Or.inl ⟨Or.inr rfl, ?_⟩⟩
      rcases h4 with h4 | h4
      · exact h4.2
      · omega
    · left; exact ⟨by rw [if_neg hc], by rw [if_neg hc]⟩
  rw [if_neg w0, if_neg w0]
  by_cases w1 : want = 1
  · rw [if_pos w1, if_pos w1]
    have ho : o = [] := by
      rcases h4 with h4 | h4
      · exact h4.2
      · omega
    by_cases hc : c = 123
    · right
      refine ⟨⟨2, o, items⟩, ⟨2, [123], items⟩, by rw [if_pos hc], by rw [if_pos hc], rfl, rfl, h3, Or.inr ⟨Or.inl rfl, by rw [ho]⟩⟩
    · left; exact ⟨by rw [if_neg hc], by rw [if_neg hc]⟩
  rw [if_neg w1, if_neg w1]
  have h5 : (want = 2 ∨ want = 3 ∨ want = 4) ∧ o2 = 123 :: o := by
    rcases h4 with h4 | h4
    · omega
    · exact h4
  by_cases w3 : want = 3
  · rw [if_pos w3, if_pos w3]
    by_cases hc : lk c = true
    · right; exact ⟨⟨2, o, items⟩, ⟨2, o2, items⟩, by rw [if_pos hc], by rw [if_pos hc], rfl, rfl, h3, Or.inr ⟨Or.inl rfl, h5.2⟩⟩
    · left; exact ⟨by rw [if_neg hc], by rw [if_neg hc]⟩
  rw [if_neg w3, if_neg w3]
  by_cases w4 : want = 4
  · rw [if_pos w4, if_pos w4]
    by_cases hc : cl c = true
    · right; exact ⟨⟨2, o, items⟩, ⟨2, o2, items⟩, by rw [if_pos hc], by rw [if_pos hc], rfl, rfl, h3, Or.inr ⟨Or.inl rfl, h5.2⟩⟩
    · left; exact ⟨by rw [if_neg hc], by rw [if_neg hc]⟩
  rw [if_neg w4, if_neg w4]
  have w2 : want = 2 := by omega
  subst w2
  rw [h5.2]
  rcases body_rel o items h3 c with ⟨e1, e2⟩ | ⟨w, o1, o3, e1, e2, e3, e4⟩
  · left; exact ⟨e1, by rw [e2]⟩
  · right
    refine ⟨⟨w, o1, items⟩, ⟨w, o3, items⟩, e1, by rw [e2], rfl, rfl, e3, ?_⟩
    rcases e4 with ⟨e4, e5⟩ | e4
    · exact Or.inl ⟨Or.inl e4, e5⟩
    · exact Or.inr e4
theorem from_same (l : List UInt8) (i : Nat) (p r : St) (h : Rel p r) : faultFrom l i p = placeFrom l i r := by
  induction l generalizing i p r with
  | nil => simp only [faultFrom, placeFrom, h.1, h.2.1]
  | cons c t ih =>
    simp only [faultFrom, placeFrom]
    rcases step_rel h (bt c) with ⟨e1, e2⟩ | ⟨p', r', e1, e2, h'⟩
    · rw [e1, e2]
    · rw [e1, e2]; exact ih _ _ _ h'
theorem fault_same (l : List UInt8) : fault l = place l := from_same l 0 _ _ ⟨rfl, rfl, by simp, Or.inl ⟨Or.inl rfl, rfl⟩⟩
end Wd
end Go.Proofs.Ytecmfdkhcffpmaa
