/- Pure8, PureM2, RefA. -/
import Derived.Test.YtecmfdkhcffpmaaB02
import Derived.Test.YtecmfdkhcffpmaaB01
import Derived.Test.YtecmfdkhcffpmaaRows
import Derived.WalkKit
import Derived.WalkSpells
import Derived.WalkLawsBesides
/- The plain functions of the program: names, functions unfolded, items; the program's answer to Check. -/
namespace Go.Proofs.Ytecmfdkhcffpmaa
open Go.RowKit
set_option linter.unusedSimpArgs false
set_option linter.unusedVariables false
namespace Wd
theorem partsV_at (ps : List Part) (j k : Nat) (hj : j < ps.length) (hk : k < 3) : (partsV ps)[j * 3 + k]? = (partV ps[j])[k]? := by
  induction ps generalizing j with
  | nil => simp at hj
  | cons p r ih =>
    have e : partsV (p :: r) = partV p ++ partsV r := rfl
    rw [e]
    cases j with
    | zero =>
      rw [List.getElem?_append_left (by simp [partV]; omega)]
      simp
    | succ j =>
      rw [List.getElem?_append_right (by simp [partV]; omega)]
      have e2 : (j + 1) * 3 + k - (partV p).length = j * 3 + k := by simp [partV]; omega
      rw [e2, ih j (by simpa using hj)]
      simp
/-- Eight truth values in memory. -/
def arr8b (b : Nat → Bool) : Array Value := #[.bool (b 0), .bool (b 1), .bool (b 2), .bool (b 3), .bool (b 4), .bool (b 5), .bool (b 6), .bool (b 7)]
theorem arr8b_at (b : Nat → Bool) (j : Nat) (h : j < 8) : (arr8b b)[j]? = some (.bool (b j)) := by
  match j, h with
  | 0, _ | 1, _ | 2, _ | 3, _ | 4, _ | 5, _ | 6, _ | 7, _ => rfl
theorem arr8b_set (b : Nat → Bool) (f : Nat) (v : Bool) (h : f < 8) : (arr8b b).setIfInBounds f (.bool v) = arr8b (fun j => if j = f then v else b j) := by
  match f, h with
  | 0, _ | 1, _ | 2, _ | 3, _ | 4, _ | 5, _ | 6, _ | 7, _ => simp [arr8b]
/-- The first name that is there already or that no function has. -/
def namesFrom (F : Nat → Fn) : List Part → (Nat → Bool) → Option Nat
  | [], _ => none
  | p :: r, seen =>
    if up p.letter = true ∧ seen (p.letter - 65).toNat = true then some p.pos
    else match unknown F p.body with
      | some u => some (p.pos + 2 + u)
      | none => namesFrom F r (if up p.letter = true then (fun j => if j = (p.letter - 65).toNat then true else seen j) else seen)
def names (F : Nat → Fn) (ps : List Part) : Option Nat := namesFrom F ps (fun _ => false)
/-- A part as the reader leaves it: a byte, and short. -/
def Part.fine (p : Part) : Prop := 0 ≤ p.letter ∧ p.letter ≤ 255 ∧ p.pos ≤ 10000 ∧ p.body.length ≤ 10000
theorem first_lt {p : Nat → Bool} {n k : Nat} (h : first p n = some k) : k < n := by
  unfold first at h
  have := List.mem_of_find?_eq_some h
  simpa using this
theorem unknown_lt {F : Nat → Fn} {l : List UInt8} {k : Nat} (h : unknown F l = some k) : k < l.length := first_lt h
/-- A function unfolded, by the functions that there are. -/
def newFn (F : Nat → Fn) (f : Fn) : Fn := match unfold F f.body with
  | some x => ⟨f.there, f.body, true, true, x⟩
  | none => ⟨f.there, f.body, true, false, []⟩
def readyStep (F : Nat → Fn) (n : Nat) : Nat → Fn := if (F n).there = true ∧ (F n).done = false ∧ allDone F (F n).body = true then (fun j => if j = n then newFn F (F n) else F j) else F
def readyTo (F : Nat → Fn) : Nat → Nat → Fn
  | 0 => F
  | n + 1 => readyStep (readyTo F n) n
def roundsTo (F : Nat → Fn) : Nat → Nat → Fn
  | 0 => F
  | n + 1 => readyTo (roundsTo F n) 8
def FnFine (F : Nat → Fn) : Prop := ∀ j, (F j).text.length ≤ 300 ∧ (F j).body.length ≤ 10000
theorem unf_len (F : Nat → Fn) (l acc x : List UInt8) (ha : acc.length ≤ 300) (h : unf F l acc = some x) : x.length ≤ 300 := by
  induction l generalizing acc with
  | nil => simp [unf] at h; subst h; exact ha
  | cons c r ih =>
    unfold unf at h
    split at h
    · split at h
      · split at h
        · cases h
        · exact ih _ (by omega) h
      · cases h
    · split at h
      · cases h
      · exact ih _ (by omega) h
theorem newFn_fine {F : Nat → Fn} (h : FnFine F) (n : Nat) : (newFn F (F n)).text.length ≤ 300 ∧ (newFn F (F n)).body.length ≤ 10000 := by
  unfold newFn
  split
  · next x hx => exact ⟨unf_len F _ [] x (by simp) hx, (h n).2⟩
  · exact ⟨by simp, (h n).2⟩
theorem readyStep_fine {F : Nat → Fn} (h : FnFine F) (n : Nat) : FnFine (readyStep F n) := by
  intro j
  unfold readyStep
  split
  · by_cases e : j = n
    · subst e; simp only [if_true]; exact newFn_fine h j
    · simp only [e, if_false]; exact h j
  · exact h j
theorem readyTo_fine {F : Nat → Fn} (h : FnFine F) (n : Nat) : FnFine (readyTo F n) := by
  induction n with
  | zero => exact h
  | succ n ih => exact readyStep_fine ih n
theorem roundsTo_fine {F : Nat → Fn} (h : FnFine F) (n : Nat) : FnFine (roundsTo F n) := by
  induction n with
  | zero => exact h
  | succ n ih => exact readyTo_fine ih 8
/-- Is there a function that could not be unfolded? -/
def leftP (F : Nat → Fn) (j : Nat) : Bool := (F j).there && !(F j).done
def left (F : Nat → Fn) : Bool := (first (leftP F) 8).isSome
/-- A thread or handler, unfolded. -/
structure It where
  handler : Bool
  body : List UInt8
def itV (p : It) : List Value := [.bool p.handler, .string (mkS p.body)]
def itsV (ps : List It) : List Value := ps.flatMap itV
theorem itsV_snoc (ps : List It) (p : It) : itsV (ps ++ [p]) = itsV ps ++ itV p := by simp [itsV]
def itemsFrom (F : Nat → Fn) : List Part → List It → Except Nat (List It)
  | [], acc => .ok acc
  | p :: r, acc =>
    if up p.letter = true then itemsFrom F r acc
    else match unfold F p.body with
      | some x => itemsFrom F r (acc ++ [⟨p.letter == 104, x⟩])
      | none => .error acc.length
def items (F : Nat → Fn) (ps : List Part) : Except Nat (List It) := itemsFrom F ps []
end Wd
end Go.Proofs.Ytecmfdkhcffpmaa
/- The document's machine, plain. -/
namespace Go.Proofs.Ytecmfdkhcffpmaa
open Go.RowKit
set_option linter.unusedSimpArgs false
set_option linter.unusedVariables false
namespace Mc
open Wd
/-- A frame. -/
structure Fr where
  there : Bool
  item : Nat
  pos : Nat
  held : Nat
/-- No frame. -/
def noFr : Fr := ⟨false, 0, 0, 0⟩
/-- A processor. -/
structure Cp where
  t : Fr
  h : Fr
  off : Bool
/-- The machine: its processors; which items are threads that are ready, and where. -/
structure Ma where
  cp : Nat → Cp
  rd : Nat → Bool
  pl : Nat → Nat
def noCp : Cp := ⟨noFr, noFr, false⟩
def bodyOf (its : List It) (i : Nat) : List UInt8 := (its.getD i ⟨false, []⟩).body
def isH (its : List It) (i : Nat) : Bool := (its.getD i ⟨false, []⟩).handler
def begin_ (its : List It) : Ma := ⟨fun _ => noCp, fun i => !isH its i, fun _ => 0⟩
def works (S : Ma) (c : Nat) : Fr := if (S.cp c).h.there = true then (S.cp c).h else (S.cp c).t
def stands (its : List It) (f : Fr) : Int := if f.there = true then atB (bodyOf its f.item) f.pos else 95
def cpHolds (x : Cp) (l : Nat) : Bool := holds x.t.held l || holds x.h.held l
/-- The first processor of k, k + 1 .. (m of them) that holds l. -/
def holderFrom (S : Ma) (l : Nat) : Nat → Nat → Option Nat
  | _, 0 => none
  | k, m + 1 => if cpHolds (S.cp k) l = true then some k else holderFrom S l (k + 1) m
def holder (S : Ma) (n l : Nat) : Option Nat := holderFrom S l 0 n
def toI : Option Nat → Int
  | none => -1
  | some k => (k : Int)
/-- The lock that a frame stands to take. -/
def wantsF (its : List It) (f : Fr) : Option Nat := if stands its f = 43 then some (num (bodyOf its f.item) f.pos).toNat else none
/-- From round k on, m rounds left: whether those that hold lead to c. -/
def ringFrom (its : List It) (S : Ma) (n c : Nat) : Nat → Nat → Nat → Bool
  | _, 0, _ => false
  | k, m + 1, l => match holder S n l with
    | none => false
    | some d => if d = c then decide (0 < k) else match wantsF its (works S d) with
      | none => false
      | some l' => ringFrom its S n c (k + 1) m l'
def ring (its : List It) (S : Ma) (n c l : Nat) : Bool := ringFrom its S n c 0 (n + 1) l
/-- Whether processor d stands at the cell x, and one of both writes. -/
def clashAt (its : List It) (S : Ma) (c : Nat) (x own : Int) (d : Nat) : Bool :=
  let g := works S d
  let s := stands its g
  (decide (d ≠ c) && (decide (s = 114) || decide (s = 119))) && (decide (x = num (bodyOf its g.item) g.pos) && (decide (own = 119) || decide (s = 119)))
def clashFrom (its : List It) (S : Ma) (c : Nat) (x own : Int) : Nat → Nat → Bool
  | _, 0 => false
  | d, m + 1 => if clashAt its S c x own d = true then true else clashFrom its S c x own (d + 1) m
def clash (its : List It) (S : Ma) (n c : Nat) (f : Fr) : Bool := clashFrom its S c (num (bodyOf its f.item) f.pos) (atB (bodyOf its f.item) f.pos) 0 n
def setCp (S : Ma) (c : Nat) (x : Cp) : Ma := { S with cp := fun d => if d = c then x else S.cp d }
def putCp (x : Cp) (f : Fr) : Cp := if x.h.there = true then { x with h := f } else { x with t := f }
def put (S : Ma) (c : Nat) (f : Fr) : Ma := setCp S c (putCp (S.cp c) f)
def setRd (S : Ma) (i : Nat) (b : Bool) : Ma := { S with rd := fun j => if j = i then b else S.rd j }
def setPl (S : Ma) (i p : Nat) : Ma := { S with pl := fun j => if j = i then p else S.pl j }
def leaves (S : Ma) (c p : Nat) : Ma :=
  setCp (setPl (setRd S (S.cp c).t.item true) (S.cp c).t.item p) c { (S.cp c) with t := noFr }
def takes (its : List It) (S : Ma) (n c : Nat) (f : Fr) (l : Nat) : Int × Fr :=
  match holder S n l with
  | some d => if d = c then (68, f) else if ring its S n c l = true then (87, f) else (58, f)
  | none => (43, { f with held := f.held + 2 ^ l, pos := f.pos + 2 })
/-- A step that hangs on the frame alone. -/
def alone (b : List UInt8) (f : Fr) (handler off second : Bool) : Int × Fr × Bool :=
  if atB b f.pos = 45 then
    (if holds f.held (num b f.pos).toNat = true then (45, { f with held := f.held - 2 ^ (num b f.pos).toNat, pos := behind b f.pos second }, off) else (85, f, off))
  else if atB b f.pos = 60 ∨ atB b f.pos = 62 then
    (if handler = true then (73, f, off) else (atB b f.pos, { f with pos := behind b f.pos second }, decide (atB b f.pos = 60)))
  else (atB b f.pos, { f with pos := behind b f.pos second }, off)
def setOff (S : Ma) (c : Nat) (o : Bool) : Ma := setCp S c { (S.cp c) with off := o }
/-- What a step does that hangs on the frame alone, on the machine. -/
def lone (its : List It) (S : Ma) (c : Nat) (second : Bool) : Int × Ma :=
  let f := works S c
  let r := alone (bodyOf its f.item) f (S.cp c).h.there (S.cp c).off second
  (r.1, setOff (put S c r.2.1) c r.2.2)
def step (its : List It) (S : Ma) (n c : Nat) (second : Bool) : Int × Ma :=
  let f := works S c
  let hd := (S.cp c).h.there
  let off := (S.cp c).off && !hd
  let b := bodyOf its f.item
  if f.there = false then (95, S)
  else if atB b f.pos = 101 then (if 0 < f.held ∨ off = true then (69, S) else (101, put S c noFr))
  else if atB b f.pos = 43 then ((takes its S n c f (num b f.pos).toNat).1, put S c (takes its S n c f (num b f.pos).toNat).2)
  else if atB b f.pos = 122 then (if hd = true ∨ 0 < f.held ∨ off = true then (83, S) else (122, leaves S c (f.pos + 1)))
  else if (atB b f.pos = 114 ∨ atB b f.pos = 119) ∧ clash its S n c f = true then (82, S)
  else lone its S c second
def comes (its : List It) (S : Ma) (c i : Nat) : Int × Ma :=
  if its.length ≤ i ∨ (S.cp c).h.there = true then (95, S)
  else if isH its i = true then (if (S.cp c).off = true then (95, S) else (104, setCp S c { (S.cp c) with h := ⟨true, i, 0, 0⟩ }))
  else if (S.cp c).t.there = true ∨ S.rd i = false then (95, S)
  else (116, setCp (setRd S i false) c { (S.cp c) with t := ⟨true, i, S.pl i, 0⟩ })
def command (its : List It) (S : Ma) (n c : Nat) (what : Int) : Int × Ma :=
  if what = 46 ∨ what = 44 then step its S n c (decide (what = 44))
  else if what ≠ 112 then comes its S c (what - 48).toNat
  else if (S.cp c).t.there = false ∨ (S.cp c).h.there = true ∨ 0 < (S.cp c).t.held ∨ (S.cp c).off = true then (95, S)
  else (112, leaves S c (S.cp c).t.pos)
def bad (t : Int) : Bool := t == 68 || t == 85 || t == 83 || t == 69 || t == 73 || t == 87 || t == 82
def isOrd (x : Int) : Bool := x == 46 || x == 44 || x == 112 || (decide (48 ≤ x) && decide (x ≤ 55))
def scriptB (n : Int) : List UInt8 → Bool
  | [] => true
  | [_] => false
  | a :: o :: r => decide (48 ≤ bt a) && decide (bt a - 48 < n) && isOrd (bt o) && scriptB n r
/-- What holds of a frame. -/
structure FrOK (its : List It) (hd : Bool) (f : Fr) : Prop where
  item : f.there = true → f.item < its.length
  kind : f.there = true → isH its f.item = hd
  pos : f.there = true → f.pos ≤ (bodyOf its f.item).length + 1
  held : f.held < 64
  none : f.there = false → f = noFr
structure Inv (its : List It) (n : Nat) (S : Ma) : Prop where
  t : ∀ c, c < n → FrOK its false (S.cp c).t
  h : ∀ c, c < n → FrOK its true (S.cp c).h
  off : ∀ c, c < n → (S.cp c).off = true → (S.cp c).t.there = true
  pl : ∀ i, i < its.length → S.pl i ≤ (bodyOf its i).length + 1
/-- What holds of a body: behind + and - is a lock, behind r and w a cell. -/
def PairOK (b : List UInt8) : Prop := ∀ p, p < b.length → (at_ b p = 43 ∨ at_ b p = 45 → p + 1 < b.length ∧ 97 ≤ at_ b (p + 1) ∧ at_ b (p + 1) ≤ 102) ∧ (at_ b p = 114 ∨ at_ b p = 119 → p + 1 < b.length ∧ 48 ≤ at_ b (p + 1) ∧ at_ b (p + 1) ≤ 51)
structure ItsOK (its : List It) : Prop where
  len : its.length ≤ 240
  body : ∀ i, i < its.length → (bodyOf its i).length ≤ 10000
  pair : ∀ i, i < its.length → PairOK (bodyOf its i)
end Mc
end Go.Proofs.Ytecmfdkhcffpmaa
/- Contracts of the document's small functions. -/
namespace Go.Proofs.Ytecmfdkhcffpmaa
open Go.RowKit
set_option linter.unusedSimpArgs false
set_option linter.unusedVariables false
set_option maxHeartbeats 400000

theorem upper_any (n : Int) (w : World) (h0 : 0 ≤ n) (h1 : n ≤ 255) :
    Calls Try.prog 73 #[.int .u8 n] w fun e w' => e = .returned (.bool (Wd.up n)) ∧ w' = w := by
  by_cases a : 65 ≤ n <;> by_cases b : n ≤ 72
  all_goals
    have hr : Wd.up n = decide (65 ≤ n ∧ n ≤ 72) := rfl
    simp only [a, b, and_self, and_true, true_and, and_false, false_and, decide_true, decide_false] at hr
    rw [hr]
    clear hr
    go_enter Try.func73, Try.ntmps73
    go_wp2
    go_ret
    exact ⟨by simp [a, b], rfl⟩
theorem lock_any (n : Int) (w : World) (h0 : 0 ≤ n) (h1 : n ≤ 255) :
    Calls Try.prog 74 #[.int .u8 n] w fun e w' => e = .returned (.bool (Wd.lk n)) ∧ w' = w := by
  by_cases a : 97 ≤ n <;> by_cases b : n ≤ 102
  all_goals
    have hr : Wd.lk n = decide (97 ≤ n ∧ n ≤ 102) := rfl
    simp only [a, b, and_self, and_true, true_and, and_false, false_and, decide_true, decide_false] at hr
    rw [hr]
    clear hr
    go_enter Try.func74, Try.ntmps74
    go_wp2
    go_ret
    exact ⟨by simp [a, b], rfl⟩
theorem cell_any (n : Int) (w : World) (h0 : 0 ≤ n) (h1 : n ≤ 255) :
    Calls Try.prog 75 #[.int .u8 n] w fun e w' => e = .returned (.bool (Wd.cl n)) ∧ w' = w := by
  by_cases a : 48 ≤ n <;> by_cases b : n ≤ 51
  all_goals
    have hr : Wd.cl n = decide (48 ≤ n ∧ n ≤ 51) := rfl
    simp only [a, b, and_self, and_true, true_and, and_false, false_and, decide_true, decide_false] at hr
    rw [hr]
    clear hr
    go_enter Try.func75, Try.ntmps75
    go_wp2
    go_ret
    exact ⟨by simp [a, b], rfl⟩
theorem isFunction_any (n : Int) (w : World) (h0 : 0 ≤ n) (h1 : n ≤ 255) :
    Calls Try.prog 135 #[.int .u8 n] w fun e w' => e = .returned (.bool (Wd.up n)) ∧ w' = w := by
  by_cases a : 65 ≤ n <;> by_cases b : n ≤ 72
  all_goals
    have hr : Wd.up n = decide (65 ≤ n ∧ n ≤ 72) := rfl
    simp only [a, b, and_self, and_true, true_and, and_false, false_and, decide_true, decide_false] at hr
    rw [hr]
    clear hr
    go_enter Try.func135, Try.ntmps135
    go_wp2
    go_ret
    exact ⟨by simp [a, b]; try omega, rfl⟩
theorem heads_any (s : ByteArray) (i : Nat) (w : World) (hs : s.size ≤ 100000) (hi : i ≤ s.size) :
    Calls Try.prog 78 #[.string s, .int .i64 i] w fun e w' => e = .returned (.bool (Wd.heads s.data.toList i)) ∧ w' = w := by
  by_cases a : i + 1 < s.size
  · have hb := Wd.at_str s (i + 1) a
    have hr : Wd.heads s.data.toList i = (((s[i + 1].toNat : Nat) : Int) == 123) := by
      rw [hb]; simp [Wd.heads, a]
    rw [hr]; clear hr hb
    go_enter Try.func78, Try.ntmps78
    go_wp2
    go_ret
    exact ⟨rfl, rfl⟩
  · have hr : Wd.heads s.data.toList i = false := by
      simp [Wd.heads, Wd.len_str]; omega
    rw [hr]; clear hr
    go_enter Try.func78, Try.ntmps78
    go_wp2
    go_ret
    exact ⟨rfl, rfl⟩

theorem headP_of (s : ByteArray) (n : Int) (k : Nat) (h : k < s.size) : Wd.headP s.data.toList n k = (Wd.heads s.data.toList k && (((s[k].toNat : Nat) : Int) == n)) := by
  rw [Wd.at_str s k h]; rfl

theorem head_any (s : ByteArray) (n : Int) (w : World) (hs : s.size ≤ 100000) (h0 : 0 ≤ n) (h1 : n ≤ 255) :
    Calls Try.prog 77 #[.string s, .int .u8 n] w fun e w' => e = .returned (.int .i64 (Wd.toInt (Wd.head s.data.toList n))) ∧ w' = w := by
  have HL := hide (Wd.len_str s)
  go_enter Try.func77, Try.ntmps77
  go_wp2
  go_loop [5] (fun i => ∃ k : Nat, k ≤ s.size ∧ i = .int .i64 k ∧ (∀ j, j < k → Wd.headP s.data.toList n j = false)) (fun i => s.size - (intOf i).toNat)
  case atStart => exact ⟨0, Nat.zero_le _, rfl, fun j hj => by omega⟩
  case round =>
    obtain ⟨k, hk, rfl, hno⟩ := hrel
    have HN := hide hno
    clear hno
    by_cases hlt : k < s.size
    · have HB := hide (headP_of s n k hlt)
      cases hh : Wd.heads s.data.toList k
      · go_wp2_with (go_at_call 78; refine (heads_any _ _ _ hs (by omega)).mono ?_; rintro e w' ⟨rfl, rfl⟩)
        go_round
        case rel => exact ⟨k + 1, by omega, by go_num, fun j hj => by
          by_cases e : j = k
          · subst e; rw [HB.out, hh]; rfl
          · exact HN.out j (by omega)⟩
        case measure => simp [intOf]; omega
      · by_cases hc : (((s[k].toNat : Nat) : Int) == n) = true
        · go_wp2_with (go_at_call 78; refine (heads_any _ _ _ hs (by omega)).mono ?_; rintro e w' ⟨rfl, rfl⟩)
          go_ret
          refine ⟨ret_int ?_, rfl⟩
          rw [Wd.head, HL.out, Wd.first_yes hlt (by rw [HB.out, hh, hc]; rfl) HN.out]; rfl
        · go_wp2_with (go_at_call 78; refine (heads_any _ _ _ hs (by omega)).mono ?_; rintro e w' ⟨rfl, rfl⟩)
          go_round
          case rel => exact ⟨k + 1, by omega, by go_num, fun j hj => by
            by_cases e : j = k
            · subst e; rw [HB.out, hh]; simpa using hc
            · exact HN.out j (by omega)⟩
          case measure => simp [intOf]; omega
    · go_wp2
      go_ret
      refine ⟨ret_int ?_, rfl⟩
      rw [Wd.head, HL.out, Wd.first_no (fun j hj => HN.out j (by omega))]; rfl

theorem body_fin (s : ByteArray) (i k : Nat) (hk0 : i + 2 ≤ k) (hk : k ≤ s.size) (h1 : ∀ j, i + 2 ≤ j → j < k → ¬ Wd.at_ s.data.toList j = 125) (h2 : k < s.size → Wd.at_ s.data.toList k = 125) :
    (s.extract (i + 2) k).data.toList = Wd.body s.data.toList i ∧ (s.extract (i + 2) k).size ≤ s.size := by
  constructor
  · rw [Wd.body_eq s.data.toList i k hk0 (by rw [Wd.len_str]; exact hk) h1 (by rw [Wd.len_str]; exact h2)]
    rw [Wd.extract_str]
  · simp; omega

theorem body_any (s : ByteArray) (i : Nat) (w : World) (hs : s.size ≤ 100000) (hi : i + 2 ≤ s.size) :
    Calls Try.prog 49 #[.string s, .int .i64 i] w fun e w' => ∃ t : ByteArray, e = .returned (.string t) ∧ t.data.toList = Wd.body s.data.toList i ∧ t.size ≤ s.size ∧ w' = w := by
  go_enter Try.func49, Try.ntmps49
  go_wp2
  go_loop [5] (fun x => ∃ k : Nat, i + 2 ≤ k ∧ k ≤ s.size ∧ x = .int .i64 k ∧ (∀ j, i + 2 ≤ j → j < k → ¬ Wd.at_ s.data.toList j = 125)) (fun x => s.size - (intOf x).toNat)
  case atStart => exact ⟨i + 2, by omega, hi, by go_num, fun j h1 h2 => by omega⟩
  case round =>
    obtain ⟨k, hk0, hk, rfl, hno⟩ := hrel
    have HN := hide hno
    clear hno
    by_cases hlt : k < s.size
    · have HB := hide (Wd.at_str s k hlt)
      cases hc : (((s[k].toNat : Nat) : Int) != 125)
      · go_wp2
        go_ret
        exact ⟨_, rfl, (body_fin s i k hk0 hk HN.out (fun _ => by rw [← HB.out]; simpa using hc)).1, (body_fin s i k hk0 hk HN.out (fun _ => by rw [← HB.out]; simpa using hc)).2, rfl⟩
      · go_wp2
        go_round
        case rel => exact ⟨k + 1, by omega, by omega, by go_num, fun j h1 h2 => by
            by_cases e : j = k
            · subst e; rw [← HB.out]; simpa using hc
            · exact HN.out j h1 (by omega)⟩
        case measure => simp [intOf]; omega
    · go_wp2
      go_ret
      exact ⟨_, rfl, (body_fin s i k hk0 hk HN.out (fun h => absurd h hlt)).1, (body_fin s i k hk0 hk HN.out (fun h => absurd h hlt)).2, rfl⟩

theorem misnamed_any (s : ByteArray) (w : World) (hs : s.size ≤ 100000) :
    Calls Try.prog 45 #[.string s] w fun e w' => e = .returned (.int .i64 (Wd.toInt (Wd.misnamed s.data.toList))) ∧ w' = w := by
  have HL := hide (Wd.len_str s)
  go_enter Try.func45, Try.ntmps45
  go_wp2
  go_loop [3] (fun i => ∃ k : Nat, k ≤ s.size ∧ i = .int .i64 k ∧ (∀ j, j < k → Wd.misP s.data.toList j = false)) (fun i => s.size - (intOf i).toNat)
  case atStart => exact ⟨0, Nat.zero_le _, rfl, fun j hj => by omega⟩
  case round =>
    obtain ⟨k, hk, rfl, hno⟩ := hrel
    have HN := hide hno
    clear hno
    by_cases hlt : k < s.size
    · have HB := hide (Wd.at_str s k hlt)
      have b0 := Wd.at_lo s.data.toList k
      have b1 := Wd.at_hi s.data.toList k
      rw [← HB.out] at b0 b1
      cases hu : Wd.up ((s[k].toNat : Nat) : Int)
      · go_wp2_with (go_at_call 73; refine (upper_any _ _ b0 b1).mono ?_; rintro e w' ⟨rfl, rfl⟩)
        go_round
        case rel => exact ⟨k + 1, by omega, by go_num, fun j hj => by
          by_cases e : j = k
          · subst e; rw [Wd.misP, ← HB.out, hu]; rfl
          · exact HN.out j (by omega)⟩
        case measure => simp [intOf]; omega
      · have HM : Hid (Wd.misP s.data.toList k = (decide (Wd.toInt (Wd.head s.data.toList ((s[k].toNat : Nat) : Int)) < 0) || (Wd.heads s.data.toList k && decide (Wd.toInt (Wd.head s.data.toList ((s[k].toNat : Nat) : Int)) < (k : Int))))) := by
          apply hide; rw [Wd.misP, ← HB.out, hu]; rfl
        generalize hx : Wd.toInt (Wd.head s.data.toList ((s[k].toNat : Nat) : Int)) = x at HM
        have HX := hide hx; clear hx
        by_cases ha : x < 0
        · go_wp2_with (first | (go_at_call 73; refine (upper_any _ _ b0 b1).mono ?_; rintro e w' ⟨rfl, rfl⟩) | (go_at_call 77; refine (head_any _ _ _ hs b0 b1).mono ?_; rw [HX.out]; rintro e w' ⟨rfl, rfl⟩) | (go_at_call 78; refine (heads_any _ _ _ hs (by omega)).mono ?_; rintro e w' ⟨rfl, rfl⟩))
          go_ret
          refine ⟨ret_int ?_, rfl⟩
          rw [Wd.misnamed, HL.out, Wd.first_yes hlt (by rw [HM.out]; simp [ha]) HN.out]; rfl
        · cases hh : Wd.heads s.data.toList k
          · go_wp2_with (first | (go_at_call 73; refine (upper_any _ _ b0 b1).mono ?_; rintro e w' ⟨rfl, rfl⟩) | (go_at_call 77; refine (head_any _ _ _ hs b0 b1).mono ?_; rw [HX.out]; rintro e w' ⟨rfl, rfl⟩) | (go_at_call 78; refine (heads_any _ _ _ hs (by omega)).mono ?_; rintro e w' ⟨rfl, rfl⟩))
            go_round
            case rel => exact ⟨k + 1, by omega, by go_num, fun j hj => by
              by_cases e : j = k
              · subst e; rw [HM.out, hh]; simp [ha]
              · exact HN.out j (by omega)⟩
            case measure => simp [intOf]; omega
          · by_cases hb : x < (k : Int)
            · go_wp2_with (first | (go_at_call 73; refine (upper_any _ _ b0 b1).mono ?_; rintro e w' ⟨rfl, rfl⟩) | (go_at_call 77; refine (head_any _ _ _ hs b0 b1).mono ?_; rw [HX.out]; rintro e w' ⟨rfl, rfl⟩) | (go_at_call 78; refine (heads_any _ _ _ hs (by omega)).mono ?_; rintro e w' ⟨rfl, rfl⟩))
              go_ret
              refine ⟨ret_int ?_, rfl⟩
              rw [Wd.misnamed, HL.out, Wd.first_yes hlt (by rw [HM.out, hh]; simp [hb]) HN.out]; rfl
            · go_wp2_with (first | (go_at_call 73; refine (upper_any _ _ b0 b1).mono ?_; rintro e w' ⟨rfl, rfl⟩) | (go_at_call 77; refine (head_any _ _ _ hs b0 b1).mono ?_; rw [HX.out]; rintro e w' ⟨rfl, rfl⟩) | (go_at_call 78; refine (heads_any _ _ _ hs (by omega)).mono ?_; rintro e w' ⟨rfl, rfl⟩))
              go_round
              case rel => exact ⟨k + 1, by omega, by go_num, fun j hj => by
                by_cases e : j = k
                · subst e; rw [HM.out, hh]; simp [ha]; omega
                · exact HN.out j (by omega)⟩
              case measure => simp [intOf]; omega
    · go_wp2
      go_ret
      refine ⟨ret_int ?_, rfl⟩
      rw [Wd.misnamed, HL.out, Wd.first_no (fun j hj => HN.out j (by omega))]; rfl
end Go.Proofs.Ytecmfdkhcffpmaa
