/- Same1, Same2, Same3, Same4, SameU, PureM1, PureM2. -/
import Derived.Test.YtecmfdkhcffpmabB01
/- The two readers of the form stop at the same byte. -/
namespace Go.Proofs.Ytecmfdkhcffpmab
set_option linter.unusedSimpArgs false
set_option linter.unusedVariables false
namespace Wd
theorem at_mem {l : List UInt8} {i : Nat} (h : i < l.length) : ∃ c ∈ l, at_ l i = bt c := by
  refine ⟨l[i], List.getElem_mem h, ?_⟩
  simp [at_, bt, h]
end Wd
end Go.Proofs.Ytecmfdkhcffpmab
/- A text without a fault is a row of items, one behind the other: where they begin, what their bodies are, by the program's taking apart and by the document's looking. -/
namespace Go.Proofs.Ytecmfdkhcffpmab
set_option linter.unusedSimpArgs false
set_option linter.unusedVariables false
namespace Wd
def flat : List (UInt8 × List UInt8) → List UInt8
  | [] => []
  | x :: r => x.1 :: 123 :: (x.2 ++ 125 :: flat r)
def clean (b : List UInt8) : Prop := ∀ c ∈ b, bt c ≠ 123 ∧ bt c ≠ 125
def okRaw (x : UInt8 × List UInt8) : Prop := (bt x.1 = 116 ∨ bt x.1 = 104 ∨ up (bt x.1) = true) ∧ clean x.2
theorem bt_inj {a b : UInt8} (h : bt a = bt b) : a = b := by
  unfold bt at h
  apply UInt8.toNat_inj.1
  omega
/-- The items with their places. -/
def lay : Nat → List (UInt8 × List UInt8) → List Part
  | _, [] => []
  | o, x :: r => ⟨bt x.1, o, x.2⟩ :: lay (o + x.2.length + 3) r
theorem at_right (a b : List UInt8) (i : Nat) : at_ (a ++ b) (a.length + i) = at_ b i := by
  simp [at_, List.getElem?_append_right]
theorem at_right' (a b : List UInt8) (i j : Nat) (h : i = a.length + j) : at_ (a ++ b) i = at_ b j := by rw [h, at_right]
/-- The bytes of an item. -/
theorem at_item (c : UInt8) (b rest : List UInt8) : at_ (c :: 123 :: (b ++ 125 :: rest)) 0 = bt c ∧ at_ (c :: 123 :: (b ++ 125 :: rest)) 1 = 123 ∧
    (∀ j, j < b.length → at_ (c :: 123 :: (b ++ 125 :: rest)) (2 + j) = at_ b j) ∧ at_ (c :: 123 :: (b ++ 125 :: rest)) (2 + b.length) = 125 ∧ (∀ j, at_ (c :: 123 :: (b ++ 125 :: rest)) (3 + b.length + j) = at_ rest j) := by
  refine ⟨rfl, rfl, ?_, ?_, ?_⟩
  · intro j hj
    have e : at_ (c :: 123 :: (b ++ 125 :: rest)) (2 + j) = at_ (b ++ 125 :: rest) j := by rw [Nat.add_comm]; rfl
    rw [e]; simp [at_, List.getElem?_append_left hj]
  · have e : at_ (c :: 123 :: (b ++ 125 :: rest)) (2 + b.length) = at_ (b ++ 125 :: rest) b.length := by rw [Nat.add_comm]; rfl
    rw [e, at_right' b _ b.length 0 rfl]; rfl
  · intro j
    have e : at_ (c :: 123 :: (b ++ 125 :: rest)) (3 + b.length + j) = at_ (b ++ 125 :: rest) (b.length + (1 + j)) := by
      rw [show 3 + b.length + j = (b.length + (1 + j)) + 2 from by omega]; rfl
    rw [e, at_right, Nat.add_comm]; rfl
theorem flat_len (x : UInt8 × List UInt8) (r : List (UInt8 × List UInt8)) : (flat (x :: r)).length = x.2.length + 3 + (flat r).length := by
  simp [flat]; omega
theorem pre_next (pre : List UInt8) (x : UInt8 × List UInt8) (r : List (UInt8 × List UInt8)) : pre ++ flat (x :: r) = (pre ++ (x.1 :: 123 :: (x.2 ++ [125]))) ++ flat r := by simp [flat]
theorem pre_len (pre : List UInt8) (x : UInt8 × List UInt8) : (pre ++ (x.1 :: 123 :: (x.2 ++ [125]))).length = pre.length + x.2.length + 3 := by simp; omega
theorem at_out (l : List UInt8) (i : Nat) (h : l.length ≤ i) : at_ l i = 0 := by simp [at_, List.getElem?_eq_none h]
theorem at_clean {b : List UInt8} (hb : clean b) (i : Nat) : at_ b i ≠ 123 ∧ at_ b i ≠ 125 := by
  by_cases h : i < b.length
  · obtain ⟨c, hc, e⟩ := at_mem h
    rw [e]; exact hb c hc
  · rw [at_out b i (by omega)]; omega
end Wd
end Go.Proofs.Ytecmfdkhcffpmab
/- The program's parts are the items with their places; the first function of a name; the first name that is wrong. -/
namespace Go.Proofs.Ytecmfdkhcffpmab
set_option linter.unusedSimpArgs false
set_option linter.unusedVariables false
namespace Wd
theorem splitTo_stay (l : List UInt8) (k n : Nat) (h : ∀ i, k ≤ i → i < k + n → at_ l i ≠ 125) : splitTo l (k + n) = splitTo l k := by
  induction n with
  | zero => rfl
  | succ n ih =>
    rw [show k + (n + 1) = (k + n) + 1 from rfl, splitTo, ih (fun i h1 h2 => h i h1 (by omega)), splitStep, if_neg]
    exact fun hh => h (k + n) (by omega) (by omega) hh.1
theorem split_flat (rs : List (UInt8 × List UInt8)) (pre : List UInt8) (h : ∀ x ∈ rs, okRaw x) (ps : List Part) (F : Nat → Fn) (hs : splitTo (pre ++ flat rs) pre.length = ⟨pre.length, ps, F⟩) :
    splitTo (pre ++ flat rs) (pre ++ flat rs).length = ⟨(pre ++ flat rs).length, ps ++ lay pre.length rs, (lay pre.length rs).foldl addF F⟩ := by
  induction rs generalizing pre ps F with
  | nil => simp [flat, lay] at hs ⊢; exact hs
  | cons x r ih =>
    obtain ⟨hx1, hx2⟩ := h x (by simp)
    obtain ⟨a0, a1, a2, a3, a4⟩ := at_item x.1 x.2 (flat r)
    have hst : splitTo (pre ++ flat (x :: r)) (pre.length + (2 + x.2.length)) = ⟨pre.length, ps, F⟩ := by
      rw [splitTo_stay _ _ _ ?_, hs]
      intro i h1 h2
      obtain ⟨k, hk⟩ : ∃ k, i = pre.length + k := ⟨i - pre.length, by omega⟩
      rw [at_right' pre _ i k hk]
      have e : flat (x :: r) = x.1 :: 123 :: (x.2 ++ 125 :: flat r) := rfl
      rw [e]
      by_cases k0 : k = 0
      · rw [k0, a0]
        rcases hx1 with hx | hx | hx
        · omega
        · omega
        · simp [up] at hx; omega
      · by_cases k1 : k = 1
        · rw [k1, a1]; omega
        · obtain ⟨j, hj⟩ : ∃ j, k = 2 + j := ⟨k - 2, by omega⟩
          rw [hj, a2 j (by omega)]
          exact (at_clean hx2 j).2
    have hc : at_ (pre ++ flat (x :: r)) (pre.length + (2 + x.2.length)) = 125 := by
      rw [at_right]; exact a3
    have hpart : partOf (pre ++ flat (x :: r)) pre.length (pre.length + (2 + x.2.length)) = ⟨bt x.1, pre.length, x.2⟩ := by
      unfold partOf
      congr 1
      · rw [at_right' pre _ pre.length 0 rfl]; rfl
      · rw [List.drop_append]
        simp only [Nat.add_sub_cancel_left, List.drop_of_length_le (show pre.length ≤ pre.length + 2 by omega), List.nil_append, flat, List.drop_succ_cons, List.drop_zero]
        rw [show pre.length + (2 + x.2.length) - (pre.length + 2) = x.2.length from by omega]
        simp
    have hstep : splitTo (pre ++ flat (x :: r)) (pre ++ (x.1 :: 123 :: (x.2 ++ [125]))).length = ⟨(pre ++ (x.1 :: 123 :: (x.2 ++ [125]))).length, ps ++ [⟨bt x.1, pre.length, x.2⟩], addF F ⟨bt x.1, pre.length, x.2⟩⟩ := by
      rw [pre_len, show pre.length + x.2.length + 3 = (pre.length + (2 + x.2.length)) + 1 from by omega, splitTo, hst, splitStep, if_pos ⟨hc, by simp only; omega⟩, hpart]
    rw [pre_next] at hstep ⊢
    rw [ih _ (fun y hy => h y (by simp [hy])) _ _ hstep, pre_len]
    simp only [lay, List.foldl_cons, List.append_assoc, List.singleton_append]
theorem split_of (rs : List (UInt8 × List UInt8)) (h : ∀ x ∈ rs, okRaw x) : split (flat rs) = ⟨(flat rs).length, lay 0 rs, (lay 0 rs).foldl addF (fun _ => fn0)⟩ := by
  have := split_flat rs [] h [] (fun _ => fn0) rfl
  simpa [split] using this
end Wd
end Go.Proofs.Ytecmfdkhcffpmab
/- The first name that is wrong: by the program's parts, and by the document's looking byte by byte. -/
namespace Go.Proofs.Ytecmfdkhcffpmab
set_option linter.unusedSimpArgs false
set_option linter.unusedVariables false
namespace Wd
theorem up_iff (c : Int) : up c = true ↔ 65 ≤ c ∧ c ≤ 72 := by simp [up]
end Wd
end Go.Proofs.Ytecmfdkhcffpmab
/- The program's items are the document's. -/
namespace Go.Proofs.Ytecmfdkhcffpmab
set_option linter.unusedSimpArgs false
set_option linter.unusedVariables false
namespace Wd
theorem readP_err {l : List UInt8} {x : Int × Int} (h : readP l = .error x) : x.1 ≠ 0 := by
  unfold readP at h
  repeat' (split at h)
  all_goals (cases h)
  all_goals simp
/-- A body with the functions' texts put in. -/
def expC (G : Nat → Fn) (c : UInt8) : List UInt8 := if up (bt c) = true then (G (bt c - 65).toNat).text else [c]
def exp (G : Nat → Fn) (b : List UInt8) : List UInt8 := b.flatMap (expC G)
theorem unf_exp (G : Nat → Fn) (b acc x : List UInt8) (h : unf G b acc = some x) : x = acc ++ exp G b := by
  induction b generalizing acc with
  | nil => simp [unf] at h; simp [exp, h]
  | cons c r ih =>
    unfold unf at h
    split at h
    · next hu =>
      split at h
      · split at h
        · cases h
        · rw [ih _ h]; simp [exp, expC, hu]
      · cases h
    · next hu =>
      split at h
      · cases h
      · rw [ih _ h]; simp [exp, expC, hu]
/-- The weight of a body: how long it is, unfolded. -/
def wt (V : Nat → Int) (c : UInt8) : Int := if up (bt c) = true then V (bt c - 65).toNat else 1
end Wd
end Go.Proofs.Ytecmfdkhcffpmab
/- The plain functions of the document's machine: places in a body, locks in a number. -/
namespace Go.Proofs.Ytecmfdkhcffpmab
open Go.RowKit
set_option linter.unusedSimpArgs false
set_option linter.unusedVariables false
namespace Mc
open Wd
/-- How a byte changes the depth, read forwards. -/
def dp (c : Int) : Int := if c = 40 ∨ c = 91 then 1 else if c = 41 ∨ c = 93 then -1 else 0
def aheadL (c : Int) : List UInt8 → Int → Nat → Nat
  | [], _, i => i
  | x :: r, d, i => if d = 0 ∧ bt x = c then i else aheadL c r (d + dp (bt x)) (i + 1)
def ahead (b : List UInt8) (p : Nat) (c : Int) : Nat := aheadL c (b.drop (p + 1)) 0 (p + 1)
def backN (b : List UInt8) : Nat → Int → Nat
  | 0, _ => 0
  | i + 1, d => if d = 0 ∧ at_ b i = 91 then i else backN b i (d - dp (at_ b i))
def back (b : List UInt8) (p : Nat) : Nat := backN b p 0
def atB (b : List UInt8) (p : Nat) : Int := if p < b.length then at_ b p else 101
/-- The number of the lock or cell that is named behind p. -/
def num (b : List UInt8) (p : Nat) : Int := if p + 1 < b.length then (if 97 ≤ at_ b (p + 1) then at_ b (p + 1) - 97 else at_ b (p + 1) - 48) else 0
def behind (b : List UInt8) (p : Nat) (second : Bool) : Nat :=
  if atB b p = 43 ∨ atB b p = 45 ∨ atB b p = 114 ∨ atB b p = 119 then p + 2
  else if atB b p = 40 ∧ second = true then ahead b p 124 + 1
  else if atB b p = 124 then ahead b p 41 + 1
  else if atB b p = 91 ∧ second = true then ahead b p 93 + 1
  else if atB b p = 93 then back b p
  else p + 1
theorem aheadL_bd (c : Int) (l : List UInt8) (d : Int) (i : Nat) : i ≤ aheadL c l d i ∧ aheadL c l d i ≤ i + l.length := by
  induction l generalizing d i with
  | nil => simp [aheadL]
  | cons x r ih =>
    unfold aheadL
    split
    · simp
    · have := ih (d + dp (bt x)) (i + 1)
      simp; omega
theorem ahead_bd (b : List UInt8) (p : Nat) (c : Int) (h : p < b.length) : p < ahead b p c ∧ ahead b p c ≤ b.length := by
  have := aheadL_bd c (b.drop (p + 1)) 0 (p + 1)
  unfold ahead
  simp at this; omega
theorem backN_le (b : List UInt8) (i : Nat) (d : Int) : backN b i d ≤ i := by
  induction i generalizing d with
  | zero => simp [backN]
  | succ i ih =>
    unfold backN
    split
    · omega
    · have := ih (d - dp (at_ b i)); omega
def holds (held : Nat) (l : Nat) : Bool := held.testBit l
end Mc
theorem atB_bd (l : List UInt8) (p : Nat) : 0 ≤ Mc.atB l p ∧ Mc.atB l p ≤ 255 := by
  unfold Mc.atB
  split
  · exact ⟨Wd.at_lo _ _, Wd.at_hi _ _⟩
  · omega
end Go.Proofs.Ytecmfdkhcffpmab
/- The document's machine, plain. -/
namespace Go.Proofs.Ytecmfdkhcffpmab
open Go.RowKit
set_option linter.unusedSimpArgs false
set_option linter.unusedVariables false
namespace Mc
open Wd
/-- A frame. -/
structure Fr where
  there : Bool
  item : Nat
  pos : Nat
  held : Nat
/-- No frame. -/
def noFr : Fr := ⟨false, 0, 0, 0⟩
/-- A processor. -/
structure Cp where
  t : Fr
  h : Fr
  off : Bool
/-- The machine: its processors; which items are threads that are ready, and where. -/
structure Ma where
  cp : Nat → Cp
  rd : Nat → Bool
  pl : Nat → Nat
def noCp : Cp := ⟨noFr, noFr, false⟩
def bodyOf (its : List It) (i : Nat) : List UInt8 := (its.getD i ⟨false, []⟩).body
def isH (its : List It) (i : Nat) : Bool := (its.getD i ⟨false, []⟩).handler
def begin_ (its : List It) : Ma := ⟨fun _ => noCp, fun i => !isH its i, fun _ => 0⟩
def works (S : Ma) (c : Nat) : Fr := if (S.cp c).h.there = true then (S.cp c).h else (S.cp c).t
def stands (its : List It) (f : Fr) : Int := if f.there = true then atB (bodyOf its f.item) f.pos else 95
def cpHolds (x : Cp) (l : Nat) : Bool := holds x.t.held l || holds x.h.held l
/-- The first processor of k, k + 1 .. (m of them) that holds l. -/
def holderFrom (S : Ma) (l : Nat) : Nat → Nat → Option Nat
  | _, 0 => none
  | k, m + 1 => if cpHolds (S.cp k) l = true then some k else holderFrom S l (k + 1) m
def holder (S : Ma) (n l : Nat) : Option Nat := holderFrom S l 0 n
def toI : Option Nat → Int
  | none => -1
  | some k => (k : Int)
/-- The lock that a frame stands to take. -/
def wantsF (its : List It) (f : Fr) : Option Nat := if stands its f = 43 then some (num (bodyOf its f.item) f.pos).toNat else none
/-- From round k on, m rounds left: whether those that hold lead to c. -/
def ringFrom (its : List It) (S : Ma) (n c : Nat) : Nat → Nat → Nat → Bool
  | _, 0, _ => false
  | k, m + 1, l => match holder S n l with
    | none => false
    | some d => if d = c then decide (0 < k) else match wantsF its (works S d) with
      | none => false
      | some l' => ringFrom its S n c (k + 1) m l'
def ring (its : List It) (S : Ma) (n c l : Nat) : Bool := ringFrom its S n c 0 (n + 1) l
/-- Whether processor d stands at the cell x, and one of both writes. -/
def clashAt (its : List It) (S : Ma) (c : Nat) (x own : Int) (d : Nat) : Bool :=
  let g := works S d
  let s := stands its g
  (decide (d ≠ c) && (decide (s = 114) || decide (s = 119))) && (decide (x = num (bodyOf its g.item) g.pos) && (decide (own = 119) || decide (s = 119)))
def clashFrom (its : List It) (S : Ma) (c : Nat) (x own : Int) : Nat → Nat → Bool
  | _, 0 => false
  | d, m + 1 => if clashAt its S c x own d = true then true else clashFrom its S c x own (d + 1) m
def clash (its : List It) (S : Ma) (n c : Nat) (f : Fr) : Bool := clashFrom its S c (num (bodyOf its f.item) f.pos) (atB (bodyOf its f.item) f.pos) 0 n
def setCp (S : Ma) (c : Nat) (x : Cp) : Ma := { S with cp := fun d => if d = c then x else S.cp d }
def putCp (x : Cp) (f : Fr) : Cp := if x.h.there = true then { x with h := f } else { x with t := f }
def put (S : Ma) (c : Nat) (f : Fr) : Ma := setCp S c (putCp (S.cp c) f)
def setRd (S : Ma) (i : Nat) (b : Bool) : Ma := { S with rd := fun j => if j = i then b else S.rd j }
def setPl (S : Ma) (i p : Nat) : Ma := { S with pl := fun j => if j = i then p else S.pl j }
def leaves (S : Ma) (c p : Nat) : Ma :=
  setCp (setPl (setRd S (S.cp c).t.item true) (S.cp c).t.item p) c { (S.cp c) with t := noFr }
def takes (its : List It) (S : Ma) (n c : Nat) (f : Fr) (l : Nat) : Int × Fr :=
  match holder S n l with
  | some d => if d = c then (68, f) else if ring its S n c l = true then (87, f) else (58, f)
  | none => (43, { f with held := f.held + 2 ^ l, pos := f.pos + 2 })
/-- A step that hangs on the frame alone. -/
def alone (b : List UInt8) (f : Fr) (handler off second : Bool) : Int × Fr × Bool :=
  if atB b f.pos = 45 then
    (if holds f.held (num b f.pos).toNat = true then (45, { f with held := f.held - 2 ^ (num b f.pos).toNat, pos := behind b f.pos second }, off) else (85, f, off))
  else if atB b f.pos = 60 ∨ atB b f.pos = 62 then
    (if handler = true then (73, f, off) else (atB b f.pos, { f with pos := behind b f.pos second }, decide (atB b f.pos = 60)))
  else (atB b f.pos, { f with pos := behind b f.pos second }, off)
def setOff (S : Ma) (c : Nat) (o : Bool) : Ma := setCp S c { (S.cp c) with off := o }
/-- What a step does that hangs on the frame alone, on the machine. -/
def lone (its : List It) (S : Ma) (c : Nat) (second : Bool) : Int × Ma :=
  let f := works S c
  let r := alone (bodyOf its f.item) f (S.cp c).h.there (S.cp c).off second
  (r.1, setOff (put S c r.2.1) c r.2.2)
def step (its : List It) (S : Ma) (n c : Nat) (second : Bool) : Int × Ma :=
  let f := works S c
  let hd := (S.cp c).h.there
  let off := (S.cp c).off && !hd
  let b := bodyOf its f.item
  if f.there = false then (95, S)
  else if atB b f.pos = 101 then (if 0 < f.held ∨ off = true then (69, S) else (101, put S c noFr))
  else if atB b f.pos = 43 then ((takes its S n c f (num b f.pos).toNat).1, put S c (takes its S n c f (num b f.pos).toNat).2)
  else if atB b f.pos = 122 then (if hd = true ∨ 0 < f.held ∨ off = true then (83, S) else (122, leaves S c (f.pos + 1)))
  else if (atB b f.pos = 114 ∨ atB b f.pos = 119) ∧ clash its S n c f = true then (82, S)
  else lone its S c second
def comes (its : List It) (S : Ma) (c i : Nat) : Int × Ma :=
  if its.length ≤ i ∨ (S.cp c).h.there = true then (95, S)
  else if isH its i = true then (if (S.cp c).off = true then (95, S) else (104, setCp S c { (S.cp c) with h := ⟨true, i, 0, 0⟩ }))
  else if (S.cp c).t.there = true ∨ S.rd i = false then (95, S)
  else (116, setCp (setRd S i false) c { (S.cp c) with t := ⟨true, i, S.pl i, 0⟩ })
def command (its : List It) (S : Ma) (n c : Nat) (what : Int) : Int × Ma :=
  if what = 46 ∨ what = 44 then step its S n c (decide (what = 44))
  else if what ≠ 112 then comes its S c (what - 48).toNat
  else if (S.cp c).t.there = false ∨ (S.cp c).h.there = true ∨ 0 < (S.cp c).t.held ∨ (S.cp c).off = true then (95, S)
  else (112, leaves S c (S.cp c).t.pos)
def bad (t : Int) : Bool := t == 68 || t == 85 || t == 83 || t == 69 || t == 73 || t == 87 || t == 82
/-- The trace. -/
def trace (its : List It) (n : Nat) : Ma → List UInt8 → List Int
  | S, a :: o :: r => (command its S n (bt a - 48).toNat (bt o)).1 :: (if bad (command its S n (bt a - 48).toNat (bt o)).1 = true then [] else trace its n (command its S n (bt a - 48).toNat (bt o)).2 r)
  | _, _ => []
def isOrd (x : Int) : Bool := x == 46 || x == 44 || x == 112 || (decide (48 ≤ x) && decide (x ≤ 55))
def scriptB (n : Int) : List UInt8 → Bool
  | [] => true
  | [_] => false
  | a :: o :: r => decide (48 ≤ bt a) && decide (bt a - 48 < n) && isOrd (bt o) && scriptB n r
/-- What holds of a frame. -/
structure FrOK (its : List It) (hd : Bool) (f : Fr) : Prop where
  item : f.there = true → f.item < its.length
  kind : f.there = true → isH its f.item = hd
  pos : f.there = true → f.pos ≤ (bodyOf its f.item).length + 1
  held : f.held < 64
  none : f.there = false → f = noFr
structure Inv (its : List It) (n : Nat) (S : Ma) : Prop where
  t : ∀ c, c < n → FrOK its false (S.cp c).t
  h : ∀ c, c < n → FrOK its true (S.cp c).h
  off : ∀ c, c < n → (S.cp c).off = true → (S.cp c).t.there = true
  pl : ∀ i, i < its.length → S.pl i ≤ (bodyOf its i).length + 1
/-- What holds of a body: behind + and - is a lock, behind r and w a cell. -/
def PairOK (b : List UInt8) : Prop := ∀ p, p < b.length → (at_ b p = 43 ∨ at_ b p = 45 → p + 1 < b.length ∧ 97 ≤ at_ b (p + 1) ∧ at_ b (p + 1) ≤ 102) ∧ (at_ b p = 114 ∨ at_ b p = 119 → p + 1 < b.length ∧ 48 ≤ at_ b (p + 1) ∧ at_ b (p + 1) ≤ 51)
structure ItsOK (its : List It) : Prop where
  len : its.length ≤ 240
  body : ∀ i, i < its.length → (bodyOf its i).length ≤ 10000
  pair : ∀ i, i < its.length → PairOK (bodyOf its i)
end Mc
end Go.Proofs.Ytecmfdkhcffpmab
