/- PureA1, PureA0, PureA2. -/
import Derived.Test.YtecmfdkhcffpmabB01
import Derived.Test.YtecmfdkhcffpmabB13
/- Plain: tables, rings, races. -/
namespace Go.Proofs.Ytecmfdkhcffpmab
open Go.RowKit
set_option linter.unusedSimpArgs false
set_option linter.unusedVariables false
/-- A report: kind, item, place. -/
abbrev Rp := Int × Int × Int
/-- A table from lock to lock. -/
abbrev Tb := Nat → Nat → Bool
def withT (T : Tb) (a b : Nat) : Tb := fun l m => T l m || (a.testBit l && b.testBit m)
/-- One cell of a table is set. -/
def upT (T : Tb) (i j : Nat) (v : Bool) : Tb := fun l m => if l = i ∧ m = j then v else T l m
def fwJ (T : Tb) (k i : Nat) : Nat → Tb
  | 0 => T
  | j + 1 => upT (fwJ T k i j) i j (fwJ T k i j i j || (fwJ T k i j i k && fwJ T k i j k j))
def fwI (T : Tb) (k : Nat) : Nat → Tb
  | 0 => T
  | i + 1 => fwJ (fwI T k i) k i 6
def fwK (T : Tb) : Nat → Tb
  | 0 => T
  | k + 1 => fwI (fwK T k) k 6
theorem upT_same (T : Tb) (i j : Nat) : upT T i j (T i j) = T := by
  funext l m
  unfold upT
  split
  · rename_i h; rw [h.1, h.2]
  · rfl
theorem fwJ_no (T : Tb) (k i j : Nat) (h : (fwJ T k i j i k && fwJ T k i j k j) = false) : fwJ T k i (j + 1) = fwJ T k i j := by
  show upT (fwJ T k i j) i j (fwJ T k i j i j || (fwJ T k i j i k && fwJ T k i j k j)) = _
  rw [h, Bool.or_false, upT_same]
theorem fwJ_yes (T : Tb) (k i j : Nat) (h : (fwJ T k i j i k && fwJ T k i j k j) = true) : fwJ T k i (j + 1) = upT (fwJ T k i j) i j true := by
  show upT (fwJ T k i j) i j (fwJ T k i j i j || (fwJ T k i j i k && fwJ T k i j k j)) = _
  rw [h, Bool.or_true]
/-- The rows of a table that was gone round: the reports of rings below n. -/
def ringL (T : Tb) (n : Nat) : List Rp := ((List.range n).filter (fun l => T l l)).map (fun l => (6, -1, ((l : Nat) : Int)))
theorem ringL_yes (T : Tb) (n : Nat) (h : T n n = true) : ringL T (n + 1) = ringL T n ++ [(6, -1, ((n : Nat) : Int))] := by
  simp [ringL, List.range_succ, List.filter_append, List.filter, h]
theorem ringL_no (T : Tb) (n : Nat) (h : T n n = false) : ringL T (n + 1) = ringL T n := by
  simp [ringL, List.range_succ, List.filter_append, List.filter, h]
theorem ringL_len (T : Tb) (n : Nat) : (ringL T n).length ≤ n := by
  unfold ringL
  rw [List.length_map]
  have := List.length_filter_le (fun l => T l l) (List.range n)
  simpa using this
/-- The edges, as they are listed. -/
def edgeRow (T : Tb) (l n : Nat) : List (Int × Int) := ((List.range n).filter (fun m => T l m)).map (fun m => ((l : Int), ((m : Nat) : Int)))
theorem edgeRow_zero (T : Tb) (l : Nat) : edgeRow T l 0 = [] := rfl
theorem edgeRow_yes (T : Tb) (l n : Nat) (h : T l n = true) : edgeRow T l (n + 1) = edgeRow T l n ++ [((l : Int), ((n : Nat) : Int))] := by
  simp [edgeRow, List.range_succ, List.filter_append, List.filter, h]
theorem edgeRow_no (T : Tb) (l n : Nat) (h : T l n = false) : edgeRow T l (n + 1) = edgeRow T l n := by
  simp [edgeRow, List.range_succ, List.filter_append, List.filter, h]
theorem edgeRow_len (T : Tb) (l n : Nat) : (edgeRow T l n).length ≤ n := by
  unfold edgeRow
  rw [List.length_map]
  have := List.length_filter_le (fun m => T l m) (List.range n)
  simpa using this
def edgeL (T : Tb) (n : Nat) : List (Int × Int) := (List.range n).flatMap (fun l => edgeRow T l 6)
theorem edgeL_succ (T : Tb) (n : Nat) : edgeL T (n + 1) = edgeL T n ++ edgeRow T n 6 := by simp [edgeL, List.range_succ]
theorem edgeL_len (T : Tb) (n : Nat) : (edgeL T n).length ≤ n * 6 := by
  induction n with
  | zero => simp [edgeL]
  | succ n ih => rw [edgeL_succ, List.length_append]; have := edgeRow_len T n 6; omega
/-- With which locks held an item writes, and goes at all, to a cell. -/
structure Vi where
  wr : Nat → Bool
  ei : Nat → Bool
/-- Two clash. -/
def clashV (v o : Vi) : Bool := (List.range 64).any (fun x => (List.range 64).any (fun y => v.ei x && o.ei y && decide (x &&& y = 0) && (v.wr x || o.wr y)))
def clashRow (v o : Vi) (x n : Nat) : Bool := (List.range n).any (fun y => v.ei x && o.ei y && decide (x &&& y = 0) && (v.wr x || o.wr y))
def clashTo (v o : Vi) (n : Nat) : Bool := (List.range n).any (fun x => clashRow v o x 64)
theorem clashTo_all (v o : Vi) : clashTo v o 64 = clashV v o := rfl
theorem clashRow_succ (v o : Vi) (x n : Nat) : clashRow v o x (n + 1) = (clashRow v o x n || (v.ei x && o.ei n && decide (x &&& n = 0) && (v.wr x || o.wr n))) := by
  simp [clashRow, List.range_succ]
theorem clashTo_succ (v o : Vi) (n : Nat) : clashTo v o (n + 1) = (clashTo v o n || clashRow v o n 64) := by
  simp [clashTo, List.range_succ]
theorem clashTo_of {v o : Vi} {x n : Nat} (hx : x < n) (h : clashRow v o x 64 = true) : clashTo v o n = true := by
  unfold clashTo
  rw [List.any_eq_true]
  exact ⟨x, List.mem_range.2 hx, h⟩
theorem clashRow_of {v o : Vi} {x y n : Nat} (hy : y < n) (h : (v.ei x && o.ei y && decide (x &&& y = 0) && (v.wr x || o.wr y)) = true) : clashRow v o x n = true := by
  unfold clashRow
  rw [List.any_eq_true]
  exact ⟨y, List.mem_range.2 hy, h⟩
def raceL (P : Nat → Bool) (n : Nat) : List Rp := ((List.range n).filter P).map (fun c => (7, -1, ((c : Nat) : Int)))
theorem raceL_yes (P : Nat → Bool) (n : Nat) (h : P n = true) : raceL P (n + 1) = raceL P n ++ [(7, -1, ((n : Nat) : Int))] := by
  simp [raceL, List.range_succ, List.filter_append, List.filter, h]
theorem raceL_no (P : Nat → Bool) (n : Nat) (h : P n = false) : raceL P (n + 1) = raceL P n := by
  simp [raceL, List.range_succ, List.filter_append, List.filter, h]
theorem raceL_len (P : Nat → Bool) (n : Nat) : (raceL P n).length ≤ n := by
  unfold raceL
  rw [List.length_map]
  have := List.length_filter_le P (List.range n)
  simpa using this
theorem raceL_congr (P Q : Nat → Bool) (n : Nat) (h : ∀ p, p < n → P p = Q p) : raceL P n = raceL Q n := by
  unfold raceL
  rw [List.filter_congr (fun p hp => h p (List.mem_range.1 hp))]
end Go.Proofs.Ytecmfdkhcffpmab
/- Plain: kinds of reports; what the program gathers from the states of items. -/
namespace Go.Proofs.Ytecmfdkhcffpmab
open Go.RowKit
set_option linter.unusedSimpArgs false
set_option linter.unusedVariables false
open Mc
/-- The kind of a letter. -/
def kindP (f : Int) : Int := if f = 68 then 1 else if f = 85 then 2 else if f = 83 then 3 else if f = 69 then 4 else if f = 73 then 5 else 0
theorem faultP_vals (hd : Bool) (b : List UInt8) (p h : Nat) (off : Bool) : faultP hd b p h off = 0 ∨ faultP hd b p h off = 68 ∨ faultP hd b p h off = 85 ∨ faultP hd b p h off = 83 ∨ faultP hd b p h off = 69 ∨ faultP hd b p h off = 73 := by
  unfold faultP
  repeat' split
  all_goals simp
/-- The kind that a place can have. -/
def kindC (c : Int) : Int := if c = 43 then 1 else if c = 45 then 2 else if c = 122 then 3 else if c = 60 ∨ c = 62 then 5 else if c = 101 then 4 else 0
/-- The kind of a state's report; 0: there is none. -/
def kd (hd : Bool) (b : List UInt8) (s : St3) : Int := kindP (faultP hd b s.1 s.2.1 s.2.2)
theorem kd_c (hd : Bool) (b : List UInt8) (s : St3) : kd hd b s = 0 ∨ kd hd b s = kindC (atB b s.1) := by
  unfold kd faultP kindC
  by_cases e43 : atB b s.1 = 43
  · simp only [e43, if_true]
    split <;> simp [kindP]
  simp only [e43, if_false]
  by_cases e45 : atB b s.1 = 45
  · simp only [e45, if_true]
    split <;> simp [kindP]
  simp only [e45, if_false]
  by_cases e122 : atB b s.1 = 122
  · simp only [e122, if_true]
    split <;> simp [kindP]
  simp only [e122, if_false]
  by_cases e60 : atB b s.1 = 60 ∨ atB b s.1 = 62
  · simp only [e60, if_true]
    split <;> simp [kindP]
  simp only [e60, if_false]
  by_cases e101 : atB b s.1 = 101
  · simp only [e101, if_true]
    split <;> simp [kindP]
  simp only [e101, if_false]
  simp [kindP]
theorem kd_bd (hd : Bool) (b : List UInt8) (s : St3) : 0 ≤ kd hd b s ∧ kd hd b s ≤ 5 := by
  unfold kd kindP
  repeat' split
  all_goals omega
/-- There is a report of kind k at place p. -/
def BadAt (hd : Bool) (b : List UInt8) (k : Int) (p : Nat) : Prop := ∃ h off, Rch hd b (p, h, off) ∧ kd hd b (p, h, off) = k
/-- What the program writes down by places. -/
def kUp (hd : Bool) (b : List UInt8) (f : Nat → Int) (r : Rc) : Nat → Int := fun p => if p = r.p ∧ kd hd b r.st ≠ 0 then kd hd b r.st else f p
def kAt (hd : Bool) (b : List UInt8) (L : List Rc) : Nat → Int := L.foldl (kUp hd b) (fun _ => 0)
theorem foldl_take {α β : Type} (f : β → α → β) (z : β) (L : List α) {i : Nat} {r : α} (h : L[i]? = some r) : (L.take (i + 1)).foldl f z = f ((L.take i).foldl f z) r := by
  rw [List.take_add_one, h]; simp
theorem kAt_take {hd : Bool} {b : List UInt8} {L : List Rc} {i : Nat} {r : Rc} (h : L[i]? = some r) : kAt hd b (L.take (i + 1)) = kUp hd b (kAt hd b (L.take i)) r := foldl_take _ _ L h
theorem kAt_snoc (hd : Bool) (b : List UInt8) (L : List Rc) (r : Rc) : kAt hd b (L ++ [r]) = kUp hd b (kAt hd b L) r := by simp [kAt]
theorem kAt_or (hd : Bool) (b : List UInt8) (p : Nat) (R : List Rc) : kAt hd b R.reverse p = 0 ∨ kAt hd b R.reverse p = kindC (atB b p) := by
  induction R with
  | nil => exact Or.inl rfl
  | cons r R ih =>
    rw [List.reverse_cons, kAt_snoc]
    unfold kUp
    split
    · rename_i h
      rcases kd_c hd b r.st with e | e
      · exact absurd e h.2
      · right; rw [e, h.1]; rfl
    · exact ih
theorem kAt_ne (hd : Bool) (b : List UInt8) (p : Nat) (R : List Rc) : kAt hd b R.reverse p ≠ 0 ↔ ∃ r ∈ R, r.p = p ∧ kd hd b r.st ≠ 0 := by
  induction R with
  | nil => simp [kAt]
  | cons r R ih =>
    rw [List.reverse_cons, kAt_snoc]
    unfold kUp
    by_cases h : p = r.p ∧ kd hd b r.st ≠ 0
    · rw [if_pos h]
      exact ⟨fun _ => ⟨r, by simp, h.1.symm, h.2⟩, fun _ => h.2⟩
    · rw [if_neg h, ih]
      constructor
      · rintro ⟨q, hq, e⟩; exact ⟨q, by simp [hq], e⟩
      · rintro ⟨q, hq, e⟩
        rcases List.mem_cons.1 hq with rfl | hq
        · exact absurd ⟨e.1.symm, e.2⟩ h
        · exact ⟨q, hq, e⟩
theorem kAt_iff (hd : Bool) (b : List UInt8) (L : List Rc) (hL : ∀ s, Rch hd b s ↔ ∃ r ∈ L, r.st = s) (p : Nat) (k : Int) (hk : k ≠ 0) : kAt hd b L p = k ↔ BadAt hd b k p := by
  have h1 := kAt_or hd b p L.reverse
  have h2 := kAt_ne hd b p L.reverse
  rw [List.reverse_reverse] at h1 h2
  constructor
  · intro e
    have h3 : kAt hd b L p ≠ 0 := by rw [e]; exact hk
    obtain ⟨r, hr, ep, ek⟩ := h2.1 h3
    have hr' : r ∈ L := List.mem_reverse.1 hr
    refine ⟨r.h, r.off, (hL _).2 ⟨r, hr', by rw [← ep]; rfl⟩, ?_⟩
    have : (p, r.h, r.off) = r.st := by rw [← ep]; rfl
    rw [this]
    rcases kd_c hd b r.st with e1 | e1
    · exact absurd e1 ek
    · rcases h1 with e2 | e2
      · exact absurd e2 h3
      · rw [e1, ← e, e2, ← ep]; rfl
  · rintro ⟨h, off, hr, e⟩
    obtain ⟨r, hr', es⟩ := (hL _).1 hr
    have h3 : kAt hd b L p ≠ 0 := h2.2 ⟨r, List.mem_reverse.2 hr', by have := congrArg Prod.fst es; exact this, by rw [es, e]; exact hk⟩
    rcases h1 with e2 | e2
    · exact absurd e2 h3
    · rw [e2]
      rcases kd_c hd b (p, h, off) with e1 | e1
      · rw [e1] at e; exact absurd e.symm hk
      · rw [← e, e1]
/-- The reports of one kind of one item, of the places below n. -/
def soloRow (P : Nat → Bool) (k i : Nat) (n : Nat) : List Rp := ((List.range n).filter P).map (fun p => ((k : Int), (i : Int), ((p : Nat) : Int)))
theorem soloRow_zero (P : Nat → Bool) (k i : Nat) : soloRow P k i 0 = [] := rfl
theorem soloRow_yes (P : Nat → Bool) (k i n : Nat) (h : P n = true) : soloRow P k i (n + 1) = soloRow P k i n ++ [((k : Int), (i : Int), ((n : Nat) : Int))] := by
  simp [soloRow, List.range_succ, List.filter_append, List.filter, h]
theorem soloRow_no (P : Nat → Bool) (k i n : Nat) (h : P n = false) : soloRow P k i (n + 1) = soloRow P k i n := by
  simp [soloRow, List.range_succ, List.filter_append, List.filter, h]
theorem soloRow_congr (P Q : Nat → Bool) (k i n : Nat) (h : ∀ p, p < n → P p = Q p) : soloRow P k i n = soloRow Q k i n := by
  unfold soloRow
  rw [List.filter_congr (fun p hp => h p (List.mem_range.1 hp))]
theorem soloRow_len (P : Nat → Bool) (k i n : Nat) : (soloRow P k i n).length ≤ n := by
  unfold soloRow
  rw [List.length_map]
  have := List.length_filter_le P (List.range n)
  simpa using this
/-- The reports of one kind, of the items below m. -/
def soloK (P : Nat → Nat → Nat → Bool) (N : Nat → Nat) (k m : Nat) : List Rp := (List.range m).flatMap (fun i => soloRow (P k i) k i (N i))
theorem soloK_zero (P : Nat → Nat → Nat → Bool) (N : Nat → Nat) (k : Nat) : soloK P N k 0 = [] := rfl
theorem soloK_succ (P : Nat → Nat → Nat → Bool) (N : Nat → Nat) (k m : Nat) : soloK P N k (m + 1) = soloK P N k m ++ soloRow (P k m) k m (N m) := by
  simp [soloK, List.range_succ]
theorem soloK_len (P : Nat → Nat → Nat → Bool) (N : Nat → Nat) (k m : Nat) (h : ∀ i, i < m → N i ≤ 301) : (soloK P N k m).length ≤ m * 301 := by
  induction m with
  | zero => simp [soloK]
  | succ m ih =>
    rw [soloK_succ, List.length_append]
    have h1 := ih (fun i hi => h i (by omega))
    have h2 := soloRow_len (P k m) k m (N m)
    have h3 := h m (by omega)
    omega
/-- The reports of the kinds 1 to n. -/
def solos (P : Nat → Nat → Nat → Bool) (N : Nat → Nat) (m n : Nat) : List Rp := (List.range n).flatMap (fun k => soloK P N (k + 1) m)
theorem solos_succ (P : Nat → Nat → Nat → Bool) (N : Nat → Nat) (m n : Nat) : solos P N m (n + 1) = solos P N m n ++ soloK P N (n + 1) m := by
  simp [solos, List.range_succ]
theorem solos_len (P : Nat → Nat → Nat → Bool) (N : Nat → Nat) (m n : Nat) (h : ∀ i, i < m → N i ≤ 301) : (solos P N m n).length ≤ n * (m * 301) := by
  induction n with
  | zero => simp [solos]
  | succ n ih =>
    rw [solos_succ, List.length_append, Nat.succ_mul]
    have := soloK_len P N (n + 1) m h
    omega
end Go.Proofs.Ytecmfdkhcffpmab
/- Plain: edges and races, as the program gathers them. -/
namespace Go.Proofs.Ytecmfdkhcffpmab
open Go.RowKit
set_option linter.unusedSimpArgs false
set_option linter.unusedVariables false
open Mc
/-- The lock that is taken at a place with those held. -/
def tkP (b : List UInt8) (p h : Nat) : Nat := if atB b p = 43 ∧ hasB h (numP b p) = false then 2 ^ (numP b p).toNat else 0
/-- Edges, what threads hold with interrupts on, what handlers take. -/
structure Ef where
  T : Tb
  op : Nat
  tk : Nat
def efOp (hd off : Bool) (op h : Nat) : Nat := if hd = false ∧ off = false then op ||| h else op
def efTk (hd : Bool) (tk t : Nat) : Nat := if hd = true then tk ||| t else tk
def efStep (hd : Bool) (b : List UInt8) (z : Ef) (r : Rc) : Ef := ⟨withT z.T r.h (tkP b r.p r.h), efOp hd r.off z.op r.h, efTk hd z.tk (tkP b r.p r.h)⟩
/-- What is known of an item, plain: handler, body, states. -/
structure Kp3 where
  hd : Bool
  b : List UInt8
  L : List Rc
def efItem (z : Ef) (k : Kp3) : Ef := k.L.foldl (efStep k.hd k.b) z
def efAll (K : List Kp3) : Ef := K.foldl efItem ⟨fun _ _ => false, 0, 0⟩
def edgesP (K : List Kp3) : Tb := withT (efAll K).T (efAll K).op (efAll K).tk
def viStep (b : List UInt8) (c : Nat) (z : Vi) (r : Rc) : Vi :=
  if (atB b r.p = 114 ∨ atB b r.p = 119) ∧ numP b r.p = (c : Int) then ⟨fun x => if x = hn r.h then (z.wr x || decide (atB b r.p = 119)) else z.wr x, fun x => if x = hn r.h then true else z.ei x⟩ else z
def visP (b : List UInt8) (c : Nat) (L : List Rc) : Vi := L.foldl (viStep b c) ⟨fun _ => false, fun _ => false⟩
/-- Does an item clash with itself, or with one of those before? -/
def raceNew (c : Nat) (K : List Kp3) (k : Kp3) : Bool := (k.hd && clashV (visP k.b c k.L) (visP k.b c k.L)) || K.any (fun o => clashV (visP k.b c k.L) (visP o.b c o.L))
def raceTo (c : Nat) (K : List Kp3) : Nat → Bool
  | 0 => false
  | n + 1 => raceTo c K n || (match K[n]? with | some k => raceNew c (K.take n) k | none => false)
def raceP (c : Nat) (K : List Kp3) : Bool := raceTo c K K.length
theorem raceTo_succ {c : Nat} {K : List Kp3} {n : Nat} {k : Kp3} (h : K[n]? = some k) : raceTo c K (n + 1) = (raceTo c K n || raceNew c (K.take n) k) := by
  simp [raceTo, h]
theorem raceTo_le {c : Nat} {K : List Kp3} {n m : Nat} (h : raceTo c K n = true) (hm : n ≤ m) : raceTo c K m = true := by
  induction m with
  | zero => rw [show n = 0 by omega] at h; exact h
  | succ m ih =>
    by_cases e : n = m + 1
    · rw [← e]; exact h
    · have := ih (by omega)
      simp [raceTo, this]
/-- All reports of what is known. -/
def kdP (K : List Kp3) (k i p : Nat) : Bool := match K[i]? with | some x => decide (kAt x.hd x.b x.L p = (k : Int)) | none => false
def lenP (K : List Kp3) (i : Nat) : Nat := match K[i]? with | some x => x.b.length + 1 | none => 0
def analyseP (K : List Kp3) : List Rp := solos (kdP K) (lenP K) K.length 5 ++ ringL (fwK (edgesP K) 6) 6 ++ raceL (fun c => raceP c K) 4
end Go.Proofs.Ytecmfdkhcffpmab
