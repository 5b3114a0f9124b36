/- PureA2, StI, PureA3, SrcL, StE, StJ, StK. -/
import Derived.Test.YtecmfdkhcffpmaaB31
import Derived.Test.YtecmfdkhcffpmaaB40
import Derived.Test.YtecmfdkhcffpmaaB41
import Derived.Test.YtecmfdkhcffpmaaB27
import Derived.Deep.QuietTactic
import Derived.BigQuiet
/- Plain: edges and races, as the program gathers them. -/
namespace Go.Proofs.Ytecmfdkhcffpmaa
open Go.RowKit
set_option linter.unusedSimpArgs false
set_option linter.unusedVariables false
open Mc
/-- The lock that is taken at a place with those held. -/
def tkP (b : List UInt8) (p h : Nat) : Nat := if atB b p = 43 ∧ hasB h (numP b p) = false then 2 ^ (numP b p).toNat else 0
/-- Edges, what threads hold with interrupts on, what handlers take. -/
structure Ef where
  T : Tb
  op : Nat
  tk : Nat
/-- What is known of an item, plain: handler, body, states. -/
structure Kp3 where
  hd : Bool
  b : List UInt8
  L : List Rc
/-- All reports of what is known. -/
def kdP (K : List Kp3) (k i p : Nat) : Bool := match K[i]? with | some x => decide (kAt x.hd x.b x.L p = (k : Int)) | none => false
def lenP (K : List Kp3) (i : Nat) : Nat := match K[i]? with | some x => x.b.length + 1 | none => 0
end Go.Proofs.Ytecmfdkhcffpmaa
/- Contracts of the program's reports: what a state takes. -/
namespace Go.Proofs.Ytecmfdkhcffpmaa
open Go.RowKit
set_option linter.unusedSimpArgs false
set_option linter.unusedVariables false
set_option maxHeartbeats 8000000
open Mc

/-- A reached state, by value. -/
def rcA (r : Rc) : Array Value := (rcV r).toArray
theorem rcA_size (r : Rc) : (rcA r).size = 10 := rfl
theorem rcA_one (r : Rc) : (rcA r).all (·.oneCell') = true := by simp [rcA, rcV, stA, Value.oneCell']
theorem Try.iRc (r : Rc) : (Try.prog.info? 153).map (·.size) = some (rcA r).size := by rw [rcA_size]; exact Try.iReached
theorem rcA_p (r : Rc) : (rcA r)[0]? = some (.int .i64 (r.p : Int)) := rfl
structure Q4 (w W : World) (hd : Bool) (s : ByteArray) (lg : Nat) (kv : Value) (r : Rc) : Prop where
  k : Row W w.heap.size #[.bool hd, .bool hd, .string s, .slice (some ⟨lg, 0, none⟩) s.size s.size, kv] 150
  r : Row W (w.heap.size + 1) (rcA r) 153
  z : Row W (w.heap.size + 2) #[.bool false, .bool false, .bool false, .bool false, .bool false, .bool false] 112
  y : Row W (w.heap.size + 3) #[.bool false, .bool false, .bool false, .bool false, .bool false, .bool false] 112
  b : Below w.heap.size w W
theorem Q4.below {w W W' : World} {hd : Bool} {s : ByteArray} {lg : Nat} {kv : Value} {r : Rc} (h : Q4 w W hd s lg kv r) (hb : Below W.heap.size W W') : Q4 w W' hd s lg kv r := ⟨h.k.below hb, h.r.below hb, h.z.below hb, h.y.below hb, below_go h.b hb⟩
theorem Q4.new (w : World) (hd : Bool) (s : ByteArray) (lg : Nat) (kv : Value) (r : Rc) : Q4 w ((((w.alloc (.cells #[.bool hd, .bool hd, .string s, .slice (some ⟨lg, 0, none⟩) s.size s.size, kv] 150)).alloc (.cells (rcA r) 153)).alloc (.cells #[.bool false, .bool false, .bool false, .bool false, .bool false, .bool false] 112)).alloc (.cells #[.bool false, .bool false, .bool false, .bool false, .bool false, .bool false] 112)) hd s lg kv r := by
  obtain ⟨a, b, c, d⟩ := Row.four w #[.bool hd, .bool hd, .string s, .slice (some ⟨lg, 0, none⟩) s.size s.size, kv] (rcA r) #[.bool false, .bool false, .bool false, .bool false, .bool false, .bool false] #[.bool false, .bool false, .bool false, .bool false, .bool false, .bool false] 150 153 112 112
  exact ⟨a, b, c, d, below_four w _ _ _ _⟩
end Go.Proofs.Ytecmfdkhcffpmaa
/- Plain: what the program's edges and races mean. -/
namespace Go.Proofs.Ytecmfdkhcffpmaa
open Go.RowKit
set_option linter.unusedSimpArgs false
set_option linter.unusedVariables false
open Mc
/-- An edge by an item's own state; a lock open to handlers; a lock that a handler takes. -/
def EdgeI (hd : Bool) (b : List UInt8) (l m : Nat) : Prop := ∃ s : St3, Rch hd b s ∧ s.2.1.testBit l = true ∧ (tkP b s.1 s.2.1).testBit m = true
def OpenI (hd : Bool) (b : List UInt8) (l : Nat) : Prop := hd = false ∧ ∃ s : St3, Rch hd b s ∧ s.2.2 = false ∧ s.2.1.testBit l = true
def TakenI (hd : Bool) (b : List UInt8) (m : Nat) : Prop := hd = true ∧ ∃ s : St3, Rch hd b s ∧ (tkP b s.1 s.2.1).testBit m = true
/-- An edge of a source. -/
def Eg (its : List Wd.It) (l m : Nat) : Prop := (∃ i, i < its.length ∧ EdgeI (isH its i) (bodyOf its i) l m) ∨ ((∃ i, i < its.length ∧ OpenI (isH its i) (bodyOf its i) l) ∧ (∃ j, j < its.length ∧ TakenI (isH its j) (bodyOf its j) m))
/-- What is known belongs to the items. -/
structure KOf (its : List Wd.It) (K : List Kp3) : Prop where
  len : K.length = its.length
  at_ : ∀ (i : Nat) (k : Kp3), K[i]? = some k → k.hd = isH its i ∧ k.b = bodyOf its i ∧ ∀ s, Rch k.hd k.b s ↔ ∃ r ∈ k.L, r.st = s
theorem KOf.any {its : List Wd.It} {K : List Kp3} (h : KOf its K) (P : Kp3 → Bool) (Q : Nat → Prop) (hq : ∀ i k, K[i]? = some k → (P k = true ↔ Q i)) : K.any P = true ↔ ∃ i, i < its.length ∧ Q i := by
  rw [List.any_eq_true]
  constructor
  · rintro ⟨k, hk, e⟩
    obtain ⟨i, hi⟩ := List.getElem?_of_mem hk
    exact ⟨i, by rw [← h.len]; exact (List.getElem?_eq_some_iff.1 hi).1, (hq i k hi).1 e⟩
  · rintro ⟨i, hi, e⟩
    have hi' : i < K.length := by rw [h.len]; exact hi
    exact ⟨K[i], List.getElem_mem hi', (hq i K[i] (List.getElem?_eq_getElem hi')).2 e⟩
/-- At a cell, writing or not. -/
def AtC (b : List UInt8) (c p : Nat) : Prop := (atB b p = 114 ∨ atB b p = 119) ∧ numP b p = (c : Int)
/-- One writes, the other is at the same cell, and no lock is held by both. -/
def Meet (h1 : Bool) (b1 : List UInt8) (h2 : Bool) (b2 : List UInt8) (c : Nat) : Prop := ∃ s t : St3, Rch h1 b1 s ∧ Rch h2 b2 t ∧ (AtC b1 c s.1 ∧ atB b1 s.1 = 119) ∧ AtC b2 c t.1 ∧ s.2.1 &&& t.2.1 = 0
/-- A race at a cell. -/
def Race (its : List Wd.It) (c : Nat) : Prop := ∃ i j, i < its.length ∧ j < its.length ∧ (i = j → isH its i = true) ∧ Meet (isH its i) (bodyOf its i) (isH its j) (bodyOf its j) c
theorem soloK_congrN (P Q : Nat → Nat → Nat → Bool) (N M : Nat → Nat) (k m : Nat) (hN : ∀ i, i < m → N i = M i) (h : ∀ i, i < m → ∀ p, p < N i → P k i p = Q k i p) : soloK P N k m = soloK Q M k m := by
  induction m with
  | zero => rfl
  | succ m ih => rw [soloK_succ, soloK_succ, ih (fun i hi => hN i (by omega)) (fun i hi => h i (by omega)), soloRow_congr _ _ _ _ _ (h m (by omega)), hN m (by omega)]
theorem solos_congrN (P Q : Nat → Nat → Nat → Bool) (N M : Nat → Nat) (m n : Nat) (hN : ∀ i, i < m → N i = M i) (h : ∀ k, k < n → ∀ i, i < m → ∀ p, p < N i → P (k + 1) i p = Q (k + 1) i p) : solos P N m n = solos Q M m n := by
  induction n with
  | zero => rfl
  | succ n ih => rw [solos_succ, solos_succ, ih (fun k hk => h k (by omega)), soloK_congrN P Q N M (n + 1) m hN (h n (by omega))]
/-- All reports, by the words. -/
noncomputable def soloS (its : List Wd.It) : List Rp := open Classical in solos (fun k i p => decide (BadAt (isH its i) (bodyOf its i) k p)) (fun i => (bodyOf its i).length + 1) its.length 5
noncomputable def edgeS (its : List Wd.It) : Tb := open Classical in fun l m => decide (Eg its l m)
noncomputable def raceS (its : List Wd.It) : List Rp := open Classical in raceL (fun c => decide (Race its c)) 4
noncomputable def analyseS (its : List Wd.It) : List Rp := soloS its ++ ringL (fwK (edgeS its) 6) 6 ++ raceS its
theorem bool_iff {b : Bool} {p : Prop} [Decidable p] (h : b = true ↔ p) : b = decide p := by
  by_cases hp : p
  · rw [h.2 hp]; simp [hp]
  · simp only [hp, decide_false]
    cases b
    · rfl
    · exact absurd (h.1 rfl) hp
end Go.Proofs.Ytecmfdkhcffpmaa
/- Contracts of the program's 'Unfold' and of the law's 'sameItems' at equal lists. -/
namespace Go.Proofs.Ytecmfdkhcffpmaa
open Go.RowKit
set_option linter.unusedSimpArgs false
set_option linter.unusedVariables false
set_option maxHeartbeats 800000

/-- What 'Unfold' leaves: the items in memory of their own; or the error. -/
def UPost (w : World) (r : Except (Int × Int) (List Wd.It)) (e : Ending) (w' : World) : Prop :=
  Below w.heap.size w w' ∧ (match r with
    | .ok its => ∃ g cap, e = .returned (.tuple #[.slice (some ⟨g, 0, none⟩) its.length cap, .int .i64 0]) ∧ w'.ownsRow w.heap.size 31 2 (.slice (some ⟨g, 0, none⟩) its.length cap) its.length (Wd.itsV its)
    | .error x => e = .returned (.tuple #[.slice none 0 0, .int .i64 x.1]))

theorem sourceUnfold_any (s : ByteArray) (w : World) (hs : s.size ≤ maxLen) :
    Calls Try.prog 52 #[.string s] w (UPost w (Wd.readP s.data.toList)) := by
  have HX := read_any s w hs
  cases hq : Wd.readP s.data.toList with
  | error x =>
    rw [hq] at HX
    have HXX := hide HX
    clear HX hq
    go_enter Try.func52, Try.ntmps52
    go_wp2_with (go_at_call 72; refine HXX.out.mono ?_; rintro e w' ⟨hb, rfl⟩)
    go_ret2
    exact ⟨hb, rfl⟩
  | ok its =>
    rw [hq] at HX
    have HXX := hide HX
    clear HX hq
    go_enter Try.func52, Try.ntmps52
    go_wp2_with (go_at_call 72; refine HXX.out.mono ?_; rintro e w' ⟨hb, g, cp, rfl, hown⟩)
    go_ret2
    exact ⟨hb, g, cp, rfl, hown⟩

end Go.Proofs.Ytecmfdkhcffpmaa
/- Contracts of the program's reports: all items are looked through. -/
namespace Go.Proofs.Ytecmfdkhcffpmaa
open Go.RowKit
set_option linter.unusedSimpArgs false
set_option linter.unusedVariables false
set_option maxHeartbeats 8000000
open Mc

def kp (k : Kn) : Kp3 := ⟨k.hd, k.s.data.toList, k.L⟩
/-- While they are looked through. -/
structure LkI (w w' : World) (its : List Wd.It) (v : Value) (K : List Kn) : Prop where
  own : w'.ownsRow w.heap.size 150 5 v K.length (K.flatMap knV)
  each : ∀ k ∈ K, KnIn w' k ∧ (∀ j, k.v.ownBlock = some j → v.ownBlock ≠ some j)
  at_ : ∀ (i : Nat) (k : Kn), K[i]? = some k → k.hd = isH its i ∧ k.s = Wd.mkS (bodyOf its i)
  bel : Below w.heap.size w w'
theorem own_lt0 {w : World} {base : Nat} {t : TypeId} {n m : Nat} {v : Value} {xs : List Value} (h : w.ownsRow base t n v m xs) {j : Nat} (hj : v.ownBlock = some j) : base ≤ j ∧ j < w.heap.size := by
  rcases h.2 with ⟨rfl, _⟩ | ⟨g, cap, cur, rfl, hb, hg, _⟩
  · cases hj
  · injection hj with hj
    subst hj
    exact ⟨hb, row_lt hg⟩
theorem own_keep {w w' : World} {base : Nat} {t : TypeId} {n m : Nat} {v : Value} {xs : List Value} (h : w.ownsRow base t n v m xs) (hs : ∀ j, v.ownBlock = some j → w'.heap[j]? = w.heap[j]?) : w'.ownsRow base t n v m xs := by
  refine ⟨h.1, ?_⟩
  rcases h.2 with a | ⟨g, cap, cur, rfl, hb, hg, r⟩
  · exact .inl a
  · exact .inr ⟨g, cap, cur, rfl, hb, by rw [hs g rfl]; exact hg, r⟩
theorem LkI.push {w w1 w2 w3 w4 : World} {its : List Wd.It} {v v' : Value} {K : List Kn} {k : Kn} (h : LkI w w1 its v K) (hb12 : Below w1.heap.size w1 w2) (hin : KnIn w2 k) (hk1 : ∀ j, k.v.ownBlock = some j → w1.heap.size ≤ j) (hk2 : ∀ j, k.v.ownBlock = some j → j < w2.heap.size) (hb23 : Below w2.heap.size w2 w3) (hown : w4.ownsRow w.heap.size 150 5 v' (K ++ [k]).length ((K ++ [k]).flatMap knV)) (hbel : Below w.heap.size w3 w4) (hs : ∀ j, j < w3.heap.size → v.ownBlock ≠ some j → w4.heap[j]? = w3.heap[j]?) (hat : v'.ownBlock = v.ownBlock ∨ v'.ownBlock = some w3.heap.size) (e1 : k.hd = isH its K.length) (e2 : k.s = Wd.mkS (bodyOf its K.length)) : LkI w w4 its v' (K ++ [k]) := by
  have hz0 := h.bel.size
  have hz1 := hb12.size
  have hz2 := hb23.size
  refine ⟨hown, fun x hx => ?_, fun i x hx => ?_, ((h.bel.trans (hb12.mono (by omega))).trans (hb23.mono (by omega))).trans hbel⟩
  · have key : ∀ x : Kn, KnIn w2 x → (∀ j, x.v.ownBlock = some j → j < w2.heap.size ∧ v.ownBlock ≠ some j) → KnIn w4 x ∧ (∀ j, x.v.ownBlock = some j → v'.ownBlock ≠ some j) := by
      intro x hi hj
      refine ⟨⟨own_keep hi.own (fun j e => ?_), hi.fin, hi.gb, hi.short⟩, fun j e e' => ?_⟩
      · obtain ⟨h1, h2⟩ := hj j e
        rw [hs j (by omega) h2, hb23.block j h1]
      · obtain ⟨h1, h2⟩ := hj j e
        rcases hat with a | a
        · rw [a] at e'; exact h2 e'
        · rw [a] at e'; injection e' with e'; omega
    rcases List.mem_append.1 hx with hx | hx
    · obtain ⟨hi, hj⟩ := h.each x hx
      refine key x (hi.below hb12) (fun j e => ⟨?_, hj j e⟩)
      have := (own_lt0 hi.own e).2
      omega
    · have hx' : x = k := by simpa using hx
      subst hx'
      refine key x hin (fun j e => ⟨hk2 j e, fun e' => ?_⟩)
      have h1 := (own_lt0 h.own e').2
      have h2 := hk1 j e
      omega
  · by_cases hl : i < K.length
    · rw [List.getElem?_append_left hl] at hx
      exact h.at_ i x hx
    · rw [List.getElem?_append_right (by omega)] at hx
      have e : i - K.length = 0 := by
        by_cases e : i - K.length = 0
        · exact e
        · rw [List.getElem?_eq_none (by simp; omega)] at hx; cases hx
      rw [e] at hx
      cases hx
      have : i = K.length := by omega
      rw [this]
      exact ⟨e1, e2⟩
end Go.Proofs.Ytecmfdkhcffpmaa
/- Contracts of the program's reports: the edges of all items. -/
namespace Go.Proofs.Ytecmfdkhcffpmaa
open Go.RowKit
set_option linter.unusedSimpArgs false
set_option linter.unusedVariables false
set_option maxHeartbeats 8000000
open Mc

/-- Bits of a number. -/
def hb (h : Nat) : Nat → Bool := fun i => h.testBit i
/-- The tables while they are filled. -/
structure EfI (w W : World) (z : Ef) : Prop where
  res : Row W w.heap.size (tbA (fun _ _ => false)) 158
  fd : Row W (w.heap.size + 1) (tbA z.T) 158
  op : Row W (w.heap.size + 2) (bsA 6 (hb z.op)) 112
  tk : Row W (w.heap.size + 3) (bsA 6 (hb z.tk)) 112
  b : Below w.heap.size w W
theorem EfI.below {w W W' : World} {z : Ef} (h : EfI w W z) (hb : Below W.heap.size W W') : EfI w W' z := ⟨h.res.below hb, h.fd.below hb, h.op.below hb, h.tk.below hb, below_go h.b hb⟩
theorem EfI.setT {w W : World} {z : Ef} (h : EfI w W z) (T : Tb) : EfI w (W.setRow (w.heap.size + 1) (tbA T)) ⟨T, z.op, z.tk⟩ := ⟨h.res.same (setRow_other _ _ _ _ (by omega)), h.fd.setRow _, h.op.same (setRow_other _ _ _ _ (by omega)), h.tk.same (setRow_other _ _ _ _ (by omega)), below_setRow h.b (by omega) _⟩
theorem EfI.setO {w W : World} {z : Ef} (h : EfI w W z) (x : Nat) : EfI w (W.setRow (w.heap.size + 2) (bsA 6 (hb x))) ⟨z.T, x, z.tk⟩ := ⟨h.res.same (setRow_other _ _ _ _ (by omega)), h.fd.same (setRow_other _ _ _ _ (by omega)), h.op.setRow _, h.tk.same (setRow_other _ _ _ _ (by omega)), below_setRow h.b (by omega) _⟩
theorem EfI.setK {w W : World} {z : Ef} (h : EfI w W z) (x : Nat) : EfI w (W.setRow (w.heap.size + 3) (bsA 6 (hb x))) ⟨z.T, z.op, x⟩ := ⟨h.res.same (setRow_other _ _ _ _ (by omega)), h.fd.same (setRow_other _ _ _ _ (by omega)), h.op.same (setRow_other _ _ _ _ (by omega)), h.tk.setRow _, below_setRow h.b (by omega) _⟩
theorem EfI.lt {w W : World} {z : Ef} (h : EfI w W z) : w.heap.size + 3 < W.heap.size := h.tk.lt
end Go.Proofs.Ytecmfdkhcffpmaa
/- Contracts of the program's reports: rings. -/
namespace Go.Proofs.Ytecmfdkhcffpmaa
open Go.RowKit
set_option linter.unusedSimpArgs false
set_option linter.unusedVariables false
set_option maxHeartbeats 8000000
open Mc

theorem Try.infoRep : (Try.prog.info? 41).map (fun i => (i.zero, i.size, i.bytes)) = some (some (.agg #[.int .i64 0, .int .i64 0, .int .i64 0]), 3, 24) := by kernel_rfl
def rpV (r : Rp) : List Value := [.int .i64 r.1, .int .i64 r.2.1, .int .i64 r.2.2]
theorem rpV_len (r : Rp) : (rpV r).length = 3 := rfl
/-- An own list of reports. -/
structure RepI (w W : World) (v : Value) (L : List Rp) : Prop where
  own : W.ownsRow w.heap.size 41 3 v L.length (L.flatMap rpV)
  b : Below w.heap.size w W
theorem own_nilA (w : World) (base : Nat) (t : TypeId) (n : Nat) (hb : base ≤ w.heap.size) : (w.alloc (.cells #[] t)).ownsRow base t n (.slice (some ⟨w.heap.size, 0, none⟩) 0 0) 0 [] := ⟨by simp, .inr ⟨w.heap.size, 0, #[], rfl, hb, heap_alloc_last _ _, Nat.le_refl _, by decide, by simp, by simp⟩⟩
theorem RepI.new (w : World) : RepI w (w.alloc (.cells #[] 41)) (.slice (some ⟨w.heap.size, 0, none⟩) 0 0) [] := ⟨own_nilA w _ _ _ (Nat.le_refl _), below_one _ _⟩
theorem RepI.below {w W W' : World} {v : Value} {L : List Rp} (h : RepI w W v L) (hb : Below W.heap.size W W') : RepI w W' v L := ⟨own_same h.own (fun j _ hl => hb.block j hl), below_go h.b hb⟩
theorem RepI.push {w W W' : World} {v v' : Value} {L : List Rp} {r : Rp} {o : Obj} (h : RepI w W v L) (ho : W'.ownsRow w.heap.size 41 3 v' (L ++ [r]).length ((L ++ [r]).flatMap rpV)) (hb : Below w.heap.size (W.alloc o) W') : RepI w W' v' (L ++ [r]) := ⟨ho, (h.b.alloc h.b.size o).trans hb⟩
end Go.Proofs.Ytecmfdkhcffpmaa
