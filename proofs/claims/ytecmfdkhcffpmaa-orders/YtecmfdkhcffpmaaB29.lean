/- PureD1, MacG. -/
import Derived.Test.YtecmfdkhcffpmaaB28
import Derived.Test.YtecmfdkhcffpmaaB14
import Derived.BigRegion
/- Plain: the document's table of states. -/
namespace Go.Proofs.Ytecmfdkhcffpmaa
open Go.RowKit
set_option linter.unusedSimpArgs false
set_option linter.unusedVariables false
open Mc
/-- A state by the document's number. -/
def stOf (p s : Nat) : St3 := (p, s / 2, decide (s % 2 = 1))
def dn (h : Nat) (off : Bool) : Nat := 2 * h + off.toNat
theorem dn_lt {h : Nat} (off : Bool) (hh : h < 64) : dn h off < 128 := by cases off <;> simp [dn] <;> omega
theorem dn_h (h : Nat) (off : Bool) : dn h off / 2 = h := by cases off <;> simp [dn] <;> omega
theorem dn_off (h : Nat) (off : Bool) : decide (dn h off % 2 = 1) = off := by cases off <;> simp [dn] <;> omega
theorem stOf_dn (p h : Nat) (off : Bool) : stOf p (dn h off) = (p, h, off) := by rw [stOf, dn_h, dn_off]
theorem dn_st (s : Nat) : dn (s / 2) (decide (s % 2 = 1)) = s := by
  unfold dn
  by_cases h : s % 2 = 1
  · simp [h]; omega
  · simp [h]; omega
/-- What follows, by the document's number. -/
def folD (b : List UInt8) (p s : Nat) (k : Bool) : Nat × Nat := ((nextP b p (s / 2) (decide (s % 2 = 1)) k).1, dn (nextP b p (s / 2) (decide (s % 2 = 1)) k).2.1 (nextP b p (s / 2) (decide (s % 2 = 1)) k).2.2)
def wrD (hd : Bool) (b : List UInt8) (p s : Nat) : Int := faultP hd b p (s / 2) (decide (s % 2 = 1))
theorem stOf_fol {hd : Bool} {b : List UInt8} {p s : Nat} (k : Bool) (h : wrD hd b p s = 0) : stOf (folD b p s k).1 (folD b p s k).2 = stp hd b (stOf p s) k := by
  unfold folD
  rw [stOf_dn]
  show _ = (stepS hd b p (s / 2) (decide (s % 2 = 1)) k).1
  rw [stepS, if_pos (show faultP hd b p (s / 2) (decide (s % 2 = 1)) = 0 from h)]
theorem alone_next {b : List UInt8} (hg : GB b) {p h : Nat} {hd off second : Bool} (hpl : Pl b p) (hp : p < b.length) (hf : faultP hd b p h off = 0) (h43 : atB b p ≠ 43) (f : Fr) (hfp : f.pos = p) (hfh : f.held = h) :
    (alone b f hd off second).2.1.pos = (nextP b p h off second).1 ∧ (alone b f hd off second).2.1.held = (nextP b p h off second).2.1 ∧ (alone b f hd off second).2.2 = (nextP b p h off second).2.2 := by
  subst hfp; subst hfh
  unfold alone
  have hs := hg.stands hpl
  have h101 := hg.not101 hpl hp
  unfold Stands at hs
  by_cases e45 : atB b f.pos = 45
  · rw [if_pos e45]
    have hh : hasB f.held (numP b f.pos) = true := by
      unfold faultP at hf
      rw [if_neg h43, if_pos e45] at hf
      cases hq : hasB f.held (numP b f.pos)
      · rw [hq] at hf; simp at hf
      · rfl
    rw [hasB_num hg.pair (Or.inr e45)] at hh
    rw [if_pos hh]
    simp [nextP, behind, e45]
  rw [if_neg e45]
  by_cases e60 : atB b f.pos = 60 ∨ atB b f.pos = 62
  · rw [if_pos e60]
    have hhd : hd = false := by
      unfold faultP at hf
      rw [if_neg h43, if_neg e45, if_neg (by omega), if_pos e60] at hf
      cases hd
      · rfl
      · simp at hf
    rw [if_neg (by rw [hhd]; decide)]
    rcases e60 with e | e <;> simp [nextP, behind, e]
  rw [if_neg e60]
  rw [nextP_plain hg.bd hp f.held off second (by omega)]
  exact ⟨rfl, rfl, rfl⟩
/-- A table of states by places. -/
abbrev DTb := Nat → Nat → Bool
/-- In the table by right. -/
def InD (hd : Bool) (b : List UInt8) (a c : Nat) : Prop := c < 128 ∧ Rch hd b (stOf a c)
theorem InD.le {hd : Bool} {b : List UInt8} (hg : GB b) {a c : Nat} (h : InD hd b a c) : a ≤ b.length := (h.2.ok hg).2.le
theorem InD.pl {hd : Bool} {b : List UInt8} (hg : GB b) {a c : Nat} (h : InD hd b a c) : Pl b a := (h.2.ok hg).2
theorem InD.fol {hd : Bool} {b : List UInt8} (hg : GB b) {a c : Nat} (h : InD hd b a c) (hw : wrD hd b a c = 0) (k : Bool) : InD hd b (folD b a c k).1 (folD b a c k).2 := by
  have h1 : Rch hd b (stOf (folD b a c k).1 (folD b a c k).2) := by rw [stOf_fol k hw]; exact h.2.step k
  refine ⟨?_, h1⟩
  have h2 := (h1.ok hg).1
  unfold stOf at h2
  simp only at h2
  have : (folD b a c k).2 / 2 < 64 := h2
  omega
def setF (F : DTb) (q t : Nat) : DTb := fun a c => if a = q ∧ c = t then true else F a c
/-- What holds while the table is swept: F0 at the beginning, F now; any: something was new. -/
structure SwI (hd : Bool) (b : List UInt8) (F0 F : DTb) (any : Bool) (p s : Nat) (k : Nat) : Prop where
  sub0 : ∀ a c, F0 a c = true → InD hd b a c
  sub : ∀ a c, F a c = true → InD hd b a c
  mono : ∀ a c, F0 a c = true → F a c = true
  same : any = false → F = F0
  more : any = true → ∃ a c, F0 a c = false ∧ F a c = true
  closed : any = false → ∀ a c j, c < 128 → (a < p ∨ (a = p ∧ (c < s ∨ (c = s ∧ cond j 1 0 < k)))) → F0 a c = true → wrD hd b a c = 0 → F0 (folD b a c j).1 (folD b a c j).2 = true
theorem SwI.beg {hd : Bool} {b : List UInt8} {F : DTb} (h : ∀ a c, F a c = true → InD hd b a c) : SwI hd b F F false 0 0 0 :=
  ⟨h, h, fun _ _ h => h, fun _ => rfl, fun h => (by cases h), fun _ a c j _ hd => (by cases j <;> simp at hd)⟩
/-- A cell that is not in the table, or goes wrong, asks nothing. -/
theorem SwI.pass {hd : Bool} {b : List UInt8} {F0 F : DTb} {any : Bool} {p s : Nat} (h : SwI hd b F0 F any p s 0) (hc : F p s = false ∨ wrD hd b p s ≠ 0) : SwI hd b F0 F any p (s + 1) 0 := by
  refine ⟨h.sub0, h.sub, h.mono, h.same, h.more, fun e a c j hc' hd h1 h2 => ?_⟩
  by_cases e2 : a = p ∧ c = s
  · obtain ⟨rfl, rfl⟩ := e2
    rcases hc with hc | hc
    · rw [h.same e] at hc; rw [hc] at h1; cases h1
    · exact absurd h2 hc
  · refine h.closed e a c j hc' ?_ h1 h2
    rcases hd with hd | ⟨rfl, hd | ⟨_, hd⟩⟩
    · exact Or.inl hd
    · refine Or.inr ⟨rfl, Or.inl ?_⟩
      have : c ≠ s := fun e => e2 ⟨rfl, e⟩
      omega
    · omega
theorem SwI.next {hd : Bool} {b : List UInt8} {F0 F : DTb} {any : Bool} {p s : Nat} (h : SwI hd b F0 F any p s 2) : SwI hd b F0 F any p (s + 1) 0 := by
  refine ⟨h.sub0, h.sub, h.mono, h.same, h.more, fun e a c j hc' hd h1 h2 => h.closed e a c j hc' ?_ h1 h2⟩
  rcases hd with hd | ⟨rfl, hd | ⟨_, hd⟩⟩
  · exact Or.inl hd
  · refine Or.inr ⟨rfl, ?_⟩
    by_cases e : c = s
    · refine Or.inr ⟨e, ?_⟩
      cases j <;> simp
    · exact Or.inl (by omega)
  · omega
theorem SwI.row {hd : Bool} {b : List UInt8} {F0 F : DTb} {any : Bool} {p : Nat} (h : SwI hd b F0 F any p 128 0) : SwI hd b F0 F any (p + 1) 0 0 := by
  refine ⟨h.sub0, h.sub, h.mono, h.same, h.more, fun e a c j hc' hd h1 h2 => h.closed e a c j hc' ?_ h1 h2⟩
  rcases hd with hd | ⟨rfl, hd | ⟨_, hd⟩⟩
  · by_cases e : a = p
    · exact Or.inr ⟨e, Or.inl (by omega)⟩
    · exact Or.inl (by omega)
  · omega
  · omega
/-- What follows is in the table already. -/
theorem SwI.old {hd : Bool} {b : List UInt8} {F0 F : DTb} {any : Bool} {p s : Nat} {j : Bool} (h : SwI hd b F0 F any p s (cond j 1 0)) (hf : F (folD b p s j).1 (folD b p s j).2 = true) : SwI hd b F0 F any p s (cond j 1 0 + 1) := by
  refine ⟨h.sub0, h.sub, h.mono, h.same, h.more, fun e a c i hc' hd h1 h2 => ?_⟩
  by_cases e2 : a = p ∧ c = s ∧ i = j
  · obtain ⟨rfl, rfl, rfl⟩ := e2
    rw [h.same e] at hf
    exact hf
  · refine h.closed e a c i hc' ?_ h1 h2
    rcases hd with hd | ⟨rfl, hd | ⟨rfl, hd⟩⟩
    · exact Or.inl hd
    · exact Or.inr ⟨rfl, Or.inl hd⟩
    · refine Or.inr ⟨rfl, Or.inr ⟨rfl, ?_⟩⟩
      have : i ≠ j := fun e => e2 ⟨rfl, rfl, e⟩
      cases i <;> cases j <;> simp_all
theorem SwI.new {hd : Bool} {b : List UInt8} (hg : GB b) {F0 F : DTb} {any : Bool} {p s : Nat} {j : Bool} (h : SwI hd b F0 F any p s (cond j 1 0)) (hin : F p s = true) (hw : wrD hd b p s = 0) (hf : F (folD b p s j).1 (folD b p s j).2 = false) : SwI hd b F0 (setF F (folD b p s j).1 (folD b p s j).2) true p s (cond j 1 0 + 1) := by
  have hi := (h.sub p s hin).fol hg hw j
  refine ⟨h.sub0, fun a c hac => ?_, fun a c hac => ?_, fun e => (by cases e), fun _ => ⟨(folD b p s j).1, (folD b p s j).2, ?_, ?_⟩, fun e => (by cases e)⟩
  · unfold setF at hac
    by_cases e : a = (folD b p s j).1 ∧ c = (folD b p s j).2
    · rw [e.1, e.2]; exact hi
    · rw [if_neg e] at hac; exact h.sub a c hac
  · unfold setF
    split
    · rfl
    · exact h.mono a c hac
  · cases hq : F0 (folD b p s j).1 (folD b p s j).2
    · rfl
    · rw [h.mono _ _ hq] at hf; cases hf
  · simp [setF]
theorem SwI.inS {hd : Bool} {b : List UInt8} {F0 F : DTb} {any : Bool} {p s k : Nat} (h : SwI hd b F0 F any p s k) (hin : F p s = true) : InD hd b p s := h.sub p s hin
/-- How many cells are not in the table. -/
def cntF (n : Nat) (F : DTb) : Nat := ((List.range ((n + 1) * 128)).filter (fun x => !F (x / 128) (x % 128))).length
theorem filter_less {p q : Nat → Bool} (l : List Nat) (h : ∀ x ∈ l, p x = true → q x = true) : (l.filter p).length ≤ (l.filter q).length := by
  induction l with
  | nil => simp
  | cons a l ih =>
    have ih' := ih (fun x hx => h x (by simp [hx]))
    rw [List.filter_cons, List.filter_cons]
    by_cases hp : p a = true
    · rw [if_pos hp, if_pos (h a (by simp) hp)]; simp; exact ih'
    · rw [if_neg hp]
      split
      · simp; omega
      · exact ih'
theorem filter_lt {p q : Nat → Bool} (l : List Nat) (h : ∀ x ∈ l, p x = true → q x = true) {y : Nat} (hy : y ∈ l) (h1 : p y = false) (h2 : q y = true) : (l.filter p).length < (l.filter q).length := by
  induction l with
  | nil => simp at hy
  | cons a l ih =>
    have h' := fun x (hx : x ∈ l) => h x (by simp [hx])
    rw [List.filter_cons, List.filter_cons]
    rcases List.mem_cons.1 hy with rfl | hy
    · rw [if_neg (by rw [h1]; decide), if_pos h2]
      have := filter_less l h'
      simp; omega
    · have ih' := ih h' hy
      by_cases hp : p a = true
      · rw [if_pos hp, if_pos (h a (by simp) hp)]; simp; exact ih'
      · rw [if_neg hp]
        split
        · simp; omega
        · exact ih'
theorem SwI.less {hd : Bool} {b : List UInt8} (hg : GB b) {F0 F : DTb} {p s k : Nat} (h : SwI hd b F0 F true p s k) : cntF b.length F < cntF b.length F0 := by
  obtain ⟨a, c, h1, h2⟩ := h.more rfl
  have hi := h.sub a c h2
  have hle := hi.le hg
  have hc := hi.1
  have e1 : (a * 128 + c) / 128 = a := by omega
  have e2 : (a * 128 + c) % 128 = c := by omega
  unfold cntF
  refine filter_lt (y := a * 128 + c) _ (fun x _ hx => ?_) (List.mem_range.2 (by have := Nat.mul_le_mul_right 128 hle; rw [Nat.succ_mul]; omega)) ?_ ?_
  · simp only [Bool.not_eq_true'] at hx ⊢
    cases hq : F0 (x / 128) (x % 128)
    · rfl
    · rw [h.mono _ _ hq] at hx; cases hx
  · rw [e1, e2, h2]; rfl
  · rw [e1, e2, h1]; rfl
/-- A table that was swept without news is whole. -/
theorem SwI.whole {hd : Bool} {b : List UInt8} (hg : GB b) {F0 F : DTb} (h : SwI hd b F0 F false b.length 0 0) (h0 : F0 0 (dn 0 hd) = true) (a c : Nat) : F a c = true ↔ InD hd b a c := by
  rw [h.same rfl]
  refine ⟨h.sub0 a c, ?_⟩
  rintro ⟨hc, hr⟩
  have key : ∀ s : St3, Rch hd b s → F0 s.1 (dn s.2.1 s.2.2) = true := by
    intro s hs
    induction hs with
    | begin => exact h0
    | @step s hs k ih =>
      have hok := hs.ok hg
      by_cases hw : faultP hd b s.1 s.2.1 s.2.2 = 0
      · have hst : Mc.stp hd b s k = nextP b s.1 s.2.1 s.2.2 k := by unfold Mc.stp stepS; rw [if_pos hw]
        rw [hst]
        by_cases hp : s.1 < b.length
        · have := h.closed rfl s.1 (dn s.2.1 s.2.2) k (dn_lt _ hok.1) (Or.inl hp) ih (by unfold wrD; rw [dn_h, dn_off]; exact hw)
          unfold folD at this
          rw [dn_h, dn_off] at this
          exact this
        · rw [nextP_end hp]; exact ih
      · have hst : Mc.stp hd b s k = s := by unfold Mc.stp stepS; rw [if_neg hw]
        rw [hst]; exact ih
  have := key _ hr
  unfold stOf at this
  simp only [dn_st] at this
  exact this
end Go.Proofs.Ytecmfdkhcffpmaa
/- Contracts of the document's machine: a frame is laid; a thread leaves. -/
namespace Go.Proofs.Ytecmfdkhcffpmaa
open Go.RowKit
set_option linter.unusedSimpArgs false
set_option linter.unusedVariables false
set_option maxHeartbeats 800000
open Mc

/-- All stands but for the machine's own blocks. -/
structure Kp (A : Ad) (w w' : World) : Prop where
  below : Below 0 w w'
  same : ∀ k, k < w.heap.size → k ≠ A.g1 → k ≠ A.g3 → A.a2 ≠ some ⟨k, 0, none⟩ → w'.heap[k]? = w.heap[k]?
theorem Kp.of {A : Ad} {w w' : World} (h : Below w.heap.size w w') : Kp A w w' := ⟨h.mono (Nat.zero_le _), fun k hk _ _ _ => h.block k hk⟩
theorem Kp.refl (A : Ad) (w : World) : Kp A w w := Kp.of (Below.refl _ _)
theorem Kp.size {A : Ad} {w w' : World} (h : Kp A w w') : w.heap.size ≤ w'.heap.size := h.below.size
theorem Kp.trans {A : Ad} {a b c : World} (h1 : Kp A a b) (h2 : Kp A b c) : Kp A a c :=
  ⟨h1.below.trans h2.below, fun k hk e1 e2 e3 => (h2.same k (Nat.lt_of_lt_of_le hk h1.size) e1 e2 e3).trans (h1.same k hk e1 e2 e3)⟩
theorem Kp.drew {A : Ad} {a w : World} (h : Kp A a w) : Kp A a w.drew := h.trans (Kp.of ((Below.refl _ _).drew))
theorem Kp.alloc {A : Ad} {a w : World} (h : Kp A a w) (o : Obj) : Kp A a (w.alloc o) := h.trans (Kp.of ((Below.refl _ _).alloc (Nat.le_refl _) o))
theorem Kp.toBelow {A : Ad} {w w' : World} {B : Nat} (h : Kp A w w') (hB : B ≤ w.heap.size) (h1 : B ≤ A.g1) (h3 : B ≤ A.g3) (h2 : ∀ g, A.a2 = some ⟨g, 0, none⟩ → B ≤ g) : Below B w w' :=
  ⟨h.below.os, h.below.tape, h.below.output, h.below.size, fun k hk => h.same k (by omega) (by omega) (by omega) (fun e => by have := h2 k e; omega)⟩
theorem Kp.sets1 {A : Ad} {a w : World} (h : Kp A a w) (o : Nat) (vs : List Value) : Kp A a (w.setCells A.g1 o vs) :=
  h.trans ⟨Below.setCells A.g1 (Nat.zero_le _) vs o w (Below.refl _ _), fun k hk e1 e2 e3 => heap_setCells_other A.g1 vs o w k e1⟩
theorem Kp.set1 {A : Ad} {a w : World} (h : Kp A a w) (o : Nat) (v : Value) : Kp A a (w.setCell ⟨A.g1, o, none⟩ v) := h.sets1 o [v]
theorem Kp.set3 {A : Ad} {a w : World} (h : Kp A a w) (o : Nat) (v : Value) : Kp A a (w.setCell ⟨A.g3, o, none⟩ v) :=
  h.trans ⟨(Below.refl _ _).setCell (p := ⟨A.g3, o, none⟩) (Nat.zero_le _) v, fun k hk e1 e2 e3 => heap_setCell_other w ⟨A.g3, o, none⟩ k v e2⟩
theorem Kp.set2 {A : Ad} {a w : World} {g : Nat} (h : Kp A a w) (hg : A.a2 = some ⟨g, 0, none⟩) (o : Nat) (v : Value) : Kp A a (w.setCell ⟨g, o, none⟩ v) :=
  h.trans ⟨(Below.refl _ _).setCell (p := ⟨g, o, none⟩) (Nat.zero_le _) v, fun k hk e1 e2 e3 => heap_setCell_other w ⟨g, o, none⟩ k v (by intro e; have e' : k = g := e; subst e'; exact e3 hg)⟩

theorem DM.upd {w w' : World} {N b : Nat} {A : Ad} {its : List Wd.It} {n : Nat} {S S' : Ma} (h : DM w N b A its n S) (hk : Kp A w w') (hc : Blk w' A.g1 (n * 9) (cpsF S')) (hr : ∀ g, A.a2 = some ⟨g, 0, none⟩ → 0 < its.length → Blk w' g its.length (fun i => .bool (S'.rd i))) (ha : Blk w' A.g3 its.length (fun i => .int .i64 (S'.pl i : Int))) : DM w' N b A its n S' := by
  obtain ⟨n1, n2, n3, n4⟩ := h.a2
  obtain ⟨m1, m2, m3, m4, m5, m6⟩ := h.ne
  refine ⟨h.root.same (hk.same b h.root.lt m1 m2 n1), fun hl => ?_, hc, fun hl => ?_, ha, h.ne, h.caps, h.a2⟩
  · obtain ⟨g, e1, e2, e3, e4, e5⟩ := h.items hl
    refine ⟨g, e1, e2.same (hk.same g e2.lt e4 e5 ?_), e3, e4, e5⟩
    obtain ⟨g', k1, k2, k3, k4, k5, k6, k7⟩ := h.ready hl
    intro e; rw [k1] at e; cases e; exact k7 e1
  · obtain ⟨g', k1, k2, k3, k4, k5, k6, k7⟩ := h.ready hl
    exact ⟨g', k1, hr g' k1 hl, k3, k4, k5, k6, k7⟩
/-- Only processors have changed. -/
theorem DM.updC {w w' : World} {N b : Nat} {A : Ad} {its : List Wd.It} {n : Nat} {S S' : Ma} (h : DM w N b A its n S) (hk : Kp A w w') (hc : Blk w' A.g1 (n * 9) (cpsF S')) (e1 : S'.rd = S.rd) (e2 : S'.pl = S.pl) (h2 : ∀ g, g ≠ A.g1 → g < w.heap.size → w'.heap[g]? = w.heap[g]?) : DM w' N b A its n S' := by
  refine h.upd hk hc (fun g hg hl => ?_) ?_
  · obtain ⟨g', k1, k2, k3, k4, k5, k6, k7⟩ := h.ready hl
    rw [hg] at k1; cases k1
    rw [e1]; exact k2.same (h2 g k4 k2.lt)
  · rw [e2]; exact h.at_.same (h2 _ (Ne.symm h.ne.2.2.1) h.at_.lt)

theorem Kp.dm {w : World} {N b : Nat} {A : Ad} {its : List Wd.It} {n : Nat} {S : Ma} (h : DM w N b A its n S) {a w' : World} (hk : Kp A a w') (hN : N ≤ a.heap.size) : Below N a w' := hk.toBelow hN h.ne.2.2.2.2.1 h.ne.2.2.2.2.2 h.a2.2.2.2

theorem cps_setH (S : Ma) (c : Nat) (f : Fr) (i : Nat) : (if c * 9 + 4 ≤ i then ((frV f)[i - (c * 9 + 4)]?).getD (cpsF S i) else cpsF S i) = cpsF (setCp S c { (S.cp c) with h := f }) i := by
  unfold cpsF setCp
  by_cases e : i / 9 = c
  · have hi : i = c * 9 + i % 9 := by omega
    have hm : i % 9 < 9 := Nat.mod_lt _ (by omega)
    simp only [e, if_true]
    generalize i % 9 = m at *
    subst hi
    rcases m with _ | _ | _ | _ | _ | _ | _ | _ | _ | m <;> first | omega | (simp [frV, cpF, Nat.add_sub_add_left]; done) | (rw [if_neg (by omega)]; rfl) | skip
    all_goals (rw [if_pos (by omega)]; simp [frV, cpF])
  · simp only [if_neg e]
    by_cases e2 : c * 9 + 4 ≤ i
    · rw [if_pos e2, List.getElem?_eq_none (by simp [frV]; omega)]; rfl
    · rw [if_neg e2]
theorem cps_setT (S : Ma) (c : Nat) (f : Fr) (i : Nat) : (if c * 9 ≤ i then ((frV f)[i - c * 9]?).getD (cpsF S i) else cpsF S i) = cpsF (setCp S c { (S.cp c) with t := f }) i := by
  unfold cpsF setCp
  by_cases e : i / 9 = c
  · have hi : i = c * 9 + i % 9 := by omega
    have hm : i % 9 < 9 := Nat.mod_lt _ (by omega)
    simp only [e, if_true]
    generalize i % 9 = m at *
    subst hi
    rw [if_pos (by omega), Nat.add_sub_cancel_left]
    rcases m with _ | _ | _ | _ | _ | _ | _ | _ | _ | m <;> first | omega | rfl
  · simp only [if_neg e]
    by_cases e2 : c * 9 ≤ i
    · rw [if_pos e2, List.getElem?_eq_none (by simp [frV]; omega)]; rfl
    · rw [if_neg e2]
theorem DM.setH {w : World} {N b : Nat} {A : Ad} {its : List Wd.It} {n : Nat} {S : Ma} (h : DM w N b A its n S) (c : Nat) (f : Fr) : DM (w.setCells A.g1 (c * 9 + 4) (frV f)) N b A its n (setCp S c { (S.cp c) with h := f }) :=
  h.updC ((Kp.refl A w).sets1 _ _) ((Blk.sets (frV f) (c * 9 + 4) w _ h.cpus).congr fun i _ => cps_setH S c f i) rfl rfl (fun g hg _ => heap_setCells_other _ _ _ _ _ hg)
theorem DM.setT {w : World} {N b : Nat} {A : Ad} {its : List Wd.It} {n : Nat} {S : Ma} (h : DM w N b A its n S) (c : Nat) (f : Fr) : DM (w.setCells A.g1 (c * 9) (frV f)) N b A its n (setCp S c { (S.cp c) with t := f }) :=
  h.updC ((Kp.refl A w).sets1 _ _) ((Blk.sets (frV f) (c * 9) w _ h.cpus).congr fun i _ => cps_setT S c f i) rfl rfl (fun g hg _ => heap_setCells_other _ _ _ _ _ hg)
theorem DM.drew {w : World} {N b : Nat} {A : Ad} {its : List Wd.It} {n : Nat} {S : Ma} (h : DM w N b A its n S) : DM w.drew N b A its n S := h.below ((Below.refl _ _).drew)
theorem DM.cpFro {w : World} {N b : Nat} {A : Ad} {its : List Wd.It} {n : Nat} {S : Ma} (h : DM w N b A its n S) (c j : Nat) : w.frozen? ⟨A.g1, c * 9 + j, none⟩ = false := h.cpus.frozen _

set_option maxRecDepth 100000 in
theorem put_any (w : World) (N b : Nat) (A : Ad) (its : List Wd.It) (n : Nat) (S : Ma) (c : Nat) (f : Fr) (h : DM w N b A its n S) (hc : c < n) (hn : n ≤ 3) :
    Calls Try.prog 115 #[.pointer (some ⟨b, 0, none⟩), .int .i64 c, .agg #[.bool f.there, .int .i64 (f.item : Int), .int .i64 (f.pos : Int), .int .i64 (f.held : Int)]] w fun e w' => e = .returned (.tuple #[]) ∧ DM w' N b A its n (put S c f) ∧ Kp A w w' := by
  have r1 : ∀ o, (w.alloc o).cell? ⟨b, 1, none⟩ = some (.slice (some ⟨A.g1, 0, none⟩) n A.c1) := fun o => (h.alloc o).root.cell 1 (by omega)
  have q4 : ∀ o, (w.alloc o).cell? ⟨A.g1, c * 9 + 4, none⟩ = some (.bool (S.cp c).h.there) := fun o => (h.alloc o).cpAt c 4 hc (by omega)
  have CA := h.caps
  unfold maxLen at CA
  cases ht : (S.cp c).h.there
  · have q0 : ∀ o, (w.alloc o).cell? ⟨A.g1, c * 9, none⟩ = some (.bool (S.cp c).t.there) := fun o => (h.alloc o).cpAt c 0 hc (by omega)
    have q1 : ∀ o, (w.alloc o).cell? ⟨A.g1, c * 9 + 1, none⟩ = some (.int .i64 ((S.cp c).t.item : Int)) := fun o => (h.alloc o).cpAt c 1 hc (by omega)
    have q2 : ∀ o, (w.alloc o).cell? ⟨A.g1, c * 9 + 2, none⟩ = some (.int .i64 ((S.cp c).t.pos : Int)) := fun o => (h.alloc o).cpAt c 2 hc (by omega)
    have q3 : ∀ o, (w.alloc o).cell? ⟨A.g1, c * 9 + 3, none⟩ = some (.int .i64 ((S.cp c).t.held : Int)) := fun o => (h.alloc o).cpAt c 3 hc (by omega)
    have f0 : ∀ o, (w.alloc o).frozen? ⟨A.g1, c * 9, none⟩ = false := fun o => (h.alloc o).cpFro c 0
    have f1 : ∀ o, (w.alloc o).frozen? ⟨A.g1, c * 9 + 1, none⟩ = false := fun o => (h.alloc o).cpFro c 1
    have f2 : ∀ o, (w.alloc o).frozen? ⟨A.g1, c * 9 + 2, none⟩ = false := fun o => (h.alloc o).cpFro c 2
    have f3 : ∀ o, (w.alloc o).frozen? ⟨A.g1, c * 9 + 3, none⟩ = false := fun o => (h.alloc o).cpFro c 3
    rw [ht] at q4
    have HM := hide h
    have HP : Hid (put S c f = setCp S c { (S.cp c) with t := f }) := by apply hide; simp [put, putCp, ht]
    clear h ht
    go_enter Try.func115, Try.ntmps115
    go_wp2_with fail
    go_region
    go_end0
    refine ⟨rfl, ?_, ?_⟩
    · rw [HP.out]; exact ((HM.out.alloc _).setT c f).drew
    · exact (((Kp.refl A w).alloc _).sets1 (c * 9) (frV f)).drew
  · have q5 : ∀ o, (w.alloc o).cell? ⟨A.g1, c * 9 + 4 + 1, none⟩ = some (.int .i64 ((S.cp c).h.item : Int)) := fun o => (h.alloc o).cpAt c 5 hc (by omega)
    have q6 : ∀ o, (w.alloc o).cell? ⟨A.g1, c * 9 + 4 + 2, none⟩ = some (.int .i64 ((S.cp c).h.pos : Int)) := fun o => (h.alloc o).cpAt c 6 hc (by omega)
    have q7 : ∀ o, (w.alloc o).cell? ⟨A.g1, c * 9 + 4 + 3, none⟩ = some (.int .i64 ((S.cp c).h.held : Int)) := fun o => (h.alloc o).cpAt c 7 hc (by omega)
    have f4 : ∀ o, (w.alloc o).frozen? ⟨A.g1, c * 9 + 4, none⟩ = false := fun o => (h.alloc o).cpFro c 4
    have f5 : ∀ o, (w.alloc o).frozen? ⟨A.g1, c * 9 + 4 + 1, none⟩ = false := fun o => (h.alloc o).cpFro c 5
    have f6 : ∀ o, (w.alloc o).frozen? ⟨A.g1, c * 9 + 4 + 2, none⟩ = false := fun o => (h.alloc o).cpFro c 6
    have f7 : ∀ o, (w.alloc o).frozen? ⟨A.g1, c * 9 + 4 + 3, none⟩ = false := fun o => (h.alloc o).cpFro c 7
    rw [ht] at q4
    have HM := hide h
    have HP : Hid (put S c f = setCp S c { (S.cp c) with h := f }) := by apply hide; simp [put, putCp, ht]
    clear h ht
    go_enter Try.func115, Try.ntmps115
    go_wp2_with fail
    go_region
    go_end0
    refine ⟨rfl, ?_, ?_⟩
    · rw [HP.out]; exact ((HM.out.alloc _).setH c f).drew
    · exact (((Kp.refl A w).alloc _).sets1 (c * 9 + 4) (frV f)).drew
end Go.Proofs.Ytecmfdkhcffpmaa
