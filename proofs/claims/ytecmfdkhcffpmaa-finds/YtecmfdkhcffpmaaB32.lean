/- PureD1, DocA. -/
import Derived.Test.YtecmfdkhcffpmaaB31
import Derived.Test.YtecmfdkhcffpmaaB28
import Derived.Test.YtecmfdkhcffpmaaB08
/- Plain: the document's table of states. -/
namespace Go.Proofs.Ytecmfdkhcffpmaa
open Go.RowKit
set_option linter.unusedSimpArgs false
set_option linter.unusedVariables false
open Mc
/-- A state by the document's number. -/
def stOf (p s : Nat) : St3 := (p, s / 2, decide (s % 2 = 1))
def dn (h : Nat) (off : Bool) : Nat := 2 * h + off.toNat
theorem dn_lt {h : Nat} (off : Bool) (hh : h < 64) : dn h off < 128 := by cases off <;> simp [dn] <;> omega
theorem dn_h (h : Nat) (off : Bool) : dn h off / 2 = h := by cases off <;> simp [dn] <;> omega
theorem dn_off (h : Nat) (off : Bool) : decide (dn h off % 2 = 1) = off := by cases off <;> simp [dn] <;> omega
theorem stOf_dn (p h : Nat) (off : Bool) : stOf p (dn h off) = (p, h, off) := by rw [stOf, dn_h, dn_off]
theorem dn_st (s : Nat) : dn (s / 2) (decide (s % 2 = 1)) = s := by
  unfold dn
  by_cases h : s % 2 = 1
  · simp [h]; omega
  · simp [h]; omega
/-- What follows, by the document's number. -/
def folD (b : List UInt8) (p s : Nat) (k : Bool) : Nat × Nat := ((nextP b p (s / 2) (decide (s % 2 = 1)) k).1, dn (nextP b p (s / 2) (decide (s % 2 = 1)) k).2.1 (nextP b p (s / 2) (decide (s % 2 = 1)) k).2.2)
def wrD (hd : Bool) (b : List UInt8) (p s : Nat) : Int := faultP hd b p (s / 2) (decide (s % 2 = 1))
theorem stOf_fol {hd : Bool} {b : List UInt8} {p s : Nat} (k : Bool) (h : wrD hd b p s = 0) : stOf (folD b p s k).1 (folD b p s k).2 = stp hd b (stOf p s) k := by
  unfold folD
  rw [stOf_dn]
  show _ = (stepS hd b p (s / 2) (decide (s % 2 = 1)) k).1
  rw [stepS, if_pos (show faultP hd b p (s / 2) (decide (s % 2 = 1)) = 0 from h)]
theorem alone_next {b : List UInt8} (hg : GB b) {p h : Nat} {hd off second : Bool} (hpl : Pl b p) (hp : p < b.length) (hf : faultP hd b p h off = 0) (h43 : atB b p ≠ 43) (f : Fr) (hfp : f.pos = p) (hfh : f.held = h) :
    (alone b f hd off second).2.1.pos = (nextP b p h off second).1 ∧ (alone b f hd off second).2.1.held = (nextP b p h off second).2.1 ∧ (alone b f hd off second).2.2 = (nextP b p h off second).2.2 := by
  subst hfp; subst hfh
  unfold alone
  have hs := hg.stands hpl
  have h101 := hg.not101 hpl hp
  unfold Stands at hs
  by_cases e45 : atB b f.pos = 45
  · rw [if_pos e45]
    have hh : hasB f.held (numP b f.pos) = true := by
      unfold faultP at hf
      rw [if_neg h43, if_pos e45] at hf
      cases hq : hasB f.held (numP b f.pos)
      · rw [hq] at hf; simp at hf
      · rfl
    rw [hasB_num hg.pair (Or.inr e45)] at hh
    rw [if_pos hh]
    simp [nextP, behind, e45]
  rw [if_neg e45]
  by_cases e60 : atB b f.pos = 60 ∨ atB b f.pos = 62
  · rw [if_pos e60]
    have hhd : hd = false := by
      unfold faultP at hf
      rw [if_neg h43, if_neg e45, if_neg (by omega), if_pos e60] at hf
      cases hd
      · rfl
      · simp at hf
    rw [if_neg (by rw [hhd]; decide)]
    rcases e60 with e | e <;> simp [nextP, behind, e]
  rw [if_neg e60]
  rw [nextP_plain hg.bd hp f.held off second (by omega)]
  exact ⟨rfl, rfl, rfl⟩
/-- A table of states by places. -/
abbrev DTb := Nat → Nat → Bool
/-- In the table by right. -/
def InD (hd : Bool) (b : List UInt8) (a c : Nat) : Prop := c < 128 ∧ Rch hd b (stOf a c)
theorem InD.le {hd : Bool} {b : List UInt8} (hg : GB b) {a c : Nat} (h : InD hd b a c) : a ≤ b.length := (h.2.ok hg).2.le
theorem InD.pl {hd : Bool} {b : List UInt8} (hg : GB b) {a c : Nat} (h : InD hd b a c) : Pl b a := (h.2.ok hg).2
theorem InD.fol {hd : Bool} {b : List UInt8} (hg : GB b) {a c : Nat} (h : InD hd b a c) (hw : wrD hd b a c = 0) (k : Bool) : InD hd b (folD b a c k).1 (folD b a c k).2 := by
  have h1 : Rch hd b (stOf (folD b a c k).1 (folD b a c k).2) := by rw [stOf_fol k hw]; exact h.2.step k
  refine ⟨?_, h1⟩
  have h2 := (h1.ok hg).1
  unfold stOf at h2
  simp only at h2
  have : (folD b a c k).2 / 2 < 64 := h2
  omega
def setF (F : DTb) (q t : Nat) : DTb := fun a c => if a = q ∧ c = t then true else F a c
/-- What holds while the table is swept: F0 at the beginning, F now; any: something was new. -/
structure SwI (hd : Bool) (b : List UInt8) (F0 F : DTb) (any : Bool) (p s : Nat) (k : Nat) : Prop where
  sub0 : ∀ a c, F0 a c = true → InD hd b a c
  sub : ∀ a c, F a c = true → InD hd b a c
  mono : ∀ a c, F0 a c = true → F a c = true
  same : any = false → F = F0
  more : any = true → ∃ a c, F0 a c = false ∧ F a c = true
  closed : any = false → ∀ a c j, c < 128 → (a < p ∨ (a = p ∧ (c < s ∨ (c = s ∧ cond j 1 0 < k)))) → F0 a c = true → wrD hd b a c = 0 → F0 (folD b a c j).1 (folD b a c j).2 = true
theorem SwI.beg {hd : Bool} {b : List UInt8} {F : DTb} (h : ∀ a c, F a c = true → InD hd b a c) : SwI hd b F F false 0 0 0 :=
  ⟨h, h, fun _ _ h => h, fun _ => rfl, fun h => (by cases h), fun _ a c j _ hd => (by cases j <;> simp at hd)⟩
/-- A cell that is not in the table, or goes wrong, asks nothing. -/
theorem SwI.pass {hd : Bool} {b : List UInt8} {F0 F : DTb} {any : Bool} {p s : Nat} (h : SwI hd b F0 F any p s 0) (hc : F p s = false ∨ wrD hd b p s ≠ 0) : SwI hd b F0 F any p (s + 1) 0 := by
  refine ⟨h.sub0, h.sub, h.mono, h.same, h.more, fun e a c j hc' hd h1 h2 => ?_⟩
  by_cases e2 : a = p ∧ c = s
  · obtain ⟨rfl, rfl⟩ := e2
    rcases hc with hc | hc
    · rw [h.same e] at hc; rw [hc] at h1; cases h1
    · exact absurd h2 hc
  · refine h.closed e a c j hc' ?_ h1 h2
    rcases hd with hd | ⟨rfl, hd | ⟨_, hd⟩⟩
    · exact Or.inl hd
    · refine Or.inr ⟨rfl, Or.inl ?_⟩
      have : c ≠ s := fun e => e2 ⟨rfl, e⟩
      omega
    · omega
theorem SwI.next {hd : Bool} {b : List UInt8} {F0 F : DTb} {any : Bool} {p s : Nat} (h : SwI hd b F0 F any p s 2) : SwI hd b F0 F any p (s + 1) 0 := by
  refine ⟨h.sub0, h.sub, h.mono, h.same, h.more, fun e a c j hc' hd h1 h2 => h.closed e a c j hc' ?_ h1 h2⟩
  rcases hd with hd | ⟨rfl, hd | ⟨_, hd⟩⟩
  · exact Or.inl hd
  · refine Or.inr ⟨rfl, ?_⟩
    by_cases e : c = s
    · refine Or.inr ⟨e, ?_⟩
      cases j <;> simp
    · exact Or.inl (by omega)
  · omega
theorem SwI.row {hd : Bool} {b : List UInt8} {F0 F : DTb} {any : Bool} {p : Nat} (h : SwI hd b F0 F any p 128 0) : SwI hd b F0 F any (p + 1) 0 0 := by
  refine ⟨h.sub0, h.sub, h.mono, h.same, h.more, fun e a c j hc' hd h1 h2 => h.closed e a c j hc' ?_ h1 h2⟩
  rcases hd with hd | ⟨rfl, hd | ⟨_, hd⟩⟩
  · by_cases e : a = p
    · exact Or.inr ⟨e, Or.inl (by omega)⟩
    · exact Or.inl (by omega)
  · omega
  · omega
/-- What follows is in the table already. -/
theorem SwI.old {hd : Bool} {b : List UInt8} {F0 F : DTb} {any : Bool} {p s : Nat} {j : Bool} (h : SwI hd b F0 F any p s (cond j 1 0)) (hf : F (folD b p s j).1 (folD b p s j).2 = true) : SwI hd b F0 F any p s (cond j 1 0 + 1) := by
  refine ⟨h.sub0, h.sub, h.mono, h.same, h.more, fun e a c i hc' hd h1 h2 => ?_⟩
  by_cases e2 : a = p ∧ c = s ∧ i = j
  · obtain ⟨rfl, rfl, rfl⟩ := e2
    rw [h.same e] at hf
    exact hf
  · refine h.closed e a c i hc' ?_ h1 h2
    rcases hd with hd | ⟨rfl, hd | ⟨rfl, hd⟩⟩
    · exact Or.inl hd
    · exact Or.inr ⟨rfl, Or.inl hd⟩
    · refine Or.inr ⟨rfl, Or.inr ⟨rfl, ?_⟩⟩
      have : i ≠ j := fun e => e2 ⟨rfl, rfl, e⟩
      cases i <;> cases j <;> simp_all
theorem SwI.new {hd : Bool} {b : List UInt8} (hg : GB b) {F0 F : DTb} {any : Bool} {p s : Nat} {j : Bool} (h : SwI hd b F0 F any p s (cond j 1 0)) (hin : F p s = true) (hw : wrD hd b p s = 0) (hf : F (folD b p s j).1 (folD b p s j).2 = false) : SwI hd b F0 (setF F (folD b p s j).1 (folD b p s j).2) true p s (cond j 1 0 + 1) := by
  have hi := (h.sub p s hin).fol hg hw j
  refine ⟨h.sub0, fun a c hac => ?_, fun a c hac => ?_, fun e => (by cases e), fun _ => ⟨(folD b p s j).1, (folD b p s j).2, ?_, ?_⟩, fun e => (by cases e)⟩
  · unfold setF at hac
    by_cases e : a = (folD b p s j).1 ∧ c = (folD b p s j).2
    · rw [e.1, e.2]; exact hi
    · rw [if_neg e] at hac; exact h.sub a c hac
  · unfold setF
    split
    · rfl
    · exact h.mono a c hac
  · cases hq : F0 (folD b p s j).1 (folD b p s j).2
    · rfl
    · rw [h.mono _ _ hq] at hf; cases hf
  · simp [setF]
theorem SwI.inS {hd : Bool} {b : List UInt8} {F0 F : DTb} {any : Bool} {p s k : Nat} (h : SwI hd b F0 F any p s k) (hin : F p s = true) : InD hd b p s := h.sub p s hin
/-- How many cells are not in the table. -/
def cntF (n : Nat) (F : DTb) : Nat := ((List.range ((n + 1) * 128)).filter (fun x => !F (x / 128) (x % 128))).length
theorem filter_less {p q : Nat → Bool} (l : List Nat) (h : ∀ x ∈ l, p x = true → q x = true) : (l.filter p).length ≤ (l.filter q).length := by
  induction l with
  | nil => simp
  | cons a l ih =>
    have ih' := ih (fun x hx => h x (by simp [hx]))
    rw [List.filter_cons, List.filter_cons]
    by_cases hp : p a = true
    · rw [if_pos hp, if_pos (h a (by simp) hp)]; simp; exact ih'
    · rw [if_neg hp]
      split
      · simp; omega
      · exact ih'
theorem filter_lt {p q : Nat → Bool} (l : List Nat) (h : ∀ x ∈ l, p x = true → q x = true) {y : Nat} (hy : y ∈ l) (h1 : p y = false) (h2 : q y = true) : (l.filter p).length < (l.filter q).length := by
  induction l with
  | nil => simp at hy
  | cons a l ih =>
    have h' := fun x (hx : x ∈ l) => h x (by simp [hx])
    rw [List.filter_cons, List.filter_cons]
    rcases List.mem_cons.1 hy with rfl | hy
    · rw [if_neg (by rw [h1]; decide), if_pos h2]
      have := filter_less l h'
      simp; omega
    · have ih' := ih h' hy
      by_cases hp : p a = true
      · rw [if_pos hp, if_pos (h a (by simp) hp)]; simp; exact ih'
      · rw [if_neg hp]
        split
        · simp; omega
        · exact ih'
theorem SwI.less {hd : Bool} {b : List UInt8} (hg : GB b) {F0 F : DTb} {p s k : Nat} (h : SwI hd b F0 F true p s k) : cntF b.length F < cntF b.length F0 := by
  obtain ⟨a, c, h1, h2⟩ := h.more rfl
  have hi := h.sub a c h2
  have hle := hi.le hg
  have hc := hi.1
  have e1 : (a * 128 + c) / 128 = a := by omega
  have e2 : (a * 128 + c) % 128 = c := by omega
  unfold cntF
  refine filter_lt (y := a * 128 + c) _ (fun x _ hx => ?_) (List.mem_range.2 (by have := Nat.mul_le_mul_right 128 hle; rw [Nat.succ_mul]; omega)) ?_ ?_
  · simp only [Bool.not_eq_true'] at hx ⊢
    cases hq : F0 (x / 128) (x % 128)
    · rfl
    · rw [h.mono _ _ hq] at hx; cases hx
  · rw [e1, e2, h2]; rfl
  · rw [e1, e2, h1]; rfl
/-- A table that was swept without news is whole. -/
theorem SwI.whole {hd : Bool} {b : List UInt8} (hg : GB b) {F0 F : DTb} (h : SwI hd b F0 F false b.length 0 0) (h0 : F0 0 (dn 0 hd) = true) (a c : Nat) : F a c = true ↔ InD hd b a c := by
  rw [h.same rfl]
  refine ⟨h.sub0 a c, ?_⟩
  rintro ⟨hc, hr⟩
  have key : ∀ s : St3, Rch hd b s → F0 s.1 (dn s.2.1 s.2.2) = true := by
    intro s hs
    induction hs with
    | begin => exact h0
    | @step s hs k ih =>
      have hok := hs.ok hg
      by_cases hw : faultP hd b s.1 s.2.1 s.2.2 = 0
      · have hst : Mc.stp hd b s k = nextP b s.1 s.2.1 s.2.2 k := by unfold Mc.stp stepS; rw [if_pos hw]
        rw [hst]
        by_cases hp : s.1 < b.length
        · have := h.closed rfl s.1 (dn s.2.1 s.2.2) k (dn_lt _ hok.1) (Or.inl hp) ih (by unfold wrD; rw [dn_h, dn_off]; exact hw)
          unfold folD at this
          rw [dn_h, dn_off] at this
          exact this
        · rw [nextP_end hp]; exact ih
      · have hst : Mc.stp hd b s k = s := by unfold Mc.stp stepS; rw [if_neg hw]
        rw [hst]; exact ih
  have := key _ hr
  unfold stOf at this
  simp only [dn_st] at this
  exact this
end Go.Proofs.Ytecmfdkhcffpmaa
/- Contracts of the document's states: what goes wrong, what follows. -/
namespace Go.Proofs.Ytecmfdkhcffpmaa
open Go.RowKit
set_option linter.unusedSimpArgs false
set_option linter.unusedVariables false
set_option maxHeartbeats 8000000
open Mc

theorem oneIts (b : List UInt8) (hok : PairOK b) (hl : b.length ≤ 300) : ItsOK [⟨false, b⟩] := by
  refine ⟨by simp, fun i hi => ?_, fun i hi => ?_⟩
  · have h0 : i = 0 := by simpa using hi
    subst h0
    show b.length ≤ 10000
    omega
  · have h0 : i = 0 := by simpa using hi
    subst h0
    exact hok
theorem aloneD (b : List UInt8) (hok : PairOK b) (hl : b.length ≤ 300) (f : Fr) (handler off second : Bool) (hp : f.pos ≤ 20000) (hf : f.held ≤ 1000) (w : World) :
    Calls Try.prog 118 #[.string (Wd.mkS b), .agg #[.bool f.there, .int .i64 (f.item : Int), .int .i64 (f.pos : Int), .int .i64 (f.held : Int)], .bool handler, .bool off, .bool second] w fun e w' => e = .returned (.tuple #[.int .u8 (alone b f handler off second).1, .agg #[.bool (alone b f handler off second).2.1.there, .int .i64 ((alone b f handler off second).2.1.item : Int), .int .i64 ((alone b f handler off second).2.1.pos : Int), .int .i64 ((alone b f handler off second).2.1.held : Int)], .bool (alone b f handler off second).2.2]) ∧ Below w.heap.size w w' :=
  alone_any w [⟨false, b⟩] (oneIts b hok hl) 0 f handler off second (by simp) hp hf
theorem atD (b : List UInt8) (hl : b.length ≤ 300) (p : Nat) (hp : p ≤ 20000) (w : World) : Calls Try.prog 93 #[.string (Wd.mkS b), .int .i64 p] w fun e w' => e = .returned (.int .u8 (atB b p)) ∧ w' = w := by
  have := at_any (Wd.mkS b) p w (by rw [Wd.mkS_size]; omega) hp
  rwa [Wd.mkS_list] at this
theorem numberD (b : List UInt8) (hok : PairOK b) (hl : b.length ≤ 300) (p : Nat) (hp : p ≤ 20000) (hc : atB b p = 43 ∨ atB b p = 45 ∨ atB b p = 114 ∨ atB b p = 119) (w : World) : Calls Try.prog 94 #[.string (Wd.mkS b), .int .i64 p] w fun e w' => e = .returned (.int .i64 (num b p)) ∧ w' = w := by
  have := number_any (Wd.mkS b) p w (by rw [Wd.mkS_size]; omega) hp (fun h => by
    rw [Wd.mkS_size] at h
    rw [Wd.mkS_list]
    have hpl : p < b.length := by omega
    have hk := hok p hpl
    have ha : atB b p = Wd.at_ b p := by simp [atB, hpl]
    rw [ha] at hc
    rcases hc with e | e | e | e
    · have := (hk.1 (Or.inl e)).2.1; omega
    · have := (hk.1 (Or.inr e)).2.1; omega
    · have := (hk.2 (Or.inl e)).2.1; omega
    · have := (hk.2 (Or.inr e)).2.1; omega)
  rwa [Wd.mkS_list] at this
theorem alone_letter45 {b : List UInt8} (hok : PairOK b) {p h : Nat} {hd off : Bool} (hc : atB b p = 45 ∨ atB b p = 60 ∨ atB b p = 62) : (faultP hd b p h off = 0 ∧ (alone b ⟨false, 0, p, h⟩ hd off false).1 = atB b p) ∨ ((faultP hd b p h off = 85 ∨ faultP hd b p h off = 73) ∧ (alone b ⟨false, 0, p, h⟩ hd off false).1 = faultP hd b p h off) := by
  unfold alone faultP
  by_cases e45 : atB b p = 45
  · rw [hasB_num hok (Or.inr e45)]
    cases hq : holds h (num b p).toNat <;> simp [e45, hq]
  · have e60 : atB b p = 60 ∨ atB b p = 62 := by omega
    have n43 : atB b p ≠ 43 := by omega
    have n122 : atB b p ≠ 122 := by omega
    cases hd <;> simp [e45, e60, n43, n122]
set_option maxRecDepth 100000 in
theorem wrongB (hd : Bool) (b : List UInt8) (p s h : Nat) (off : Bool) (w : World) (hl : b.length ≤ 300) (hp : p ≤ 20000) (hs : s < 128) (hok : PairOK b) (hh : s / 2 = h) (hm : (s : Int) % 2 = cond off 1 0) :
    Calls Try.prog 91 #[.agg #[.bool hd, .string (Wd.mkS b)], .int .i64 p, .int .i64 s] w fun e w' => e = .returned (.int .u8 (faultP hd b p h off)) ∧ Below w.heap.size w w' := by
  have hq : (s : Int) / 2 = (h : Int) := by omega
  have hh64 : h < 64 := by omega
  have hsI : (s : Int) < 128 := by omega
  have AA := hide (fun W => atD b hl p hp W)
  have AL : Hid (∀ W, Calls Try.prog 118 #[.string (Wd.mkS b), .agg #[.bool false, .int .i64 0, .int .i64 (p : Int), .int .i64 (h : Int)], .bool hd, .bool off, .bool false] W fun e w' => ∃ v, e = .returned (.tuple #[.int .u8 (alone b ⟨false, 0, p, h⟩ hd off false).1, .agg #[.bool (alone b ⟨false, 0, p, h⟩ hd off false).2.1.there, .int .i64 ((alone b ⟨false, 0, p, h⟩ hd off false).2.1.item : Int), .int .i64 ((alone b ⟨false, 0, p, h⟩ hd off false).2.1.pos : Int), .int .i64 ((alone b ⟨false, 0, p, h⟩ hd off false).2.1.held : Int)], .bool v]) ∧ Below W.heap.size W w') := hide (fun W => (aloneD b hok hl ⟨false, 0, p, h⟩ hd off false hp (by show h ≤ 1000; omega) W).mono (fun e w' h => ⟨_, h⟩))
  have AN := hide (fun hc W => numberD b hok hl p hp hc W)
  have AH := hide (fun l W (hl : l ≤ 20) => holds_any h l W (by omega) hl)
  have HB := hide (below_one w (.cells #[.bool hd, .string (Wd.mkS b)] 31))
  have hbd := atB_bd b p
  have HOK := hide hok
  clear hok hh
  by_cases h101 : atB b p = 101
  · have hF : Hid (faultP hd b p h off = if (h == 0) = false ∨ (off = true ∧ hd = false) then 69 else 0) := hide (by unfold faultP; rw [if_neg (by omega), if_neg (by omega), if_neg (by omega), if_neg (by omega), if_pos h101])
    rw [h101] at AA
    rw [hF.out]
    clear hF AL AN AH hbd h101
    by_cases h0 : h = 0
    · subst h0
      cases off <;> cases hd <;> (
        go_enter Try.func91, Try.ntmps91
        go_wp2_with (first | (go_at_call 93; refine (AA.out _).mono ?_; rintro e w' ⟨rfl, hww⟩; obtain rfl := hww.symm; clear hww))
        go_ret
        exact ⟨rfl, HB.out⟩)
    · have hpos : (0 : Int) < (h : Int) := by omega
      have h0' : (h == 0) = false := by simpa using h0
      rw [if_pos (Or.inl h0')]
      clear h0 h0'
      go_enter Try.func91, Try.ntmps91
      go_wp2_with (first | (go_at_call 93; refine (AA.out _).mono ?_; rintro e w' ⟨rfl, hww⟩; obtain rfl := hww.symm; clear hww))
      go_ret
      exact ⟨rfl, HB.out⟩
  by_cases h43 : atB b p = 43
  · have hF : Hid (faultP hd b p h off = if holds h (num b p).toNat = true then 68 else 0) := hide (by unfold faultP; rw [if_pos h43, hasB_num HOK.out (Or.inl h43)])
    have hnl := num_lockB HOK.out (Or.inl h43)
    have AN' := hide (AN.out (Or.inl h43))
    rw [h43] at AA
    rw [hF.out]
    clear hF AL AN hbd h43 h101
    obtain ⟨l, hl'⟩ : ∃ l : Nat, num b p = (l : Int) := ⟨(num b p).toNat, by omega⟩
    rw [hl'] at AN' ⊢
    rw [show ((l : Int)).toNat = l from rfl]
    have hl20 : l ≤ 20 := by omega
    have AH' := hide (fun W => AH.out l W hl20)
    clear hl' AH hnl
    generalize holds h l = o at *
    cases o <;> (
      go_enter Try.func91, Try.ntmps91
      go_wp2_with (first | (go_at_call 93; refine (AA.out _).mono ?_; rintro e w' ⟨rfl, hww⟩; obtain rfl := hww.symm; clear hww) | (go_at_call 94; refine (AN'.out _).mono ?_; rintro e w' ⟨rfl, hww⟩; obtain rfl := hww.symm; clear hww) | (go_at_call 95; refine (AH'.out _).mono ?_; rintro e w' ⟨rfl, hww⟩; obtain rfl := hww.symm; clear hww))
      go_ret
      exact ⟨rfl, HB.out⟩)
  by_cases h122 : atB b p = 122
  · have hF : Hid (faultP hd b p h off = if hd = true ∨ off = true ∨ (h == 0) = false then 83 else 0) := hide (by unfold faultP; rw [if_neg (by omega), if_neg (by omega), if_pos h122])
    rw [h122] at AA
    rw [hF.out]
    clear hF AL AN AH hbd h122 h43 h101
    by_cases h0 : h = 0
    · subst h0
      cases off <;> cases hd <;> (
        go_enter Try.func91, Try.ntmps91
        go_wp2_with (first | (go_at_call 93; refine (AA.out _).mono ?_; rintro e w' ⟨rfl, hww⟩; obtain rfl := hww.symm; clear hww))
        go_ret
        exact ⟨rfl, HB.out⟩)
    · have hpos : (0 : Int) < (h : Int) := by omega
      have h0' : (h == 0) = false := by simpa using h0
      rw [if_pos (Or.inr (Or.inr h0'))]
      clear h0 h0'
      cases hd <;> (
        go_enter Try.func91, Try.ntmps91
        go_wp2_with (first | (go_at_call 93; refine (AA.out _).mono ?_; rintro e w' ⟨rfl, hww⟩; obtain rfl := hww.symm; clear hww))
        go_ret
        exact ⟨rfl, HB.out⟩)
  by_cases h45 : atB b p = 45 ∨ atB b p = 60 ∨ atB b p = 62
  · have hal := alone_letter45 HOK.out (h := h) (hd := hd) (off := off) h45
    generalize (alone b ⟨false, 0, p, h⟩ hd off false).1 = t at *
    generalize (alone b ⟨false, 0, p, h⟩ hd off false).2.1.there = t1 at *
    generalize (alone b ⟨false, 0, p, h⟩ hd off false).2.1.item = t2 at *
    generalize (alone b ⟨false, 0, p, h⟩ hd off false).2.1.pos = t3 at *
    generalize (alone b ⟨false, 0, p, h⟩ hd off false).2.1.held = t4 at *
    generalize faultP hd b p h off = F at *
    clear AN AH hbd h122 h43 h101
    generalize atB b p = c at *
    rcases hal with ⟨rfl, rfl⟩ | ⟨hF | hF, rfl⟩
    · rcases h45 with rfl | rfl | rfl <;> cases off <;> (
        go_enter Try.func91, Try.ntmps91
        go_wp2_with (first | (go_at_call 93; refine (AA.out _).mono ?_; rintro e w' ⟨rfl, hww⟩; obtain rfl := hww.symm; clear hww) | (go_at_call 118; refine (AL.out _).mono ?_; rintro e w' ⟨v, rfl, hb1⟩; have HB1 := hide (below_new (below_go HB.out hb1)); clear hb1))
        go_ret
        exact ⟨rfl, HB1.out _⟩)
    · subst hF
      rcases h45 with rfl | rfl | rfl <;> cases off <;> (
        go_enter Try.func91, Try.ntmps91
        go_wp2_with (first | (go_at_call 93; refine (AA.out _).mono ?_; rintro e w' ⟨rfl, hww⟩; obtain rfl := hww.symm; clear hww) | (go_at_call 118; refine (AL.out _).mono ?_; rintro e w' ⟨v, rfl, hb1⟩; have HB1 := hide (below_new (below_go HB.out hb1)); clear hb1))
        go_ret
        exact ⟨rfl, HB1.out _⟩)
    · subst hF
      rcases h45 with rfl | rfl | rfl <;> cases off <;> (
        go_enter Try.func91, Try.ntmps91
        go_wp2_with (first | (go_at_call 93; refine (AA.out _).mono ?_; rintro e w' ⟨rfl, hww⟩; obtain rfl := hww.symm; clear hww) | (go_at_call 118; refine (AL.out _).mono ?_; rintro e w' ⟨v, rfl, hb1⟩; have HB1 := hide (below_new (below_go HB.out hb1)); clear hb1))
        go_ret
        exact ⟨rfl, HB1.out _⟩)
  · have hF : Hid (faultP hd b p h off = 0) := hide (by unfold faultP; rw [if_neg h43, if_neg (by omega), if_neg h122, if_neg (by omega), if_neg h101])
    rw [hF.out]
    have m45 : atB b p ≠ 45 := by omega
    have m60 : atB b p ≠ 60 := by omega
    have m62 : atB b p ≠ 62 := by omega
    clear hF AL AN AH h45
    generalize atB b p = c at *
    go_enter Try.func91, Try.ntmps91
    go_wp2_with (first | (go_at_call 93; refine (AA.out _).mono ?_; rintro e w' ⟨rfl, hww⟩; obtain rfl := hww.symm; clear hww))
    all_goals first | (exfalso; omega) | (go_ret; exact ⟨rfl, HB.out⟩)
theorem wrong_any (hd : Bool) (b : List UInt8) (p s : Nat) (w : World) (hl : b.length ≤ 300) (hp : p ≤ 20000) (hs : s < 128) (hok : PairOK b) :
    Calls Try.prog 91 #[.agg #[.bool hd, .string (Wd.mkS b)], .int .i64 p, .int .i64 s] w fun e w' => e = .returned (.int .u8 (wrD hd b p s)) ∧ Below w.heap.size w w' :=
  wrongB hd b p s (s / 2) (decide (s % 2 = 1)) w hl hp hs hok rfl (by by_cases h : s % 2 = 1 <;> simp [h] <;> omega)
end Go.Proofs.Ytecmfdkhcffpmaa
