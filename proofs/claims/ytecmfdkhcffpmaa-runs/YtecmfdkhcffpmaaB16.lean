/- MacG, MacH. -/
import Derived.Test.YtecmfdkhcffpmaaB06
import Derived.BigRegion
/- Contracts of the document's machine: a frame is laid; a thread leaves. -/
namespace Go.Proofs.Ytecmfdkhcffpmaa
open Go.RowKit
set_option linter.unusedSimpArgs false
set_option linter.unusedVariables false
set_option maxHeartbeats 800000
open Mc

/-- All stands but for the machine's own blocks. -/
structure Kp (A : Ad) (w w' : World) : Prop where
  below : Below 0 w w'
  same : ∀ k, k < w.heap.size → k ≠ A.g1 → k ≠ A.g3 → A.a2 ≠ some ⟨k, 0, none⟩ → w'.heap[k]? = w.heap[k]?
theorem Kp.of {A : Ad} {w w' : World} (h : Below w.heap.size w w') : Kp A w w' := ⟨h.mono (Nat.zero_le _), fun k hk _ _ _ => h.block k hk⟩
theorem Kp.refl (A : Ad) (w : World) : Kp A w w := Kp.of (Below.refl _ _)
theorem Kp.size {A : Ad} {w w' : World} (h : Kp A w w') : w.heap.size ≤ w'.heap.size := h.below.size
theorem Kp.trans {A : Ad} {a b c : World} (h1 : Kp A a b) (h2 : Kp A b c) : Kp A a c :=
  ⟨h1.below.trans h2.below, fun k hk e1 e2 e3 => (h2.same k (Nat.lt_of_lt_of_le hk h1.size) e1 e2 e3).trans (h1.same k hk e1 e2 e3)⟩
theorem Kp.drew {A : Ad} {a w : World} (h : Kp A a w) : Kp A a w.drew := h.trans (Kp.of ((Below.refl _ _).drew))
theorem Kp.alloc {A : Ad} {a w : World} (h : Kp A a w) (o : Obj) : Kp A a (w.alloc o) := h.trans (Kp.of ((Below.refl _ _).alloc (Nat.le_refl _) o))
theorem Kp.toBelow {A : Ad} {w w' : World} {B : Nat} (h : Kp A w w') (hB : B ≤ w.heap.size) (h1 : B ≤ A.g1) (h3 : B ≤ A.g3) (h2 : ∀ g, A.a2 = some ⟨g, 0, none⟩ → B ≤ g) : Below B w w' :=
  ⟨h.below.os, h.below.tape, h.below.output, h.below.size, fun k hk => h.same k (by omega) (by omega) (by omega) (fun e => by have := h2 k e; omega)⟩
theorem Kp.sets1 {A : Ad} {a w : World} (h : Kp A a w) (o : Nat) (vs : List Value) : Kp A a (w.setCells A.g1 o vs) :=
  h.trans ⟨Below.setCells A.g1 (Nat.zero_le _) vs o w (Below.refl _ _), fun k hk e1 e2 e3 => heap_setCells_other A.g1 vs o w k e1⟩
theorem Kp.set1 {A : Ad} {a w : World} (h : Kp A a w) (o : Nat) (v : Value) : Kp A a (w.setCell ⟨A.g1, o, none⟩ v) := h.sets1 o [v]
theorem Kp.set3 {A : Ad} {a w : World} (h : Kp A a w) (o : Nat) (v : Value) : Kp A a (w.setCell ⟨A.g3, o, none⟩ v) :=
  h.trans ⟨(Below.refl _ _).setCell (p := ⟨A.g3, o, none⟩) (Nat.zero_le _) v, fun k hk e1 e2 e3 => heap_setCell_other w ⟨A.g3, o, none⟩ k v e2⟩
theorem Kp.set2 {A : Ad} {a w : World} {g : Nat} (h : Kp A a w) (hg : A.a2 = some ⟨g, 0, none⟩) (o : Nat) (v : Value) : Kp A a (w.setCell ⟨g, o, none⟩ v) :=
  h.trans ⟨(Below.refl _ _).setCell (p := ⟨g, o, none⟩) (Nat.zero_le _) v, fun k hk e1 e2 e3 => heap_setCell_other w ⟨g, o, none⟩ k v (by intro e; have e' : k = g := e; subst e'; exact e3 hg)⟩

theorem DM.upd {w w' : World} {N b : Nat} {A : Ad} {its : List Wd.It} {n : Nat} {S S' : Ma} (h : DM w N b A its n S) (hk : Kp A w w') (hc : Blk w' A.g1 (n * 9) (cpsF S')) (hr : ∀ g, A.a2 = some ⟨g, 0, none⟩ → 0 < its.length → Blk w' g its.length (fun i => .bool (S'.rd i))) (ha : Blk w' A.g3 its.length (fun i => .int .i64 (S'.pl i : Int))) : DM w' N b A its n S' := by
  obtain ⟨n1, n2, n3, n4⟩ := h.a2
  obtain ⟨m1, m2, m3, m4, m5, m6⟩ := h.ne
  refine ⟨h.root.same (hk.same b h.root.lt m1 m2 n1), fun hl => ?_, hc, fun hl => ?_, ha, h.ne, h.caps, h.a2⟩
  · obtain ⟨g, e1, e2, e3, e4, e5⟩ := h.items hl
    refine ⟨g, e1, e2.same (hk.same g e2.lt e4 e5 ?_), e3, e4, e5⟩
    obtain ⟨g', k1, k2, k3, k4, k5, k6, k7⟩ := h.ready hl
    intro e; rw [k1] at e; cases e; exact k7 e1
  · obtain ⟨g', k1, k2, k3, k4, k5, k6, k7⟩ := h.ready hl
    exact ⟨g', k1, hr g' k1 hl, k3, k4, k5, k6, k7⟩
/-- Only processors have changed. -/
theorem DM.updC {w w' : World} {N b : Nat} {A : Ad} {its : List Wd.It} {n : Nat} {S S' : Ma} (h : DM w N b A its n S) (hk : Kp A w w') (hc : Blk w' A.g1 (n * 9) (cpsF S')) (e1 : S'.rd = S.rd) (e2 : S'.pl = S.pl) (h2 : ∀ g, g ≠ A.g1 → g < w.heap.size → w'.heap[g]? = w.heap[g]?) : DM w' N b A its n S' := by
  refine h.upd hk hc (fun g hg hl => ?_) ?_
  · obtain ⟨g', k1, k2, k3, k4, k5, k6, k7⟩ := h.ready hl
    rw [hg] at k1; cases k1
    rw [e1]; exact k2.same (h2 g k4 k2.lt)
  · rw [e2]; exact h.at_.same (h2 _ (Ne.symm h.ne.2.2.1) h.at_.lt)

theorem Kp.dm {w : World} {N b : Nat} {A : Ad} {its : List Wd.It} {n : Nat} {S : Ma} (h : DM w N b A its n S) {a w' : World} (hk : Kp A a w') (hN : N ≤ a.heap.size) : Below N a w' := hk.toBelow hN h.ne.2.2.2.2.1 h.ne.2.2.2.2.2 h.a2.2.2.2

theorem cps_setH (S : Ma) (c : Nat) (f : Fr) (i : Nat) : (if c * 9 + 4 ≤ i then ((frV f)[i - (c * 9 + 4)]?).getD (cpsF S i) else cpsF S i) = cpsF (setCp S c { (S.cp c) with h := f }) i := by
  unfold cpsF setCp
  by_cases e : i / 9 = c
  · have hi : i = c * 9 + i % 9 := by omega
    have hm : i % 9 < 9 := Nat.mod_lt _ (by omega)
    simp only [e, if_true]
    generalize i % 9 = m at *
    subst hi
    rcases m with _ | _ | _ | _ | _ | _ | _ | _ | _ | m <;> first | omega | (simp [frV, cpF, Nat.add_sub_add_left]; done) | (rw [if_neg (by omega)]; rfl) | skip
    all_goals (rw [if_pos (by omega)]; simp [frV, cpF])
  · simp only [if_neg e]
    by_cases e2 : c * 9 + 4 ≤ i
    · rw [if_pos e2, List.getElem?_eq_none (by simp [frV]; omega)]; rfl
    · rw [if_neg e2]
theorem cps_setT (S : Ma) (c : Nat) (f : Fr) (i : Nat) : (if c * 9 ≤ i then ((frV f)[i - c * 9]?).getD (cpsF S i) else cpsF S i) = cpsF (setCp S c { (S.cp c) with t := f }) i := by
  unfold cpsF setCp
  by_cases e : i / 9 = c
  · have hi : i = c * 9 + i % 9 := by omega
    have hm : i % 9 < 9 := Nat.mod_lt _ (by omega)
    simp only [e, if_true]
    generalize i % 9 = m at *
    subst hi
    rw [if_pos (by omega), Nat.add_sub_cancel_left]
    rcases m with _ | _ | _ | _ | _ | _ | _ | _ | _ | m <;> first | omega | rfl
  · simp only [if_neg e]
    by_cases e2 : c * 9 ≤ i
    · rw [if_pos e2, List.getElem?_eq_none (by simp [frV]; omega)]; rfl
    · rw [if_neg e2]
theorem DM.setH {w : World} {N b : Nat} {A : Ad} {its : List Wd.It} {n : Nat} {S : Ma} (h : DM w N b A its n S) (c : Nat) (f : Fr) : DM (w.setCells A.g1 (c * 9 + 4) (frV f)) N b A its n (setCp S c { (S.cp c) with h := f }) :=
  h.updC ((Kp.refl A w).sets1 _ _) ((Blk.sets (frV f) (c * 9 + 4) w _ h.cpus).congr fun i _ => cps_setH S c f i) rfl rfl (fun g hg _ => heap_setCells_other _ _ _ _ _ hg)
theorem DM.setT {w : World} {N b : Nat} {A : Ad} {its : List Wd.It} {n : Nat} {S : Ma} (h : DM w N b A its n S) (c : Nat) (f : Fr) : DM (w.setCells A.g1 (c * 9) (frV f)) N b A its n (setCp S c { (S.cp c) with t := f }) :=
  h.updC ((Kp.refl A w).sets1 _ _) ((Blk.sets (frV f) (c * 9) w _ h.cpus).congr fun i _ => cps_setT S c f i) rfl rfl (fun g hg _ => heap_setCells_other _ _ _ _ _ hg)
theorem DM.drew {w : World} {N b : Nat} {A : Ad} {its : List Wd.It} {n : Nat} {S : Ma} (h : DM w N b A its n S) : DM w.drew N b A its n S := h.below ((Below.refl _ _).drew)
theorem DM.cpFro {w : World} {N b : Nat} {A : Ad} {its : List Wd.It} {n : Nat} {S : Ma} (h : DM w N b A its n S) (c j : Nat) : w.frozen? ⟨A.g1, c * 9 + j, none⟩ = false := h.cpus.frozen _

set_option maxRecDepth 100000 in
theorem put_any (w : World) (N b : Nat) (A : Ad) (its : List Wd.It) (n : Nat) (S : Ma) (c : Nat) (f : Fr) (h : DM w N b A its n S) (hc : c < n) (hn : n ≤ 3) :
    Calls Try.prog 115 #[.pointer (some ⟨b, 0, none⟩), .int .i64 c, .agg #[.bool f.there, .int .i64 (f.item : Int), .int .i64 (f.pos : Int), .int .i64 (f.held : Int)]] w fun e w' => e = .returned (.tuple #[]) ∧ DM w' N b A its n (put S c f) ∧ Kp A w w' := by
  have r1 : ∀ o, (w.alloc o).cell? ⟨b, 1, none⟩ = some (.slice (some ⟨A.g1, 0, none⟩) n A.c1) := fun o => (h.alloc o).root.cell 1 (by omega)
  have q4 : ∀ o, (w.alloc o).cell? ⟨A.g1, c * 9 + 4, none⟩ = some (.bool (S.cp c).h.there) := fun o => (h.alloc o).cpAt c 4 hc (by omega)
  have CA := h.caps
  unfold maxLen at CA
  cases ht : (S.cp c).h.there
  · have q0 : ∀ o, (w.alloc o).cell? ⟨A.g1, c * 9, none⟩ = some (.bool (S.cp c).t.there) := fun o => (h.alloc o).cpAt c 0 hc (by omega)
    have q1 : ∀ o, (w.alloc o).cell? ⟨A.g1, c * 9 + 1, none⟩ = some (.int .i64 ((S.cp c).t.item : Int)) := fun o => (h.alloc o).cpAt c 1 hc (by omega)
    have q2 : ∀ o, (w.alloc o).cell? ⟨A.g1, c * 9 + 2, none⟩ = some (.int .i64 ((S.cp c).t.pos : Int)) := fun o => (h.alloc o).cpAt c 2 hc (by omega)
    have q3 : ∀ o, (w.alloc o).cell? ⟨A.g1, c * 9 + 3, none⟩ = some (.int .i64 ((S.cp c).t.held : Int)) := fun o => (h.alloc o).cpAt c 3 hc (by omega)
    have f0 : ∀ o, (w.alloc o).frozen? ⟨A.g1, c * 9, none⟩ = false := fun o => (h.alloc o).cpFro c 0
    have f1 : ∀ o, (w.alloc o).frozen? ⟨A.g1, c * 9 + 1, none⟩ = false := fun o => (h.alloc o).cpFro c 1
    have f2 : ∀ o, (w.alloc o).frozen? ⟨A.g1, c * 9 + 2, none⟩ = false := fun o => (h.alloc o).cpFro c 2
    have f3 : ∀ o, (w.alloc o).frozen? ⟨A.g1, c * 9 + 3, none⟩ = false := fun o => (h.alloc o).cpFro c 3
    rw [ht] at q4
    have HM := hide h
    have HP : Hid (put S c f = setCp S c { (S.cp c) with t := f }) := by apply hide; simp [put, putCp, ht]
    clear h ht
    go_enter Try.func115, Try.ntmps115
    go_wp2_with fail
    go_region
    go_end0
    refine ⟨rfl, ?_, ?_⟩
    · rw [HP.out]; exact ((HM.out.alloc _).setT c f).drew
    · exact (((Kp.refl A w).alloc _).sets1 (c * 9) (frV f)).drew
  · have q5 : ∀ o, (w.alloc o).cell? ⟨A.g1, c * 9 + 4 + 1, none⟩ = some (.int .i64 ((S.cp c).h.item : Int)) := fun o => (h.alloc o).cpAt c 5 hc (by omega)
    have q6 : ∀ o, (w.alloc o).cell? ⟨A.g1, c * 9 + 4 + 2, none⟩ = some (.int .i64 ((S.cp c).h.pos : Int)) := fun o => (h.alloc o).cpAt c 6 hc (by omega)
    have q7 : ∀ o, (w.alloc o).cell? ⟨A.g1, c * 9 + 4 + 3, none⟩ = some (.int .i64 ((S.cp c).h.held : Int)) := fun o => (h.alloc o).cpAt c 7 hc (by omega)
    have f4 : ∀ o, (w.alloc o).frozen? ⟨A.g1, c * 9 + 4, none⟩ = false := fun o => (h.alloc o).cpFro c 4
    have f5 : ∀ o, (w.alloc o).frozen? ⟨A.g1, c * 9 + 4 + 1, none⟩ = false := fun o => (h.alloc o).cpFro c 5
    have f6 : ∀ o, (w.alloc o).frozen? ⟨A.g1, c * 9 + 4 + 2, none⟩ = false := fun o => (h.alloc o).cpFro c 6
    have f7 : ∀ o, (w.alloc o).frozen? ⟨A.g1, c * 9 + 4 + 3, none⟩ = false := fun o => (h.alloc o).cpFro c 7
    rw [ht] at q4
    have HM := hide h
    have HP : Hid (put S c f = setCp S c { (S.cp c) with h := f }) := by apply hide; simp [put, putCp, ht]
    clear h ht
    go_enter Try.func115, Try.ntmps115
    go_wp2_with fail
    go_region
    go_end0
    refine ⟨rfl, ?_, ?_⟩
    · rw [HP.out]; exact ((HM.out.alloc _).setH c f).drew
    · exact (((Kp.refl A w).alloc _).sets1 (c * 9 + 4) (frV f)).drew
end Go.Proofs.Ytecmfdkhcffpmaa
/- Contracts of the document's machine: a thread leaves; a lock is taken. -/
namespace Go.Proofs.Ytecmfdkhcffpmaa
open Go.RowKit
set_option linter.unusedSimpArgs false
set_option linter.unusedVariables false
set_option maxHeartbeats 800000
open Mc

theorem DM.rdSet {w : World} {N b : Nat} {A : Ad} {its : List Wd.It} {n : Nat} {S : Ma} (h : DM w N b A its n S) (g : Nat) (hg : A.a2 = some ⟨g, 0, none⟩) (i : Nat) (v : Bool) : DM (w.setCell ⟨g, i, none⟩ (.bool v)) N b A its n (setRd S i v) := by
  obtain ⟨n1, n2, n3, n4⟩ := h.a2
  have e1 : A.g1 ≠ g := fun e => n2 (by rw [hg, e])
  have e3 : A.g3 ≠ g := fun e => n3 (by rw [hg, e])
  refine h.upd ((Kp.refl A w).set2 hg i _) (h.cpus.same (heap_setCell_other w ⟨g, i, none⟩ _ _ e1)) (fun g' hg' hl => ?_) (h.at_.same (heap_setCell_other w ⟨g, i, none⟩ _ _ e3))
  rw [hg] at hg'; cases hg'
  obtain ⟨g', k1, k2, _⟩ := h.ready hl
  rw [hg] at k1; cases k1
  refine (k2.set i (.bool v)).congr fun j _ => ?_
  unfold setRd; by_cases e : j = i <;> simp [e]
theorem DM.plSet {w : World} {N b : Nat} {A : Ad} {its : List Wd.It} {n : Nat} {S : Ma} (h : DM w N b A its n S) (i p : Nat) : DM (w.setCell ⟨A.g3, i, none⟩ (.int .i64 (p : Int))) N b A its n (setPl S i p) := by
  obtain ⟨n1, n2, n3, n4⟩ := h.a2
  have e1 : A.g1 ≠ A.g3 := h.ne.2.2.1
  refine h.upd ((Kp.refl A w).set3 i _) (h.cpus.same (heap_setCell_other w ⟨A.g3, i, none⟩ _ _ e1)) (fun g' hg' hl => ?_) ?_
  · obtain ⟨g'', k1, k2, _⟩ := h.ready hl
    rw [hg'] at k1; cases k1
    exact k2.same (heap_setCell_other w ⟨A.g3, i, none⟩ _ _ (fun e => n3 (by rw [hg', e])))
  · refine (h.at_.set i (.int .i64 (p : Int))).congr fun j _ => ?_
    unfold setPl; by_cases e : j = i <;> simp [e]

set_option maxRecDepth 100000 in
theorem leaves_any (w : World) (N b : Nat) (A : Ad) (its : List Wd.It) (n : Nat) (S : Ma) (c p : Nat) (h : DM w N b A its n S) (hc : c < n) (hn : n ≤ 3) (hi : (S.cp c).t.item < its.length) :
    Calls Try.prog 85 #[.pointer (some ⟨b, 0, none⟩), .int .i64 c, .int .i64 p] w fun e w' => e = .returned (.tuple #[]) ∧ DM w' N b A its n (leaves S c p) ∧ Kp A w w' := by
  obtain ⟨g, hg, hr, _⟩ := h.ready (by omega)
  have CA := h.caps
  unfold maxLen at CA
  obtain ⟨n1, n2, n3, n4⟩ := h.a2
  obtain ⟨m1, m2, m3, m4, m5, m6⟩ := h.ne
  have e1 : b ≠ g := fun e => n1 (by rw [hg, e])
  have e2 : A.g1 ≠ g := fun e => n2 (by rw [hg, e])
  have e3 : A.g3 ≠ g := fun e => n3 (by rw [hg, e])
  have r1 : w.cell? ⟨b, 1, none⟩ = some (.slice (some ⟨A.g1, 0, none⟩) n A.c1) := h.root.cell 1 (by omega)
  have r2 : w.cell? ⟨b, 2, none⟩ = some (.slice (some ⟨g, 0, none⟩) its.length A.c2) := by rw [h.root.cell 2 (by omega), ← hg]; rfl
  have r3 : w.cell? ⟨b, 3, none⟩ = some (.slice (some ⟨A.g3, 0, none⟩) its.length A.c3) := h.root.cell 3 (by omega)
  have q0 : w.cell? ⟨A.g1, c * 9, none⟩ = some (.bool (S.cp c).t.there) := h.cpAt c 0 hc (by omega)
  have q1 : w.cell? ⟨A.g1, c * 9 + 1, none⟩ = some (.int .i64 ((S.cp c).t.item : Int)) := h.cpAt c 1 hc (by omega)
  have q2 : w.cell? ⟨A.g1, c * 9 + 2, none⟩ = some (.int .i64 ((S.cp c).t.pos : Int)) := h.cpAt c 2 hc (by omega)
  have q3 : w.cell? ⟨A.g1, c * 9 + 3, none⟩ = some (.int .i64 ((S.cp c).t.held : Int)) := h.cpAt c 3 hc (by omega)
  have f0 : w.frozen? ⟨A.g1, c * 9, none⟩ = false := h.cpFro c 0
  have f1 : w.frozen? ⟨A.g1, c * 9 + 1, none⟩ = false := h.cpFro c 1
  have f2 : w.frozen? ⟨A.g1, c * 9 + 2, none⟩ = false := h.cpFro c 2
  have f3 : w.frozen? ⟨A.g1, c * 9 + 3, none⟩ = false := h.cpFro c 3
  have p0 : w.cell? ⟨g, (S.cp c).t.item, none⟩ = some (.bool (S.rd (S.cp c).t.item)) := hr.cell _ hi
  have p1 : w.cell? ⟨A.g3, (S.cp c).t.item, none⟩ = some (.int .i64 (S.pl (S.cp c).t.item : Int)) := h.at_.cell _ hi
  have p2 : w.frozen? ⟨g, (S.cp c).t.item, none⟩ = false := hr.frozen _
  have p3 : w.frozen? ⟨A.g3, (S.cp c).t.item, none⟩ = false := h.at_.frozen _
  have HM := hide (((h.rdSet g hg (S.cp c).t.item true).plSet (S.cp c).t.item p).setT c noFr)
  have HK := hide (((((Kp.refl A w).set2 hg (S.cp c).t.item (.bool true)).set3 (S.cp c).t.item (.int .i64 (p : Int))).sets1 (c * 9) (frV noFr)))
  have HL : Hid (leaves S c p = setCp (setPl (setRd S (S.cp c).t.item true) (S.cp c).t.item p) c { (S.cp c) with t := noFr }) := hide rfl
  clear h hr hg n1 n2 n3 n4
  generalize (S.cp c).t.item = i at *
  go_enter Try.func85, Try.ntmps85
  go_wp2
  go_end0
  exact ⟨rfl, by rw [HL.out]; exact HM.out, HK.out⟩
end Go.Proofs.Ytecmfdkhcffpmaa
