/- ProgL. -/
import Derived.Test.YtecmfdkhcffpmabB28
/- Contracts of the program's machine: a step. -/
namespace Go.Proofs.Ytecmfdkhcffpmab
open Go.RowKit
set_option linter.unusedSimpArgs false
set_option linter.unusedVariables false
set_option maxHeartbeats 8000000
open Mc

/-- Below B all stands but for the machine's own two blocks. -/
structure KQ (B b : Nat) (ai : Option Addr) (w w' : World) : Prop where
  below : Below 0 w w'
  same : ∀ k, k < B → k ≠ b → ai ≠ some ⟨k, 0, none⟩ → w'.heap[k]? = w.heap[k]?
theorem KQ.refl (B b : Nat) (ai : Option Addr) (w : World) : KQ B b ai w w := ⟨Below.refl _ _, fun _ _ _ _ => rfl⟩
theorem KQ.trans {B b : Nat} {ai : Option Addr} {x y z : World} (h1 : KQ B b ai x y) (h2 : KQ B b ai y z) : KQ B b ai x z := ⟨h1.below.trans h2.below, fun k hk e1 e2 => (h2.same k hk e1 e2).trans (h1.same k hk e1 e2)⟩
theorem KQ.bel {B b : Nat} {ai : Option Addr} {x y z : World} (h1 : KQ B b ai x y) (hb : Below y.heap.size y z) (hB : B ≤ y.heap.size) : KQ B b ai x z := h1.trans ⟨hb.mono (Nat.zero_le _), fun k hk _ _ => hb.block k (by omega)⟩
theorem KQ.kp {B b : Nat} {ai : Option Addr} {x y z : World} (h1 : KQ B b ai x y) (hb : KP b ai y z) (hB : B ≤ y.heap.size) : KQ B b ai x z := h1.trans ⟨hb.below, fun k hk e1 e2 => hb.same k (by omega) e1 e2⟩
theorem KQ.oth {B b g : Nat} {ai : Option Addr} {x y z : World} (h1 : KQ B b ai x y) (hb : Below 0 y z) (hs : ∀ k, k ≠ g → z.heap[k]? = y.heap[k]?) (hg : B ≤ g) : KQ B b ai x z := h1.trans ⟨hb, fun k hk _ _ => hs k (by omega)⟩
theorem KQ.toKP {b : Nat} {ai : Option Addr} {w w' : World} (h : KQ w.heap.size b ai w w') : KP b ai w w' := ⟨h.below, h.same⟩
theorem KQ.size {B b : Nat} {ai : Option Addr} {x y : World} (h : KQ B b ai x y) : x.heap.size ≤ y.heap.size := h.below.size
/-- The machine's blocks lie below B. -/
structure PB (B b : Nat) (ai : Option Addr) (lg : Nat → Nat) (n : Nat) : Prop where
  b : b < B
  ai : 0 < n → ∀ g, ai = some ⟨g, 0, none⟩ → g < B
  lg : ∀ i, i < n → lg i < B
theorem PM.pb {w : World} {b : Nat} {ai : Option Addr} {ci : Nat} {lg : Nat → Nat} {its : List Wd.It} {S : Ma} (h : PM w b ai ci lg its S) : PB w.heap.size b ai lg its.length :=
  ⟨h.root.lt, fun hl g hg => by obtain ⟨g', e1, e2, _⟩ := h.items hl; rw [hg] at e1; cases e1; exact e2.lt, fun i hi => (h.leads i hi).1.lt⟩
theorem PM.keepB {B : Nat} {w' : World} {w : World} {b : Nat} {ai : Option Addr} {ci : Nat} {lg : Nat → Nat} {its : List Wd.It} {S : Ma} (h : PM w b ai ci lg its S) (hB : PB B b ai lg its.length) (hs : ∀ k, k < B → w'.heap[k]? = w.heap[k]?) : PM w' b ai ci lg its S :=
  ⟨h.root.same (hs _ hB.b), fun hl => (h.items hl).imp fun g hg => ⟨hg.1, hg.2.1.same (hs _ (hB.ai hl g hg.1)), hg.2.2⟩, fun i hi => ⟨(h.leads i hi).1.same (hs _ (hB.lg i hi)), (h.leads i hi).2⟩, h.caps, h.ab⟩
theorem fpV_get (its : List Wd.It) (lg : Nat → Nat) (f : Fr) (o : Bool) (j : Nat) (hj : j < 13) : (fpV its lg f o)[j]? = some (fpC its lg f o j) := by
  unfold fpC
  rw [List.getElem?_eq_getElem (by simp [fpV]; omega)]; rfl
theorem pm_lay {w : World} {b : Nat} {ai : Option Addr} {ci : Nat} {lg : Nat → Nat} {its : List Wd.It} {S : Ma} (c : Nat) (hc : c < 3) (f : Fr) (o : Bool) (hh : (S.cp c).h.there = true → o = f.there) (i : Nat) (h79 : i < 79) : (if (if (S.cp c).h.there = true then 1 + c * 26 + 13 else 1 + c * 26) ≤ i then ((fpV its lg f o)[i - (if (S.cp c).h.there = true then 1 + c * 26 + 13 else 1 + c * 26)]?).getD (pmF ai ci its lg S i) else pmF ai ci its lg S i) = pmF ai ci its lg (layP S c f o) i := by
  unfold pmF
  by_cases i0 : i = 0
  · subst i0
    rw [if_neg (by split <;> omega)]
    simp
  · rw [if_neg i0, if_neg i0]
    obtain ⟨m, hm⟩ : ∃ m, (i - 1) % 26 = m := ⟨_, rfl⟩
    have hm26 : m < 26 := by rw [← hm]; exact Nat.mod_lt _ (by omega)
    rw [hm]
    unfold pcF layP setCp
    by_cases e : (i - 1) / 26 = c
    · have hi : i = 1 + c * 26 + m := by omega
      simp only [e, if_true]
      cases hth : (S.cp c).h.there
      · simp only [Bool.false_eq_true, if_false]
        rw [if_pos (by omega), hi, Nat.add_sub_cancel_left]
        by_cases hm13 : m < 13
        · rw [if_pos hm13, if_pos hm13, fpV_get _ _ _ _ _ hm13]; rfl
        · rw [if_neg hm13, if_neg hm13, List.getElem?_eq_none (by simp [fpV]; omega)]; simp [hth]
      · simp only [if_true]
        by_cases hm13 : m < 13
        · rw [if_pos hm13, if_neg (by omega), if_pos hm13]
        · rw [if_neg hm13, if_pos (by omega), if_neg hm13, hh hth, hi, show 1 + c * 26 + m - (1 + c * 26 + 13) = m - 13 by omega, fpV_get _ _ _ _ _ (by omega)]; rfl
    · simp only [if_neg e]
      by_cases hle : (if (S.cp c).h.there = true then 1 + c * 26 + 13 else 1 + c * 26) ≤ i
      · rw [if_pos hle, List.getElem?_eq_none (by simp [fpV]; split at hle <;> split <;> omega)]; rfl
      · rw [if_neg hle]
/-- The frame that works is laid anew. -/
theorem PM.lay {w : World} {b : Nat} {ai : Option Addr} {ci : Nat} {lg : Nat → Nat} {its : List Wd.It} {S : Ma} (h : PM w b ai ci lg its S) (c : Nat) (hc : c < 3) (f : Fr) (o : Bool) (hh : (S.cp c).h.there = true → o = f.there) : PM (w.setCells b (if (S.cp c).h.there = true then 1 + c * 26 + 13 else 1 + c * 26) (fpV its lg f o)) b ai ci lg its (layP S c f o) := by
  refine h.upd ((KP.refl b ai w).sets _ _) ?_ ?_
  · exact (Blk.sets _ _ _ _ h.root).congr fun i hi => pm_lay (w := w) (b := b) c hc f o hh i hi
  · intro g hl hg
    obtain ⟨g', e1, e2, e3⟩ := h.items hl
    rw [hg] at e1; cases e1
    exact (e2.setsO e3 _ _).congr fun i hi => rfl
theorem frm_put {w : World} {g : Nat} {t : TypeId} {its : List Wd.It} {lg : Nat → Nat} {f : Fr} {o : Bool} (h : Row w g (frmA its lg f o) t) (p h' : Nat) (o' : Bool) : Row (w.setCells g 5 (stA p h' o').toList) g (frmA its lg { f with pos := p, held := h' } o') t := by
  have := Row.sets (stA p h' o').toList 5 w _ h
  simpa [setsA, stA, frmA, fpV, fb, fl] using this
theorem frm_no (its : List Wd.It) (lg : Nat → Nat) : frmA its lg noFr false = #[.bool false, .int .i64 0, .bool false, .string ⟨#[]⟩, .slice none 0 0, .int .i64 0, .bool false, .bool false, .bool false, .bool false, .bool false, .bool false, .bool false] := rfl
/-- What hinders, in both words. -/
theorem ringI_leads {its : List Wd.It} {S : Ma} (ho : ItsOK its) (hi : Inv its 3 S) (c : Nat) : ∀ (m : Nat) (l : Int), ringI its S c m l = leadsTo its S c m (hold3 S l)
  | 0, l => by cases hold3 S l <;> rfl
  | m + 1, l => by
    unfold ringI
    cases hl : hold3 S l with
    | none =>
      simp only [leadsTo]
      rw [ringI_leads ho hi c m (-1)]
      have : hold3 S (-1) = none := rfl
      rw [this]
      cases m <;> rfl
    | some d =>
      simp only [leadsTo]
      by_cases e : d = c
      · simp [e]
      · simp only [e, if_false]
        rw [ringI_leads ho hi c m]
        congr 1
        have hf := works_fr hi d (hold3_lt hl)
        unfold wantF nx wantsF
        rcases atF_stands hf with ⟨h1, h2, h3⟩ | ⟨h1, h2⟩
        · rw [h2]
          by_cases e43 : stands its (works S d) = 43
          · rw [if_pos e43, if_pos e43]
            have ha : atB (bodyOf its (works S d).item) (works S d).pos = 43 := by rw [← e43, ← h2, atF, h3]
            have hn := num_lock' ho (hf.item h1) (Or.inl ha)
            have hnn : 0 ≤ num (bodyOf its (works S d).item) (works S d).pos := (num_lockB (ho.pair _ (hf.item h1)) (Or.inl ha)).1
            unfold numF numP hold3
            rw [h3, if_pos (Or.inl ha), if_pos hnn]; rfl
          · rw [if_neg e43, if_neg e43]; rfl
        · rw [h1, h2]; rfl
theorem hindI_eq {its : List Wd.It} {S : Ma} (ho : ItsOK its) (hi : Inv its 3 S) (c : Nat) {f : Fr} {hd : Bool} (hf : FrOK its hd f) (hth : f.there = true) : hindI its S c f = hindP its S c f := by
  have hb : fb its f = bodyOf its f.item := fb_there hth
  have hA : atF its f = atB (bodyOf its f.item) f.pos := by rw [atF, hb]
  unfold hindI hindP
  rw [hA]
  by_cases e : atB (bodyOf its f.item) f.pos = 43
  · rw [if_pos e, if_pos e]
    have hnn : 0 ≤ num (bodyOf its f.item) f.pos := (num_lockB (ho.pair _ (hf.item hth)) (Or.inl e)).1
    have hN : numF its f = num (bodyOf its f.item) f.pos := by unfold numF numP; rw [hb, if_pos (Or.inl e)]
    have h3 : hold3 S (numF its f) = holder S 3 (num (bodyOf its f.item) f.pos).toNat := by rw [hN, hold3, if_pos hnn]
    unfold waitI waitP
    rw [ringI_leads ho hi, h3]
    cases holder S 3 (num (bodyOf its f.item) f.pos).toNat <;> rfl
  · rw [if_neg e, if_neg e]
    by_cases e2 : atB (bodyOf its f.item) f.pos = 114 ∨ atB (bodyOf its f.item) f.pos = 119
    · rw [if_pos e2, if_pos e2]
      have hN : numF its f = num (bodyOf its f.item) f.pos := by unfold numF numP; rw [hb, if_pos (by omega)]
      rw [hN]; rfl
    · rw [if_neg e2, if_neg e2]
theorem sits_stands {its : List Wd.It} (hf : Fine its) {f : Fr} (hs : Sits its f) (hth : f.there = true) (hi : f.item < its.length) : Stands (atB (bodyOf its f.item) f.pos) := by
  have hp := hs hth
  unfold Stands
  by_cases e : f.pos < (bodyOf its f.item).length
  · have hk := hp.kind (hf.bd _ hi) (hf.noUp _ hi) e
    have ha : atB (bodyOf its f.item) f.pos = Wd.at_ (bodyOf its f.item) f.pos := by simp [atB, e]
    rw [ha]
    unfold head4 sole at hk
    omega
  · have ha : atB (bodyOf its f.item) f.pos = 101 := by simp [atB, e]
    omega
end Go.Proofs.Ytecmfdkhcffpmab
