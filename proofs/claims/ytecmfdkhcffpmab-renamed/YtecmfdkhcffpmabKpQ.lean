/- Plain: the machine with other names for the locks; the source with other names. -/
import Derived.Test.YtecmfdkhcffpmabKpR
namespace Go.Proofs.Ytecmfdkhcffpmab
open Go.RowKit
set_option linter.unusedSimpArgs false
set_option linter.unusedVariables false
set_option linter.unusedSectionVars false
namespace Mc
open Wd
structure FrR (π : Nat → Nat) (f f' : Fr) : Prop where
  there : f'.there = f.there
  item : f'.item = f.item
  pos : f'.pos = f.pos
  held : HR π f.held f'.held
theorem FrR.no (π : Nat → Nat) : FrR π noFr noFr := ⟨rfl, rfl, rfl, HR.zero π⟩
structure CpR (π : Nat → Nat) (x x' : Cp) : Prop where
  t : FrR π x.t x'.t
  h : FrR π x.h x'.h
  off : x'.off = x.off
/-- Two machines that are one but for the locks' names. -/
structure MR (π : Nat → Nat) (S S' : Ma) : Prop where
  cp : ∀ c, CpR π (S.cp c) (S'.cp c)
  rd : S'.rd = S.rd
  pl : S'.pl = S.pl
theorem MR.begin_ (π : Nat → Nat) (its : List It) : MR π (begin_ its) (begin_ (rI π its)) := by
  refine ⟨fun c => ⟨FrR.no π, FrR.no π, rfl⟩, ?_, rfl⟩
  show (fun i => !isH (rI π its) i) = (fun i => !isH its i)
  funext i
  rw [rI_isH]
theorem MR.setCp {π : Nat → Nat} {S S' : Ma} (h : MR π S S') (c : Nat) {x x' : Cp} (hx : CpR π x x') : MR π (setCp S c x) (setCp S' c x') := by
  refine ⟨fun d => ?_, h.rd, h.pl⟩
  by_cases e : d = c
  · simp only [Mc.setCp, e, if_true]; exact hx
  · simp only [Mc.setCp, e, if_false]; exact h.cp d
theorem MR.setRd {π : Nat → Nat} {S S' : Ma} (h : MR π S S') (i : Nat) (b : Bool) : MR π (setRd S i b) (setRd S' i b) := by
  refine ⟨h.cp, ?_, h.pl⟩
  simp only [Mc.setRd, h.rd]
theorem MR.setPl {π : Nat → Nat} {S S' : Ma} (h : MR π S S') (i p : Nat) : MR π (setPl S i p) (setPl S' i p) := by
  refine ⟨h.cp, h.rd, ?_⟩
  simp only [Mc.setPl, h.pl]
theorem MR.works {π : Nat → Nat} {S S' : Ma} (h : MR π S S') (c : Nat) : FrR π (works S c) (works S' c) := by
  unfold Mc.works
  rw [(h.cp c).h.there]
  split
  · exact (h.cp c).h
  · exact (h.cp c).t
theorem cpHolds_ren {π : Nat → Nat} {x x' : Cp} (h : CpR π x x') {l : Nat} (hl : l < 6) : cpHolds x' (π l) = cpHolds x l := by
  unfold cpHolds holds
  rw [h.t.held.bit l hl, h.h.held.bit l hl]
theorem holderFrom_ren {π : Nat → Nat} {S S' : Ma} (h : MR π S S') {l : Nat} (hl : l < 6) : ∀ m k, holderFrom S' (π l) k m = holderFrom S l k m
  | 0, _ => rfl
  | m + 1, k => by rw [holderFrom, holderFrom, cpHolds_ren (h.cp k) hl, holderFrom_ren h hl m]
theorem holder_ren {π : Nat → Nat} {S S' : Ma} (h : MR π S S') {l : Nat} (hl : l < 6) (n : Nat) : holder S' n (π l) = holder S n l := holderFrom_ren h hl n 0
/-- A frame is at a place of its item. -/
def Wh (its : List It) (f : Fr) : Prop := f.there = true → f.item < its.length ∧ Pl (bodyOf its f.item) f.pos
theorem All3.wh {its : List It} (hf : Fine its) {S : Ma} (h : All3 its S) (d : Nat) : Wh its (works S d) := by
  intro hth
  by_cases hd : d < 3
  · have hi := (works_fr h.inv d hd).item hth
    exact ⟨hi, ((h.si.works h.inv d hd hth).ok (hf.gb hi)).2⟩
  · unfold Mc.works at hth
    rw [h.rest d (by omega)] at hth
    simp [noCp, noFr] at hth
section
variable {π ρ : Nat → Nat} (hp : Pm π ρ) {its : List It} (hf : Fine its) (hf' : Fine (rI π its))
include hp hf hf'
theorem at_ren {f f' : Fr} (hr : FrR π f f') (hw : Wh its f) (hth : f.there = true) : atB (bodyOf (rI π its) f'.item) f'.pos = atB (bodyOf its f.item) f.pos := by
  obtain ⟨h1, h2⟩ := hw hth
  rw [hr.item, hr.pos, rI_body, rb_atB hp (hf.gb h1) h2]
theorem stands_ren {f f' : Fr} (hr : FrR π f f') (hw : Wh its f) : stands (rI π its) f' = stands its f := by
  unfold stands
  rw [hr.there]
  split
  · rename_i h; exact at_ren hp hf hf' hr hw h
  · rfl
theorem wants_ren {f f' : Fr} (hr : FrR π f f') (hw : Wh its f) : wantsF (rI π its) f' = (wantsF its f).map π ∧ ∀ l, wantsF its f = some l → l < 6 := by
  unfold wantsF
  rw [stands_ren hp hf hf' hr hw]
  split
  · rename_i h
    have hth : f.there = true := by
      unfold stands at h
      split at h
      · assumption
      · cases h
    obtain ⟨h1, h2⟩ := hw hth
    have h : atB (bodyOf its f.item) f.pos = 43 := by unfold stands at h; rw [if_pos hth] at h; exact h
    have hn := num_lockB (hf.gb h1).pair (Or.inl h)
    refine ⟨?_, fun l e => ?_⟩
    · rw [hr.item, hr.pos, rI_body, num_lk hp (hf.gb h1).pair (Or.inl h)]; rfl
    · cases e; omega
  · exact ⟨rfl, fun l e => by cases e⟩
theorem nx_ren {S S' : Ma} (hA : All3 its S) (hM : MR π S S') (d : Nat) : nx (rI π its) S' d = nx its S d := by
  unfold nx
  obtain ⟨h1, h2⟩ := wants_ren hp hf hf' (hM.works d) (hA.wh hf d)
  rw [h1]
  cases e : wantsF its (works S d) with
  | none => rfl
  | some l => simp only [Option.map_some, Option.bind_some]; exact holder_ren hM (h2 l e) 3
theorem leadsTo_ren {S S' : Ma} (hA : All3 its S) (hM : MR π S S') (c : Nat) : ∀ (m : Nat) (o : Option Nat), leadsTo (rI π its) S' c m o = leadsTo its S c m o
  | 0, _ => by cases ‹Option Nat› <;> rfl
  | _ + 1, none => rfl
  | m + 1, some d => by rw [leadsTo, leadsTo, nx_ren hp hf hf' hA hM, leadsTo_ren hA hM c m]
theorem wait_ren {S S' : Ma} (hA : All3 its S) (hM : MR π S S') (c l : Nat) (hl : l < 6) : waitP (rI π its) S' c (π l) = waitP its S c l := by
  unfold waitP
  rw [holder_ren hM hl]
  cases holder S 3 l with
  | none => rfl
  | some d => simp only; rw [leadsTo_ren hp hf hf' hA hM]
theorem clashAt_ren {S S' : Ma} (hA : All3 its S) (hM : MR π S S') (c : Nat) (x own : Int) (d : Nat) : clashAt (rI π its) S' c x own d = clashAt its S c x own d := by
  unfold clashAt
  simp only
  have hr := hM.works d
  have hw := hA.wh hf d
  rw [stands_ren hp hf hf' hr hw]
  by_cases e : stands its (works S d) = 114 ∨ stands its (works S d) = 119
  · have hth : (works S d).there = true := by
      unfold stands at e
      split at e
      · assumption
      · rcases e with e | e <;> cases e
    obtain ⟨h1, h2⟩ := hw hth
    have e2 : atB (bodyOf its (works S d).item) (works S d).pos = 114 ∨ atB (bodyOf its (works S d).item) (works S d).pos = 119 := by
      unfold stands at e; rw [if_pos hth] at e; exact e
    rw [hr.item, hr.pos, rI_body, num_clB hp (hf.gb h1).pair e2]
  · have : (decide (stands its (works S d) = 114) || decide (stands its (works S d) = 119)) = false := by simp only [Bool.or_eq_false_iff, decide_eq_false_iff_not]; exact not_or.1 e
    rw [this]; simp
theorem clashFrom_ren {S S' : Ma} (hA : All3 its S) (hM : MR π S S') (c : Nat) (x own : Int) : ∀ m d, clashFrom (rI π its) S' c x own d m = clashFrom its S c x own d m
  | 0, _ => rfl
  | m + 1, d => by rw [clashFrom, clashFrom, clashAt_ren hp hf hf' hA hM, clashFrom_ren hA hM c x own m]
theorem hind_ren {S S' : Ma} (hA : All3 its S) (hM : MR π S S') (c : Nat) {f f' : Fr} (hr : FrR π f f') (hw : Wh its f) (hth : f.there = true) : hindP (rI π its) S' c f' = hindP its S c f := by
  obtain ⟨h1, h2⟩ := hw hth
  have ha := at_ren hp hf hf' hr hw hth
  unfold hindP clash
  rw [ha]
  by_cases e43 : atB (bodyOf its f.item) f.pos = 43
  · rw [if_pos e43, if_pos e43, hr.item, hr.pos, rI_body, num_lk hp (hf.gb h1).pair (Or.inl e43)]
    have hn := num_lockB (hf.gb h1).pair (Or.inl e43)
    exact wait_ren hp hf hf' hA hM c _ (by omega)
  rw [if_neg e43, if_neg e43]
  by_cases e : atB (bodyOf its f.item) f.pos = 114 ∨ atB (bodyOf its f.item) f.pos = 119
  · rw [if_pos e, if_pos e, hr.item, hr.pos, rI_body, num_clB hp (hf.gb h1).pair e, clashFrom_ren hp hf hf' hA hM]
  · rw [if_neg e, if_neg e]
end
theorem layP_ren {π : Nat → Nat} {S S' : Ma} (h : MR π S S') (c : Nat) {f f' : Fr} (hr : FrR π f f') (o : Bool) : MR π (layP S c f o) (layP S' c f' o) := by
  unfold layP
  rw [(h.cp c).h.there]
  refine h.setCp c ?_
  split
  · exact ⟨(h.cp c).t, hr, (h.cp c).off⟩
  · exact ⟨hr, (h.cp c).h, rfl⟩
theorem stepM_ren {π ρ : Nat → Nat} (hp : Pm π ρ) {its : List It} (hf : Fine its) (hf' : Fine (rI π its)) {S S' : Ma} (hA : All3 its S) (hM : MR π S S') (c : Nat) (comma : Bool) :
    (stepM (rI π its) S' c comma).1 = (stepM its S c comma).1 ∧ MR π (stepM its S c comma).2 (stepM (rI π its) S' c comma).2 := by
  have hr := hM.works c
  have hw := hA.wh hf c
  have hfo : frOff S' c = frOff S c := by unfold frOff; rw [(hM.cp c).h.there, (hM.cp c).off]
  unfold stepM
  simp only
  rw [hr.there]
  by_cases hth : (works S c).there = false
  · rw [if_pos hth, if_pos hth]; exact ⟨rfl, hM⟩
  rw [if_neg hth, if_neg hth]
  have hth : (works S c).there = true := by simpa using hth
  obtain ⟨h1, h2⟩ := hw hth
  rw [hind_ren hp hf hf' hA hM c hr hw hth]
  by_cases hh : hindP its S c (works S c) ≠ 0
  · rw [if_pos hh, if_pos hh]; exact ⟨rfl, hM⟩
  rw [if_neg hh, if_neg hh]
  obtain ⟨k, e1, e2⟩ := stepS_rb hp (hf.gb h1) (fine_g hf' h1) h2 hr.held (isH its (works S c).item) (frOff S c) comma
  rw [hr.item, hr.pos, rI_isH, rI_body, hfo, e1]
  simp only
  split
  · exact ⟨rfl, layP_ren ((hM.setRd _ _).setPl _ _) c (FrR.no π) _⟩
  split
  · exact ⟨rfl, layP_ren hM c (FrR.no π) _⟩
  · refine ⟨rfl, layP_ren hM c ?_ _⟩
    exact ⟨by first | rfl | exact hr.there, by first | rfl | exact hr.item, rfl, e2⟩
theorem comes_ren {π : Nat → Nat} (its : List It) {S S' : Ma} (hM : MR π S S') (c i : Nat) :
    (comes (rI π its) S' c i).1 = (comes its S c i).1 ∧ MR π (comes its S c i).2 (comes (rI π its) S' c i).2 := by
  unfold comes
  rw [rI_len, (hM.cp c).h.there, (hM.cp c).t.there, (hM.cp c).off, rI_isH, hM.rd]
  split
  · exact ⟨rfl, hM⟩
  split
  · split
    · exact ⟨rfl, hM⟩
    · exact ⟨rfl, hM.setCp c ⟨(hM.cp c).t, ⟨rfl, rfl, rfl, HR.zero π⟩, (hM.cp c).off⟩⟩
  split
  · exact ⟨rfl, hM⟩
  · rw [hM.pl]
    exact ⟨rfl, (hM.setRd i false).setCp c ⟨⟨rfl, rfl, rfl, HR.zero π⟩, (hM.cp c).h, (hM.cp c).off⟩⟩
theorem pos_iff {π ρ : Nat → Nat} (hp : Pm π ρ) {h h' : Nat} (hh : HR π h h') : 0 < h' ↔ 0 < h := by
  have := hh.zero_iff hp
  omega
theorem command_ren {π ρ : Nat → Nat} (hp : Pm π ρ) {its : List It} (hf : Fine its) (hf' : Fine (rI π its)) {S S' : Ma} (hA : All3 its S) (hA' : All3 (rI π its) S') (hM : MR π S S') (c : Nat) (hc : c < 3) (what : Int) :
    (command (rI π its) S' 3 c what).1 = (command its S 3 c what).1 ∧ MR π (command its S 3 c what).2 (command (rI π its) S' 3 c what).2 := by
  unfold command
  split
  · rw [← stepM_eq hf hA.inv hA.ats hA.rest c hc, ← stepM_eq hf' hA'.inv hA'.ats hA'.rest c hc]
    exact stepM_ren hp hf hf' hA hM c _
  split
  · exact comes_ren its hM c _
  rw [(hM.cp c).t.there, (hM.cp c).h.there, (hM.cp c).off]
  by_cases e : (S.cp c).t.there = false ∨ (S.cp c).h.there = true ∨ 0 < (S.cp c).t.held ∨ (S.cp c).off = true
  · rw [if_pos e, if_pos (by rw [pos_iff hp (hM.cp c).t.held]; exact e)]
    exact ⟨rfl, hM⟩
  · rw [if_neg e, if_neg (by rw [pos_iff hp (hM.cp c).t.held]; exact e)]
    refine ⟨rfl, ?_⟩
    unfold leaves
    rw [(hM.cp c).t.item, (hM.cp c).t.pos]
    exact ((hM.setRd _ _).setPl _ _).setCp c ⟨FrR.no π, (hM.cp c).h, (hM.cp c).off⟩
theorem trace_ren {π ρ : Nat → Nat} (hp : Pm π ρ) {its : List It} (hf : Fine its) (hf' : Fine (rI π its)) (n : Nat) (hn : n ≤ 3) : ∀ (s : List UInt8) (S S' : Ma), All3 its S → All3 (rI π its) S' → Rest n S → Rest n S' → MR π S S' → scriptB n s = true → traceB (rI π its) n S' s = traceB its n S s
  | [], _, _, _, _, _, _, _, _ => rfl
  | [_], _, _, _, _, _, _, _, _ => rfl
  | a :: o :: r, S, S', hA, hA', hr, hr', hM, hs => by
    rw [scriptB] at hs
    simp only [Bool.and_eq_true, decide_eq_true_eq] at hs
    obtain ⟨⟨⟨h1, h2⟩, h3⟩, h4⟩ := hs
    have hcn : (bt a - 48).toNat < n := by omega
    have e := command_three (its := its) hr hn _ hcn (bt o)
    have e' := command_three (its := rI π its) hr' hn _ hcn (bt o)
    obtain ⟨g1, g2⟩ := command_ren hp hf hf' hA hA' hM (bt a - 48).toNat (by omega) (bt o)
    rw [traceB, traceB, e, e', g1]
    congr 1
    split
    · rfl
    · exact trace_ren hp hf hf' n hn r _ _ (hA.command hf _ (by omega) _) (hA'.command hf' _ (by omega) _) (hr.command 3 _ hcn _) (hr'.command 3 _ hcn _) g2 h4
theorem trace_same {π ρ : Nat → Nat} (hp : Pm π ρ) {its : List It} (hf : Fine its) (hf' : Fine (rI π its)) (n : Nat) (hn : n ≤ 3) (s : List UInt8) (hs : scriptB n s = true) : traceB (rI π its) n (begin_ (rI π its)) s = traceB its n (begin_ its) s :=
  trace_ren hp hf hf' n hn s _ _ (All3.begin_ its) (All3.begin_ _) (Rest.begin_ its n) (Rest.begin_ _ n) (MR.begin_ π its) hs
/-- The reader goes the same way. -/
theorem stepP_rn {π ρ : Nat → Nat} (hp : Pm π ρ) (st : St) (x : Int) : stepP st (rnI π x) = stepP st x := by
  by_cases e : 97 ≤ x ∧ x ≤ 102
  · obtain ⟨_, e2, e3⟩ := rnI_lk hp e.1 e.2
    have key : ∀ y : Int, 97 ≤ y → y ≤ 102 → stepP st y = if st.want = 3 then some ⟨2, st.op, st.items⟩ else none := by
      intro y h1 h2
      have u : up y = false := by unfold up; simp; omega
      have k : lk y = true := by unfold lk; simp; omega
      have l : cl y = false := by unfold cl; simp; omega
      unfold stepP
      by_cases w0 : st.want = 0
      · rw [if_pos w0, if_neg (by rintro ⟨_, h⟩; rw [u] at h; simp at h; omega), if_neg (by omega)]
      rw [if_neg w0]
      by_cases w1 : st.want = 1
      · rw [if_pos w1, if_neg (by omega), if_neg (by omega)]
      rw [if_neg w1]
      by_cases w3 : st.want = 3
      · rw [if_pos w3, if_pos w3, if_pos k]
      rw [if_neg w3, if_neg w3]
      by_cases w4 : st.want = 4
      · rw [if_pos w4, l]; rfl
      rw [if_neg w4]
      unfold bodyP
      rw [if_neg (by omega), if_neg (by omega), if_neg (by omega), if_neg (by omega), if_neg (by omega), if_neg (by omega)]
      repeat rw [if_neg (by omega)]
      rw [u]; rfl
    rw [key _ e2 e3, key _ e.1 e.2]
  · rw [rnI_id (by omega)]
theorem runS_rb {π ρ : Nat → Nat} (hp : Pm π ρ) (b : List UInt8) (st : St) : runS st (rb π b) = runS st b := by
  induction b generalizing st with
  | nil => rfl
  | cons c r ih =>
    have e : rb π (c :: r) = rn π c :: rb π r := rfl
    rw [e, runS, runS, rn_bt hp, stepP_rn hp]
    cases stepP st (bt c) with
    | none => rfl
    | some s => exact ih s
theorem wv_rb {π ρ : Nat → Nat} (hp : Pm π ρ) {b : List UInt8} (h : Wv b) : Wv (rb π b) := by
  refine ⟨fun n => by rw [runS_rb hp]; exact h.run n, fun c hc => ?_⟩
  obtain ⟨d, hd, rfl⟩ := List.mem_map.1 hc
  obtain ⟨h1, h2, h3⟩ := h.ok d hd
  rw [rn_bt hp]
  refine ⟨?_, by rw [Ne, rnI_eq hp (by omega)]; exact h2, by rw [Ne, rnI_eq hp (by omega)]; exact h3⟩
  by_cases e : 97 ≤ bt d ∧ bt d ≤ 102
  · obtain ⟨_, e2, e3⟩ := rnI_lk hp e.1 e.2
    unfold up; simp; omega
  · rw [rnI_id (by omega)]; exact h1
/-- A source's raw items with other names. -/
def rR (π : Nat → Nat) (rs : List (UInt8 × List UInt8)) : List (UInt8 × List UInt8) := rs.map fun x => (x.1, rb π x.2)
theorem rn_id {π : Nat → Nat} {c : UInt8} (h : c.toNat < 97 ∨ 102 < c.toNat) : rn π c = c := by
  unfold rn
  rw [if_neg (by omega)]
theorem flat_rR (π : Nat → Nat) (rs : List (UInt8 × List UInt8)) (h : ∀ x ∈ rs, WvI x) : (flat rs).map (rn π) = flat (rR π rs) := by
  induction rs with
  | nil => rfl
  | cons x r ih =>
    have hx := (h x (by simp)).1
    have e1 : rn π x.1 = x.1 := rn_id (by rcases hx with e | e <;> rw [e] <;> decide)
    have e2 : rn π 123 = 123 := rn_id (by decide)
    have e3 : rn π 125 = 125 := rn_id (by decide)
    have := ih (fun y hy => h y (by simp [hy]))
    simp only [rR, flat, List.map_cons, List.map_append] at this ⊢
    rw [this, e1, e2, e3]
    rfl
theorem rR_wv {π ρ : Nat → Nat} (hp : Pm π ρ) {rs : List (UInt8 × List UInt8)} (h : ∀ x ∈ rs, WvI x) : ∀ x ∈ rR π rs, WvI x := by
  intro x hx
  obtain ⟨y, hy, rfl⟩ := List.mem_map.1 hx
  exact ⟨(h y hy).1, wv_rb hp (h y hy).2⟩
theorem rR_its (π : Nat → Nat) (rs : List (UInt8 × List UInt8)) : (rR π rs).map itOf = rI π (rs.map itOf) := by
  unfold rR rI
  rw [List.map_map, List.map_map]
  rfl
theorem readP_ren {π ρ : Nat → Nat} (hp : Pm π ρ) (rs : List (UInt8 × List UInt8)) (h : ∀ x ∈ rs, WvI x) (hn : rs.length ≤ 8) (h0 : 0 < rs.length) (hl : (flat rs).length ≤ 240) : readP ((flat rs).map (rn π)) = .ok (rI π (rs.map itOf)) := by
  rw [flat_rR π rs h, ← rR_its]
  refine readP_woven _ (rR_wv hp h) (by simp [rR]; exact hn) (by simp [rR]; omega) ?_
  rw [← flat_rR π rs h, List.length_map]; exact hl
theorem erase_perm {α : Type} : ∀ (l : List α) (i : Nat) (h : i < l.length), (l[i] :: l.eraseIdx i).Perm l
  | a :: r, 0, _ => List.Perm.refl _
  | a :: r, i + 1, h => by
    have := erase_perm r i (by simpa using h)
    simp only [List.getElem_cons_succ, List.eraseIdx_cons_succ]
    exact (List.Perm.swap _ _ _).trans (this.cons a)
/-- An order out of a number. -/
def ordFrom : Nat → Nat → List Nat → List Nat
  | 0, _, _ => []
  | n + 1, v, left => left.getD (v % left.length) 0 :: ordFrom n (v / left.length) (left.eraseIdx (v % left.length))
theorem ordFrom_perm : ∀ (n v : Nat) (left : List Nat), left.length = n → (ordFrom n v left).Perm left
  | 0, v, left, h => by
    have : left = [] := List.length_eq_zero_iff.1 h
    subst this; exact List.Perm.refl _
  | n + 1, v, left, h => by
    have hk : v % left.length < left.length := Nat.mod_lt _ (by omega)
    have e : left.getD (v % left.length) 0 = left[v % left.length] := by simp [List.getD, hk]
    have := ordFrom_perm n (v / left.length) (left.eraseIdx (v % left.length)) (by rw [List.length_eraseIdx_of_lt hk]; omega)
    rw [ordFrom, e]
    exact (this.cons _).trans (erase_perm left _ hk)
def ordP (v : Nat) : List Nat := ordFrom 6 v (List.range 6)
theorem ordP_perm (v : Nat) : (ordP v).Perm (List.range 6) := ordFrom_perm 6 v _ (by simp)
theorem ordP_len (v : Nat) : (ordP v).length = 6 := by rw [(ordP_perm v).length_eq]; rfl
def ordF (v : Nat) (l : Nat) : Nat := (ordP v).getD l 0
def ordG (v : Nat) (l : Nat) : Nat := (ordP v).idxOf l
theorem ordP_pm (v : Nat) : Pm (ordF v) (ordG v) := by
  have hl := ordP_len v
  have hm : ∀ x, x ∈ ordP v ↔ x < 6 := fun x => by rw [(ordP_perm v).mem_iff]; exact List.mem_range
  have hnd : (ordP v).Nodup := (ordP_perm v).nodup_iff.2 List.nodup_range
  have e : ∀ l (h : l < 6), ordF v l = (ordP v)[l]'(by omega) := fun l h => by unfold ordF; rw [List.getD_eq_getElem?_getD, List.getElem?_eq_getElem (by omega)]; rfl
  have hb : ∀ l, l < 6 → ordG v l < 6 := fun l h => by
    have := List.idxOf_lt_length_iff.2 ((hm l).2 h)
    rw [hl] at this; exact this
  have hba : ∀ l, l < 6 → ordF v (ordG v l) = l := fun l h => by
    rw [e _ (hb l h)]
    exact List.getElem_idxOf _
  have ha : ∀ l, l < 6 → ordF v l < 6 := fun l h => by rw [e l h]; exact (hm _).1 (List.getElem_mem _)
  refine ⟨ha, hb, fun l h => ?_, hba⟩
  have inj : ∀ x y, x < 6 → y < 6 → ordF v x = ordF v y → x = y := by
    intro x y hx hy h
    rw [e x hx, e y hy] at h
    rcases Nat.lt_trichotomy x y with c | c | c
    · exact absurd h (List.pairwise_iff_getElem.1 hnd x y (by omega) (by omega) c)
    · exact c
    · exact absurd h.symm (List.pairwise_iff_getElem.1 hnd y x (by omega) (by omega) c)
  exact inj _ _ (hb _ (ha l h)) h (hba _ (ha l h))
end Mc
end Go.Proofs.Ytecmfdkhcffpmab
