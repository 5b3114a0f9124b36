/- Plain: careful programs are let by. -/
import Derived.Test.YtecmfdkhcffpmaaKpC
namespace Go.Proofs.Ytecmfdkhcffpmaa
open Go.RowKit
set_option linter.unusedSimpArgs false
set_option linter.unusedVariables false
namespace Mc
open Wd
/-- A section. -/
def secTake (mask n : Nat) : List Tk := (List.range n).flatMap fun l => if mask.testBit l = true then [.take l] else []
def secCell (mask n : Nat) : List Tk := (List.range n).flatMap fun c => if mask.testBit c = true then [.rd c, .wr c] else []
def secLock (up : Bool) (k : Nat) : Nat := if up = true then 5 - k else k
def secGive (mask : Nat) (up : Bool) (n : Nat) : List Tk := (List.range n).flatMap fun k => if mask.testBit (secLock up k) = true then [.give (secLock up k)] else []
def secOff (mask first : Nat) (hd : Bool) (n : Nat) : Bool := (List.range n).any fun l => mask.testBit l && (decide (first ≤ l) && !hd)
def secCore (mask : Nat) (up : Bool) : List Tk := secTake mask 6 ++ secCell mask 4 ++ secGive mask up 6
def secT (mask first : Nat) (hd up : Bool) : List Tk := if secOff mask first hd 6 = true then .dis :: (secCore mask up ++ [.ena]) else secCore mask up
def secChk (mask first : Nat) (hd up : Bool) : Bool := match trun first hd (0, hd) (secT mask first hd up) with
  | none => false
  | some s => s.1 == 0 && s.2 == hd
theorem sec_chk : ∀ first, first < 7 → ∀ mask, mask < 64 → (secChk mask first false false && secChk mask first false true && secChk ((mask >>> first) <<< first) first true false && secChk ((mask >>> first) <<< first) first true true) = true := by decide +kernel
theorem chk_run {mask first : Nat} {hd up : Bool} (h : secChk mask first hd up = true) : trun first hd (0, hd) (secT mask first hd up) = some (0, hd) := by
  unfold secChk at h
  split at h
  · cases h
  · rename_i s e
    rw [e]
    obtain ⟨a, b⟩ := s
    simp only [Bool.and_eq_true, beq_iff_eq] at h
    rw [h.1, h.2]
/-- The locks of a mask that an item uses. -/
def maskOf (hd : Bool) (first m : Nat) : Nat := if hd = true then (m >>> first) <<< first else m
theorem sec_run {mask first : Nat} (hm : mask < 64) (hf : first < 7) (hd up : Bool) : trun first hd (0, hd) (secT (maskOf hd first mask) first hd up) = some (0, hd) := by
  have := sec_chk first hf mask hm
  simp only [Bool.and_eq_true] at this
  obtain ⟨⟨⟨h1, h2⟩, h3⟩, h4⟩ := this
  unfold maskOf
  cases hd <;> cases up
  · exact chk_run h1
  · exact chk_run h2
  · exact chk_run h3
  · exact chk_run h4
/-- What a raw number stands for. -/
def secV (hd : Bool) (first v : Nat) : List Tk := secT (maskOf hd first (v % 64)) first hd (decide (v / 64 % 2 = 1))
def chunk (hd : Bool) (first v : Nat) : List Sg :=
  if v / 128 = 0 then [.star (secV hd first v)]
  else if v / 128 = 1 then [.alt (secV hd first v)]
  else if v / 128 = 2 ∧ hd = false then (secV hd first v).map .tk ++ [.tk .slp]
  else (secV hd first v).map .tk
theorem grun_tk (first : Nat) (hd : Bool) (ts : List Tk) : ∀ s, grun first hd s (ts.map .tk) = trun first hd s ts := by
  induction ts with
  | nil => intro s; rfl
  | cons t r ih =>
    intro s
    simp only [List.map_cons, grun, trun, gstep]
    cases tstep first hd s t with
    | none => rfl
    | some s' => exact ih s'
theorem sgs_tk (ts : List Tk) : sgs (ts.map .tk) = tks ts := by
  unfold sgs tks
  rw [List.flatMap_map]
  rfl
theorem chunk_run {first : Nat} (hf : first < 7) (hd : Bool) (v : Nat) : grun first hd (0, hd) (chunk hd first v) = some (0, hd) := by
  have h := sec_run (show v % 64 < 64 from Nat.mod_lt _ (by decide)) hf hd (decide (v / 64 % 2 = 1))
  have h : trun first hd (0, hd) (secV hd first v) = some (0, hd) := h
  unfold chunk
  split
  · simp [grun, gstep, h]
  split
  · simp [grun, gstep, h]
  split
  · rename_i c
    rw [grun_app, grun_tk, h]
    simp only [grun, gstep, tstep]
    rw [if_pos ⟨c.2, trivial, c.2⟩]
  · rw [grun_tk, h]
/-- A careful body: what fits. -/
def carefulFrom (hd : Bool) (first most : Nat) : List Int → List Sg → List Sg
  | [], o => o
  | z :: r, o => if (sgs o).length + (sgs (chunk hd first (pickP z 1024).toNat)).length ≤ most then carefulFrom hd first most r (o ++ chunk hd first (pickP z 1024).toNat) else carefulFrom hd first most r o
def carefulP (hd : Bool) (first most : Nat) (st : List Int) : List Sg := carefulFrom hd first most st []
theorem carefulFrom_ok {first : Nat} (hf : first < 7) (hd : Bool) (most : Nat) (st : List Int) : ∀ o, grun first hd (0, hd) o = some (0, hd) → (sgs o).length ≤ most → grun first hd (0, hd) (carefulFrom hd first most st o) = some (0, hd) ∧ (sgs (carefulFrom hd first most st o)).length ≤ most := by
  induction st with
  | nil => intro o h1 h2; exact ⟨h1, h2⟩
  | cons z r ih =>
    intro o h1 h2
    rw [carefulFrom]
    split
    · rename_i c
      refine ih _ ?_ ?_
      · rw [grun_app, h1]; exact chunk_run hf hd _
      · rw [sgs_app, List.length_append]; exact c
    · exact ih o h1 h2
theorem carefulP_ok {first : Nat} (hf : first < 7) (hd : Bool) (most : Nat) (st : List Int) : grun first hd (0, hd) (carefulP hd first most st) = some (0, hd) ∧ (sgs (carefulP hd first most st)).length ≤ most :=
  carefulFrom_ok hf hd most st [] rfl (by simp [sgs])
/-- A careful item. -/
def CarI (first : Nat) (x : UInt8 × List UInt8) : Prop := (x.1 = 116 ∨ x.1 = 104) ∧ ∃ l, x.2 = sgs l ∧ grun first (bt x.1 == 104) (0, bt x.1 == 104) l = some (0, bt x.1 == 104)
theorem CarI.wv {first : Nat} {x : UInt8 × List UInt8} (h : CarI first x) : WvI x := by
  obtain ⟨h1, l, h2, h3⟩ := h
  exact ⟨h1, by rw [h2]; exact (sgs_bd h3).2⟩
/-- A careful source: the items that fit. -/
def carFrom (first most : Nat) : List Pt → List (UInt8 × List UInt8) → List (UInt8 × List UInt8)
  | [], rs => rs
  | p :: r, rs => if (flat rs).length + 3 ≤ most then carFrom first most r (rs ++ [(letterOf p.handler, sgs (carefulP p.handler first (most - (flat rs).length - 3) p.steps))]) else carFrom first most r rs
def carR (ps : List Pt) (first n most : Nat) : List (UInt8 × List UInt8) := orOne (carFrom first most (ps.take n) [])
theorem letter_h (h : Bool) : (bt (letterOf h) == 104) = h := by unfold letterOf; cases h <;> rfl
theorem carI_of {first : Nat} (hf : first < 7) (p : Pt) (most : Nat) : CarI first (letterOf p.handler, sgs (carefulP p.handler first most p.steps)) := by
  refine ⟨by unfold letterOf; cases p.handler <;> simp, carefulP p.handler first most p.steps, rfl, ?_⟩
  rw [letter_h]
  exact (carefulP_ok hf p.handler most p.steps).1
theorem flat_one (c : UInt8) (b : List UInt8) : (flat [(c, b)]).length = b.length + 3 := by simp [flat]
theorem carFrom_ok {first : Nat} (hf : first < 7) (most : Nat) (ps : List Pt) : ∀ rs, (∀ x ∈ rs, CarI first x) → (flat rs).length ≤ most → (∀ x ∈ carFrom first most ps rs, CarI first x) ∧ (flat (carFrom first most ps rs)).length ≤ most ∧ (carFrom first most ps rs).length ≤ rs.length + ps.length := by
  induction ps with
  | nil => intro rs h hl; exact ⟨h, hl, by simp [carFrom]⟩
  | cons p r ih =>
    intro rs h hl
    rw [carFrom]
    split
    · rename_i c
      have hb := (carefulP_ok hf p.handler (most - (flat rs).length - 3) p.steps).2
      obtain ⟨a1, a2, a3⟩ := ih (rs ++ [(letterOf p.handler, sgs (carefulP p.handler first (most - (flat rs).length - 3) p.steps))]) (fun x hx => by
        rcases List.mem_append.1 hx with hx | hx
        · exact h x hx
        · simp at hx; subst hx; exact carI_of hf p _) (by rw [flat_app, List.length_append, flat_one]; omega)
      exact ⟨a1, a2, by simp at a3 ⊢; omega⟩
    · obtain ⟨a1, a2, a3⟩ := ih rs h hl
      exact ⟨a1, a2, by simp; omega⟩
theorem carR_ok (ps : List Pt) {first : Nat} (hf : first < 7) (n most : Nat) (hn : 1 ≤ n) (hm : 3 ≤ most) : (∀ x ∈ carR ps first n most, CarI first x) ∧ (flat (carR ps first n most)).length ≤ most ∧ (carR ps first n most).length ≤ n ∧ 0 < (carR ps first n most).length := by
  obtain ⟨h1, h2, h3⟩ := carFrom_ok hf most (ps.take n) [] (fun x hx => by cases hx) (by simp [flat])
  have h4 : (ps.take n).length ≤ n := by simp; omega
  unfold carR orOne
  split
  · refine ⟨fun x hx => ?_, by simp [flat]; omega, by simp; omega, by simp⟩
    simp at hx; subst hx
    exact ⟨Or.inl rfl, [], rfl, rfl⟩
  · rename_i hne
    refine ⟨h1, h2, by simp at h3; omega, ?_⟩
    cases e : carFrom first most (ps.take n) [] with
    | nil => rw [e] at hne; simp [flat] at hne
    | cons => simp
theorem readP_car (ps : List Pt) {first : Nat} (hf : first < 7) (n most : Nat) (hn : 1 ≤ n) (hn8 : n ≤ 8) (hm : 3 ≤ most) (hm2 : most ≤ 240) : readP (flat (carR ps first n most)) = .ok ((carR ps first n most).map itOf) := by
  obtain ⟨h1, h2, h3, h4⟩ := carR_ok ps hf n most hn hm
  exact readP_woven _ (fun x hx => (h1 x hx).wv) (by omega) h4 (by omega)
/-- Items of which nothing is told. -/
def Calm (first : Nat) (its : List It) : Prop := ∀ i, i < its.length → ∀ s, Rch (isH its i) (bodyOf its i) s → Sf first (isH its i) (bodyOf its i) s
theorem calm_of {first : Nat} {rs : List (UInt8 × List UInt8)} (h : ∀ x ∈ rs, CarI first x) : Calm first (rs.map itOf) := by
  intro i hi s hs
  have hi : i < rs.length := by simpa using hi
  have e : (rs.map itOf)[i]? = some (itOf rs[i]) := by rw [List.getElem?_map, List.getElem?_eq_getElem hi]; rfl
  have eh : isH (rs.map itOf) i = (bt rs[i].1 == 104) := by unfold isH; rw [List.getD_eq_getElem?_getD, e]; rfl
  have eb : bodyOf (rs.map itOf) i = rs[i].2 := by unfold bodyOf; rw [List.getD_eq_getElem?_getD, e]; rfl
  obtain ⟨_, l, h2, h3⟩ := h rs[i] (List.getElem_mem hi)
  rw [eh, eb, h2] at hs ⊢
  exact Rch.careful h3 hs
theorem Calm.edge {first : Nat} {its : List It} (h : Calm first its) {l m : Nat} (he : Eg its l m) : l < m := by
  unfold Eg at he
  rcases he with ⟨i, hi, s, h1, h2, h3⟩ | ⟨⟨i, hi, a, s, h1, h2, h3⟩, ⟨j, hj, b, t, h4, h5⟩⟩
  · exact (h i hi s h1).up l m h2 h3
  · have := (h i hi s h1).op a h2 l h3
    have := (h j hj t h4).tk b m h5
    omega
theorem Calm.way {first : Nat} {its : List It} (h : Calm first its) {l m : Nat} (hw : Way (edgeS its) 6 l m) : l < m := by
  induction hw with
  | one e => exact h.edge (by unfold edgeS at e; simpa using e)
  | more e _ _ ih => exact Nat.lt_trans (h.edge (by unfold edgeS at e; simpa using e)) ih
theorem Calm.race {first : Nat} {its : List It} (h : Calm first its) (c : Nat) : ¬ Race its c := by
  rintro ⟨i, j, hi, hj, _, s, t, h1, h2, ⟨h3, _⟩, h4, h5⟩
  have a := (h i hi s h1).ce c h3
  have b := (h j hj t h2).ce c h4
  have : (s.2.1 &&& t.2.1).testBit c = true := by rw [Nat.testBit_and, a, b]; rfl
  rw [h5, Nat.zero_testBit] at this
  cases this
open Classical in
theorem Calm.none {first : Nat} {its : List It} (h : Calm first its) : analyseS its = [] := by
  unfold analyseS
  have e1 : soloS its = [] := by
    rw [List.eq_nil_iff_forall_not_mem]
    intro r hr
    unfold soloS solos soloK soloRow at hr
    simp only [List.mem_flatMap, List.mem_map, List.mem_range, List.mem_filter, decide_eq_true_eq] at hr
    obtain ⟨k, hk, i, hi, p, ⟨hpp, x, off, hx1, hx2⟩, _⟩ := hr
    have := (h i hi _ hx1).no
    unfold kd at hx2
    simp only at this hx2
    rw [this] at hx2
    simp [kindP] at hx2
    omega
  have e2 : ringL (fwK (edgeS its) 6) 6 = [] := by
    rw [List.eq_nil_iff_forall_not_mem]
    intro r hr
    unfold ringL at hr
    obtain ⟨l, hl, _⟩ := List.mem_map.1 hr
    simp only [List.mem_filter, List.mem_range] at hl
    have := h.way ((fwK_way _ 6 (Nat.le_refl _) l l hl.1 hl.1).1 hl.2)
    omega
  have e3 : raceS its = [] := by
    rw [List.eq_nil_iff_forall_not_mem]
    intro r hr
    unfold raceS raceL at hr
    obtain ⟨l, hl, _⟩ := List.mem_map.1 hr
    simp only [List.mem_filter, List.mem_range, decide_eq_true_eq] at hl
    exact h.race l hl.2
  rw [e1, e2, e3]; rfl
theorem Calm.up {first : Nat} {its : List It} (h : Calm first its) {r : Int × Int} (hr : r ∈ edgeL (edgeS its) 6) : r.1 < r.2 := by
  rw [edgeL_prs] at hr
  obtain ⟨x, hx, rfl⟩ := List.mem_map.1 hr
  simp only [List.mem_filter] at hx
  have := h.edge (l := x.1) (m := x.2) (by have := hx.2; unfold edgeS at this; simpa using this)
  simp only
  omega
theorem warned_nil {t : Int} (ht : bad t = true ∨ t = 0) (h : warnedP [] t = true) : t = 0 := by
  rcases ht with e | e
  · unfold bad at e
    simp only [Bool.or_eq_true, beq_iff_eq] at e
    rcases e with (((((e | e) | e) | e) | e) | e) | e <;> subst e <;> simp [warnedP, hasK] at h
  · exact e
theorem lastP_or (T : List UInt8) : bad (lastP T) = true ∨ lastP T = 0 := by
  unfold lastP
  split
  · exact Or.inr rfl
  · split
    · rename_i h; exact Or.inl h
    · exact Or.inr rfl
theorem Calm.last {first : Nat} {its : List It} (h : Calm first its) (hf : Fine its) (n : Nat) (hn : n ≤ 3) (s : List UInt8) (hs : scriptB n s = true) : lastP (traceB its n (begin_ its) s) = 0 := by
  have := sound_plain hf n hn s hs
  rw [h.none] at this
  exact warned_nil (lastP_or _) this
end Mc
end Go.Proofs.Ytecmfdkhcffpmaa
