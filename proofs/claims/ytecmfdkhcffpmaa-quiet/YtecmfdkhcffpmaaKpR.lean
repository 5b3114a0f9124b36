/- Plain: with other names for the locks all is the same by the other names. -/
import Derived.Test.YtecmfdkhcffpmaaB17
namespace Go.Proofs.Ytecmfdkhcffpmaa
open Go.RowKit
set_option linter.unusedSimpArgs false
set_option linter.unusedVariables false
namespace Mc
open Wd
/-- Six numbers in another order, and back. -/
structure Pm (π ρ : Nat → Nat) : Prop where
  a : ∀ l, l < 6 → π l < 6
  b : ∀ l, l < 6 → ρ l < 6
  ab : ∀ l, l < 6 → ρ (π l) = l
  ba : ∀ l, l < 6 → π (ρ l) = l
theorem Pm.sym {π ρ : Nat → Nat} (h : Pm π ρ) : Pm ρ π := ⟨h.b, h.a, h.ba, h.ab⟩
theorem Pm.inj {π ρ : Nat → Nat} (h : Pm π ρ) {l m : Nat} (hl : l < 6) (hm : m < 6) (e : π l = π m) : l = m := by rw [← h.ab l hl, e, h.ab m hm]
/-- A byte with another name. -/
def rn (π : Nat → Nat) (c : UInt8) : UInt8 := if 97 ≤ c.toNat ∧ c.toNat ≤ 102 then UInt8.ofNat (97 + π (c.toNat - 97)) else c
def rnI (π : Nat → Nat) (x : Int) : Int := if 97 ≤ x ∧ x ≤ 102 then 97 + (π (x - 97).toNat : Nat) else x
theorem rn_bt {π ρ : Nat → Nat} (h : Pm π ρ) (c : UInt8) : bt (rn π c) = rnI π (bt c) := by
  unfold rn rnI bt
  by_cases e : 97 ≤ c.toNat ∧ c.toNat ≤ 102
  · rw [if_pos e, if_pos (by omega)]
    have := h.a (c.toNat - 97) (by omega)
    rw [show ((c.toNat : Int) - 97).toNat = c.toNat - 97 by omega, UInt8.toNat_ofNat', Nat.mod_eq_of_lt (by omega)]
    omega
  · rw [if_neg e, if_neg (by omega)]
theorem rnI_eq {π ρ : Nat → Nat} (h : Pm π ρ) {x y : Int} (hy : y < 97 ∨ 102 < y) : rnI π x = y ↔ x = y := by
  unfold rnI
  by_cases e : 97 ≤ x ∧ x ≤ 102
  · rw [if_pos e]
    have := h.a (x - 97).toNat (by omega)
    omega
  · rw [if_neg e]
theorem rnI_id {π : Nat → Nat} {x : Int} (hy : x < 97 ∨ 102 < x) : rnI π x = x := by
  unfold rnI
  rw [if_neg (by omega)]
theorem rnI_lk {π ρ : Nat → Nat} (h : Pm π ρ) {x : Int} (hx : 97 ≤ x) (hx2 : x ≤ 102) : rnI π x = 97 + (π (x - 97).toNat : Nat) ∧ 97 ≤ rnI π x ∧ rnI π x ≤ 102 := by
  unfold rnI
  rw [if_pos ⟨hx, hx2⟩]
  have := h.a (x - 97).toNat (by omega)
  omega
theorem rn_back {π ρ : Nat → Nat} (h : Pm π ρ) (c : UInt8) : rn ρ (rn π c) = c := by
  have e : bt (rn ρ (rn π c)) = bt c := by
    rw [rn_bt h.sym, rn_bt h]
    by_cases e : 97 ≤ bt c ∧ bt c ≤ 102
    · obtain ⟨h1, h2, h3⟩ := rnI_lk h e.1 e.2
      rw [(rnI_lk h.sym h2 h3).1, h1]
      have := h.ab (bt c - 97).toNat (by omega)
      rw [show ((97 : Int) + (π (bt c - 97).toNat : Nat) - 97).toNat = π (bt c - 97).toNat by omega, this]
      omega
    · rw [rnI_id (π := π) (by omega), rnI_id (by omega)]
  unfold bt at e
  exact UInt8.toNat_inj.1 (by omega)
/-- A body with other names. -/
def rb (π : Nat → Nat) (b : List UInt8) : List UInt8 := b.map (rn π)
theorem rb_len (π : Nat → Nat) (b : List UInt8) : (rb π b).length = b.length := by simp [rb]
theorem rb_back {π ρ : Nat → Nat} (h : Pm π ρ) (b : List UInt8) : rb ρ (rb π b) = b := by
  unfold rb
  rw [List.map_map]
  have : rn ρ ∘ rn π = id := by funext c; exact rn_back h c
  rw [this, List.map_id]
theorem rb_at {π ρ : Nat → Nat} (h : Pm π ρ) (b : List UInt8) (p : Nat) : at_ (rb π b) p = rnI π (at_ b p) := by
  unfold at_ rb
  rw [List.getElem?_map]
  cases e : b[p]? with
  | none => simp; exact (rnI_id (by simp)).symm
  | some c => simp; exact rn_bt h c
/-- What stands at a place of the grammar is the same. -/
theorem rb_atB {π ρ : Nat → Nat} (h : Pm π ρ) {b : List UInt8} (hg : GB b) {p : Nat} (hp : Pl b p) : atB (rb π b) p = atB b p := by
  unfold atB
  rw [rb_len]
  split
  · rename_i hl
    rw [rb_at h]
    have hk := hp.kind hg.bd hg.noUp hl
    unfold head4 sole at hk
    exact rnI_id (by omega)
  · rfl
theorem rb_pl {π ρ : Nat → Nat} (h : Pm π ρ) {b : List UInt8} {p : Nat} (hp : Pl b p) : Pl (rb π b) p := by
  refine ⟨by rw [rb_len]; exact hp.le, ?_⟩
  rcases hp.tk with e | e
  · exact Or.inl e
  · right
    rw [rb_at h]
    unfold head4 at e ⊢
    rw [rnI_eq h (by omega), rnI_eq h (by omega), rnI_eq h (by omega), rnI_eq h (by omega)]
    exact e
theorem num_lk {π ρ : Nat → Nat} (h : Pm π ρ) {b : List UInt8} (hok : PairOK b) {p : Nat} (hc : atB b p = 43 ∨ atB b p = 45) : (num (rb π b) p).toNat = π (num b p).toNat := by
  have hp : p < b.length := atB_lt (by rcases hc with h | h <;> rw [h] <;> decide)
  simp only [atB, hp, if_true] at hc
  obtain ⟨h1, h2, h3⟩ := (hok p hp).1 hc
  obtain ⟨e1, e2, e3⟩ := rnI_lk h h2 h3
  rw [num, num, rb_len, rb_at h, if_pos h1, if_pos h1, if_pos h2, if_pos e2, e1]
  omega
theorem num_clB {π ρ : Nat → Nat} (h : Pm π ρ) {b : List UInt8} (hok : PairOK b) {p : Nat} (hc : atB b p = 114 ∨ atB b p = 119) : num (rb π b) p = num b p := by
  have hp : p < b.length := atB_lt (by rcases hc with h | h <;> rw [h] <;> decide)
  simp only [atB, hp, if_true] at hc
  obtain ⟨h1, h2, h3⟩ := (hok p hp).2 hc
  rw [num, num, rb_len, rb_at h, rnI_id (by omega)]
theorem ldRun_rb {π ρ : Nat → Nat} (h : Pm π ρ) (b : List UInt8) (i : Nat) (z : Ld) : ldRun (rb π b) i z = ldRun b i z := by
  induction b generalizing i z with
  | nil => rfl
  | cons c r ih =>
    have e : rb π (c :: r) = rn π c :: rb π r := rfl
    rw [e]
    simp only [ldRun]
    rw [rn_bt h, ih]
    by_cases e : 97 ≤ bt c ∧ bt c ≤ 102
    · obtain ⟨_, e2, e3⟩ := rnI_lk h e.1 e.2
      rw [ldStep_plain _ _ (by omega), ldStep_plain _ _ (by omega)]
    · rw [rnI_id (by omega)]
theorem leads_rb {π ρ : Nat → Nat} (h : Pm π ρ) (b : List UInt8) : leads (rb π b) = leads b := by
  unfold leads
  rw [ldRun_rb h]
/-- What is held, by the other names. -/
structure HR (π : Nat → Nat) (h h' : Nat) : Prop where
  lo : h < 64
  lo' : h' < 64
  bit : ∀ l, l < 6 → h'.testBit (π l) = h.testBit l
theorem HR.zero (π : Nat → Nat) : HR π 0 0 := ⟨by decide, by decide, fun l _ => by simp⟩
theorem zero_of {h : Nat} (hl : h < 64) (hb : ∀ l, l < 6 → h.testBit l = false) : h = 0 := by
  apply Nat.eq_of_testBit_eq
  intro i
  rw [Nat.zero_testBit]
  cases e : h.testBit i
  · rfl
  · rw [hb i (bit_six hl e)] at e; exact e.symm
theorem HR.zero_iff {π ρ : Nat → Nat} (hp : Pm π ρ) {h h' : Nat} (hh : HR π h h') : h' = 0 ↔ h = 0 := by
  constructor
  · intro e
    refine zero_of hh.lo fun l hl => ?_
    rw [← hh.bit l hl, e, Nat.zero_testBit]
  · intro e
    refine zero_of hh.lo' fun l hl => ?_
    have := hh.bit (ρ l) (hp.b l hl)
    rw [hp.ba l hl] at this
    rw [this, e, Nat.zero_testBit]
theorem HR.beq {π ρ : Nat → Nat} (hp : Pm π ρ) {h h' : Nat} (hh : HR π h h') : (h' == 0) = (h == 0) := by
  rw [Bool.eq_iff_iff]; simp only [beq_iff_eq]; exact hh.zero_iff hp
theorem HR.back {π ρ : Nat → Nat} (hp : Pm π ρ) {h h' : Nat} (hh : HR π h h') : HR ρ h' h := by
  refine ⟨hh.lo', hh.lo, fun l hl => ?_⟩
  have := hh.bit (ρ l) (hp.b l hl)
  rw [hp.ba l hl] at this
  exact this.symm
theorem bitsPut : ∀ h, h < 64 → ∀ l, l < 6 → h.testBit l = false → ∀ i, i < 6 → (h + 2 ^ l).testBit i = (if l = i then true else h.testBit i) := by decide
theorem bitsCut : ∀ h, h < 64 → ∀ l, l < 6 → h.testBit l = true → ∀ i, i < 6 → (h - 2 ^ l).testBit i = (if l = i then false else h.testBit i) := by decide
theorem HR.add {π ρ : Nat → Nat} (hp : Pm π ρ) {h h' : Nat} (hh : HR π h h') {l : Nat} (hl : l < 6) (hn : h.testBit l = false) : HR π (h + 2 ^ l) (h' + 2 ^ π l) := by
  have hn' : h'.testBit (π l) = false := by rw [hh.bit l hl]; exact hn
  refine ⟨bits_add _ hh.lo _ hl hn, bits_add _ hh.lo' _ (hp.a l hl) hn', fun m hm => ?_⟩
  rw [bitsPut _ hh.lo _ hl hn _ hm, bitsPut _ hh.lo' _ (hp.a l hl) hn' _ (hp.a m hm), hh.bit m hm]
  by_cases e : l = m
  · rw [if_pos e, if_pos (by rw [e])]
  · rw [if_neg e, if_neg (fun x => e (hp.inj hl hm x))]
theorem HR.sub {π ρ : Nat → Nat} (hp : Pm π ρ) {h h' : Nat} (hh : HR π h h') {l : Nat} (hl : l < 6) (hn : h.testBit l = true) : HR π (h - 2 ^ l) (h' - 2 ^ π l) := by
  have hn' : h'.testBit (π l) = true := by rw [hh.bit l hl]; exact hn
  refine ⟨Nat.lt_of_le_of_lt (Nat.sub_le _ _) hh.lo, Nat.lt_of_le_of_lt (Nat.sub_le _ _) hh.lo', fun m hm => ?_⟩
  rw [bitsCut _ hh.lo _ hl hn _ hm, bitsCut _ hh.lo' _ (hp.a l hl) hn' _ (hp.a m hm), hh.bit m hm]
  by_cases e : l = m
  · rw [if_pos e, if_pos (by rw [e])]
  · rw [if_neg e, if_neg (fun x => e (hp.inj hl hm x))]
theorem hasB_rb {π ρ : Nat → Nat} (hp : Pm π ρ) {b : List UInt8} (hg : GB b) (hg' : GB (rb π b)) {p : Nat} (hpl : Pl b p) {h h' : Nat} (hh : HR π h h') (hc : atB b p = 43 ∨ atB b p = 45) : hasB h' (numP (rb π b) p) = hasB h (numP b p) := by
  rw [hasB_num hg.pair hc, hasB_num hg'.pair (by rw [rb_atB hp hg hpl]; exact hc), num_lk hp hg.pair hc]
  have := num_lockB hg.pair hc
  exact hh.bit _ (by omega)
theorem fault_rb {π ρ : Nat → Nat} (hp : Pm π ρ) {b : List UInt8} (hg : GB b) (hg' : GB (rb π b)) {p : Nat} (hpl : Pl b p) {h h' : Nat} (hh : HR π h h') (hd off : Bool) : faultP hd (rb π b) p h' off = faultP hd b p h off := by
  unfold faultP
  rw [rb_atB hp hg hpl, hh.beq hp]
  by_cases e43 : atB b p = 43
  · rw [if_pos e43, if_pos e43, hasB_rb hp hg hg' hpl hh (Or.inl e43)]
  rw [if_neg e43, if_neg e43]
  by_cases e45 : atB b p = 45
  · rw [if_pos e45, if_pos e45, hasB_rb hp hg hg' hpl hh (Or.inr e45)]
  rw [if_neg e45, if_neg e45]
theorem next_rb {π ρ : Nat → Nat} (hp : Pm π ρ) {b : List UInt8} (hg : GB b) (hg' : GB (rb π b)) {p : Nat} (hpl : Pl b p) {h h' : Nat} (hh : HR π h h') {hd off : Bool} (hf : faultP hd b p h off = 0) (comma : Bool) :
    ∃ k', nextP (rb π b) p h' off comma = ((nextP b p h off comma).1, k', (nextP b p h off comma).2.2) ∧ HR π (nextP b p h off comma).2.1 k' := by
  unfold nextP
  rw [rb_atB hp hg hpl, leads_rb hp]
  by_cases e43 : atB b p = 43
  · have hn := num_lockB hg.pair (Or.inl e43)
    unfold faultP at hf
    rw [if_pos e43, hasB_num hg.pair (Or.inl e43)] at hf
    have hq : h.testBit (num b p).toNat = false := by
      cases hq : holds h (num b p).toNat
      · exact hq
      · rw [hq] at hf; simp at hf
    rw [if_pos e43, if_pos e43, num_lk hp hg.pair (Or.inl e43)]
    exact ⟨_, rfl, hh.add hp (by omega) hq⟩
  rw [if_neg e43, if_neg e43]
  by_cases e45 : atB b p = 45
  · have hn := num_lockB hg.pair (Or.inr e45)
    unfold faultP at hf
    rw [if_neg e43, if_pos e45, hasB_num hg.pair (Or.inr e45)] at hf
    have hq : h.testBit (num b p).toNat = true := by
      cases hq : holds h (num b p).toNat
      · rw [hq] at hf; simp at hf
      · exact hq
    rw [if_pos e45, if_pos e45, num_lk hp hg.pair (Or.inr e45)]
    exact ⟨_, rfl, hh.sub hp (by omega) hq⟩
  rw [if_neg e45, if_neg e45]
  refine ⟨h', ?_, ?_⟩
  · repeat' split
    all_goals rfl
  · repeat' split
    all_goals exact hh
/-- A step by itself. -/
theorem stepS_rb {π ρ : Nat → Nat} (hp : Pm π ρ) {b : List UInt8} (hg : GB b) (hg' : GB (rb π b)) {p : Nat} (hpl : Pl b p) {h h' : Nat} (hh : HR π h h') (hd off comma : Bool) :
    ∃ k', stepS hd (rb π b) p h' off comma = (((stepS hd b p h off comma).1.1, k', (stepS hd b p h off comma).1.2.2), (stepS hd b p h off comma).2) ∧ HR π (stepS hd b p h off comma).1.2.1 k' := by
  unfold stepS
  rw [fault_rb hp hg hg' hpl hh]
  by_cases hf : faultP hd b p h off = 0
  · rw [if_pos hf, if_pos hf]
    obtain ⟨k, h1, h2⟩ := next_rb hp hg hg' hpl hh hf comma
    exact ⟨k, by rw [h1, rb_atB hp hg hpl], h2⟩
  · rw [if_neg hf, if_neg hf]
    exact ⟨h', rfl, hh⟩
theorem rchR {π ρ : Nat → Nat} (hp : Pm π ρ) {b : List UInt8} (hg : GB b) (hg' : GB (rb π b)) {hd : Bool} {s : St3} (h : Rch hd b s) : ∃ k', HR π s.2.1 k' ∧ Rch hd (Mc.rb π b) (s.1, k', s.2.2) := by
  induction h with
  | begin => exact ⟨0, HR.zero π, Rch.begin⟩
  | @step s hs c ih =>
    obtain ⟨k, h1, h2⟩ := ih
    obtain ⟨k2, h3, h4⟩ := stepS_rb hp hg hg' (hs.ok hg).2 h1 hd s.2.2 c
    refine ⟨k2, h4, ?_⟩
    have := h2.step c
    unfold stp at this ⊢
    simp only at this
    rw [h3] at this
    exact this
theorem badR {π ρ : Nat → Nat} (hp : Pm π ρ) {b : List UInt8} (hg : GB b) (hg' : GB (rb π b)) {hd : Bool} {k : Int} {p : Nat} (h : BadAt hd b k p) : BadAt hd (Mc.rb π b) k p := by
  obtain ⟨x, off, h1, h2⟩ := h
  obtain ⟨k', h3, h4⟩ := rchR hp hg hg' h1
  refine ⟨k', off, h4, ?_⟩
  rw [← h2]
  unfold kd
  rw [fault_rb hp hg hg' (h1.ok hg).2 h3]
theorem tk_bit {b : List UInt8} (hok : PairOK b) {p h m : Nat} (ht : (tkP b p h).testBit m = true) : atB b p = 43 ∧ h.testBit (num b p).toNat = false ∧ m = (num b p).toNat := by
  unfold tkP at ht
  split at ht
  · rename_i e
    have hn := num_lockB hok (Or.inl e.1)
    have en : numP b p = num b p := by unfold numP; rw [if_pos (by omega)]
    have e2 := e.2
    rw [hasB_num hok (Or.inl e.1)] at e2
    rw [en, Nat.testBit_two_pow] at ht
    exact ⟨e.1, e2, (by simpa using ht : (num b p).toNat = m).symm⟩
  · simp at ht
theorem tk_of {b : List UInt8} (hok : PairOK b) {p h : Nat} (e : atB b p = 43) (hn : h.testBit (num b p).toNat = false) : (tkP b p h).testBit (num b p).toNat = true := by
  unfold tkP
  have en : numP b p = num b p := by unfold numP; rw [if_pos (by omega)]
  rw [if_pos ⟨e, by rw [hasB_num hok (Or.inl e)]; exact hn⟩, en, Nat.testBit_two_pow]
  simp
theorem tk_rb {π ρ : Nat → Nat} (hp : Pm π ρ) {b : List UInt8} (hg : GB b) (hg' : GB (rb π b)) {p : Nat} (hpl : Pl b p) {h h' : Nat} (hh : HR π h h') {m : Nat} (ht : (tkP b p h).testBit m = true) : m < 6 ∧ (tkP (Mc.rb π b) p h').testBit (π m) = true := by
  obtain ⟨h1, h2, rfl⟩ := tk_bit hg.pair ht
  have hn := num_lockB hg.pair (Or.inl h1)
  refine ⟨by omega, ?_⟩
  rw [← num_lk hp hg.pair (Or.inl h1)]
  refine tk_of hg'.pair (by rw [rb_atB hp hg hpl]; exact h1) ?_
  rw [num_lk hp hg.pair (Or.inl h1), hh.bit _ (by omega)]
  exact h2
theorem edgeIR {π ρ : Nat → Nat} (hp : Pm π ρ) {b : List UInt8} (hg : GB b) (hg' : GB (rb π b)) {hd : Bool} {l m : Nat} (h : EdgeI hd b l m) : EdgeI hd (Mc.rb π b) (π l) (π m) := by
  obtain ⟨s, h1, h2, h3⟩ := h
  obtain ⟨k', h4, h5⟩ := rchR hp hg hg' h1
  exact ⟨_, h5, by rw [← h2]; exact h4.bit l (bit_six h4.lo h2), (tk_rb hp hg hg' (h1.ok hg).2 h4 h3).2⟩
theorem openIR {π ρ : Nat → Nat} (hp : Pm π ρ) {b : List UInt8} (hg : GB b) (hg' : GB (rb π b)) {hd : Bool} {l : Nat} (h : OpenI hd b l) : OpenI hd (Mc.rb π b) (π l) := by
  obtain ⟨h0, s, h1, h2, h3⟩ := h
  obtain ⟨k', h4, h5⟩ := rchR hp hg hg' h1
  exact ⟨h0, _, h5, h2, by rw [← h3]; exact h4.bit l (bit_six h4.lo h3)⟩
theorem takenIR {π ρ : Nat → Nat} (hp : Pm π ρ) {b : List UInt8} (hg : GB b) (hg' : GB (rb π b)) {hd : Bool} {m : Nat} (h : TakenI hd b m) : TakenI hd (Mc.rb π b) (π m) := by
  obtain ⟨h0, s, h1, h3⟩ := h
  obtain ⟨k', h4, h5⟩ := rchR hp hg hg' h1
  exact ⟨h0, _, h5, (tk_rb hp hg hg' (h1.ok hg).2 h4 h3).2⟩
theorem atCR {π ρ : Nat → Nat} (hp : Pm π ρ) {b : List UInt8} (hg : GB b) {c p : Nat} (hpl : Pl b p) (h : AtC b c p) : AtC (Mc.rb π b) c p := by
  obtain ⟨h1, h2⟩ := h
  refine ⟨by rw [rb_atB hp hg hpl]; exact h1, ?_⟩
  rw [← h2]
  unfold numP
  rw [rb_atB hp hg hpl, if_pos (by omega), if_pos (by omega), num_clB hp hg.pair h1]
theorem meetR {π ρ : Nat → Nat} (hp : Pm π ρ) {b1 b2 : List UInt8} (g1 : GB b1) (g2 : GB b2) (g1' : GB (rb π b1)) (g2' : GB (rb π b2)) {h1 h2 : Bool} {c : Nat} (h : Meet h1 b1 h2 b2 c) : Meet h1 (Mc.rb π b1) h2 (Mc.rb π b2) c := by
  obtain ⟨s, t, a1, a2, ⟨a3, a3'⟩, a4, a5⟩ := h
  obtain ⟨k1, e1, e2⟩ := rchR hp g1 g1' a1
  obtain ⟨k2, e3, e4⟩ := rchR hp g2 g2' a2
  refine ⟨_, _, e2, e4, ⟨atCR hp g1 (a1.ok g1).2 a3, by rw [show ((s.1, k1, s.2.2) : St3).1 = s.1 from rfl, rb_atB hp g1 (a1.ok g1).2]; exact a3'⟩, atCR hp g2 (a2.ok g2).2 a4, ?_⟩
  refine and_zero fun l x y => ?_
  have hl := bit_six e1.lo' x
  have f1 := (e1.back hp).bit l hl
  have f2 := (e3.back hp).bit l hl
  have x : k1.testBit l = true := x
  have y : k2.testBit l = true := y
  have : (s.2.1 &&& t.2.1).testBit (ρ l) = true := by rw [Nat.testBit_and, f1, f2, x, y]; rfl
  rw [a5, Nat.zero_testBit] at this
  cases this
/-- A source's items with other names. -/
def ri (π : Nat → Nat) (x : It) : It := ⟨x.handler, rb π x.body⟩
def rI (π : Nat → Nat) (its : List It) : List It := its.map (ri π)
theorem rI_len (π : Nat → Nat) (its : List It) : (rI π its).length = its.length := by simp [rI]
theorem rI_back {π ρ : Nat → Nat} (hp : Pm π ρ) (its : List It) : rI ρ (rI π its) = its := by
  unfold rI
  rw [List.map_map]
  have : ri ρ ∘ ri π = id := by funext x; simp [ri, rb_back hp]
  rw [this, List.map_id]
theorem rI_body (π : Nat → Nat) (its : List It) (i : Nat) : bodyOf (rI π its) i = rb π (bodyOf its i) := by
  unfold bodyOf rI
  rw [List.getD_eq_getElem?_getD, List.getElem?_map, List.getD_eq_getElem?_getD]
  cases its[i]? <;> rfl
theorem rI_isH (π : Nat → Nat) (its : List It) (i : Nat) : isH (rI π its) i = isH its i := by
  unfold isH rI
  rw [List.getD_eq_getElem?_getD, List.getElem?_map, List.getD_eq_getElem?_getD]
  cases its[i]? <;> rfl
theorem fine_g {π : Nat → Nat} {its : List It} (h : Fine (rI π its)) {i : Nat} (hi : i < its.length) : GB (rb π (bodyOf its i)) := by
  rw [← rI_body]; exact h.gb (by rw [rI_len]; exact hi)
theorem egR {π ρ : Nat → Nat} (hp : Pm π ρ) {its : List It} (hf : Fine its) (hf' : Fine (rI π its)) {l m : Nat} (h : Eg its l m) : Eg (rI π its) (π l) (π m) := by
  unfold Eg at h ⊢
  rcases h with ⟨i, hi, h⟩ | ⟨⟨i, hi, h⟩, ⟨j, hj, h2⟩⟩
  · exact Or.inl ⟨i, by rw [rI_len]; exact hi, by rw [rI_body, rI_isH]; exact edgeIR hp (hf.gb hi) (fine_g hf' hi) h⟩
  · exact Or.inr ⟨⟨i, by rw [rI_len]; exact hi, by rw [rI_body, rI_isH]; exact openIR hp (hf.gb hi) (fine_g hf' hi) h⟩, ⟨j, by rw [rI_len]; exact hj, by rw [rI_body, rI_isH]; exact takenIR hp (hf.gb hj) (fine_g hf' hj) h2⟩⟩
theorem raceR {π ρ : Nat → Nat} (hp : Pm π ρ) {its : List It} (hf : Fine its) (hf' : Fine (rI π its)) {c : Nat} (h : Race its c) : Race (rI π its) c := by
  obtain ⟨i, j, hi, hj, h1, h2⟩ := h
  refine ⟨i, j, by rw [rI_len]; exact hi, by rw [rI_len]; exact hj, by rw [rI_isH]; exact h1, ?_⟩
  rw [rI_body, rI_body, rI_isH, rI_isH]
  exact meetR hp (hf.gb hi) (hf.gb hj) (fine_g hf' hi) (fine_g hf' hj) h2
theorem eg_six {its : List It} (hf : Fine its) {l m : Nat} (h : Eg its l m) : l < 6 ∧ m < 6 := by
  unfold Eg at h
  rcases h with ⟨i, hi, s, h1, h2, h3⟩ | ⟨⟨i, hi, _, s, h1, _, h2⟩, ⟨j, hj, _, t, h3, h4⟩⟩
  · refine ⟨bit_six (h1.ok (hf.gb hi)).1 h2, ?_⟩
    obtain ⟨e1, e2, rfl⟩ := tk_bit (hf.gb hi).pair h3
    have := num_lockB (hf.gb hi).pair (Or.inl e1)
    omega
  · refine ⟨bit_six (h1.ok (hf.gb hi)).1 h2, ?_⟩
    obtain ⟨e1, e2, rfl⟩ := tk_bit (hf.gb hj).pair h4
    have := num_lockB (hf.gb hj).pair (Or.inl e1)
    omega
theorem eg_iff {π ρ : Nat → Nat} (hp : Pm π ρ) {its : List It} (hf : Fine its) (hf' : Fine (rI π its)) {l m : Nat} (hl : l < 6) (hm : m < 6) : Eg (rI π its) (π l) (π m) ↔ Eg its l m := by
  constructor
  · intro h
    have := egR hp.sym hf' (by rw [rI_back hp]; exact hf) h
    rw [rI_back hp, hp.ab l hl, hp.ab m hm] at this
    exact this
  · exact fun h => egR hp hf hf' h
theorem race_iff {π ρ : Nat → Nat} (hp : Pm π ρ) {its : List It} (hf : Fine its) (hf' : Fine (rI π its)) (c : Nat) : Race (rI π its) c ↔ Race its c := by
  constructor
  · intro h
    have := raceR hp.sym hf' (by rw [rI_back hp]; exact hf) h
    rw [rI_back hp] at this
    exact this
  · exact fun h => raceR hp hf hf' h
theorem bad_iff {π ρ : Nat → Nat} (hp : Pm π ρ) {its : List It} (hf : Fine its) (hf' : Fine (rI π its)) {i : Nat} (hi : i < its.length) (k : Int) (p : Nat) : BadAt (isH (rI π its) i) (bodyOf (rI π its) i) k p ↔ BadAt (isH its i) (bodyOf its i) k p := by
  rw [rI_body, rI_isH]
  constructor
  · intro h
    have := badR hp.sym (fine_g hf' hi) (by rw [rb_back hp]; exact hf.gb hi) h
    rw [rb_back hp] at this
    exact this
  · exact fun h => badR hp (hf.gb hi) (fine_g hf' hi) h
open Classical in
theorem edge_eq {π ρ : Nat → Nat} (hp : Pm π ρ) {its : List It} (hf : Fine its) (hf' : Fine (rI π its)) {l m : Nat} (hl : l < 6) (hm : m < 6) : edgeS (rI π its) (π l) (π m) = edgeS its l m := by
  unfold edgeS
  rw [Bool.eq_iff_iff]; simp only [decide_eq_true_eq]
  exact eg_iff hp hf hf' hl hm
theorem soloRow_cg (P Q : Nat → Bool) (k i n : Nat) (h : ∀ p, p < n → P p = Q p) : soloRow P k i n = soloRow Q k i n := by
  unfold soloRow
  rw [List.filter_congr (fun p hp => h p (List.mem_range.1 hp))]
theorem soloK_cg (P Q : Nat → Nat → Nat → Bool) (N : Nat → Nat) (k m : Nat) (h : ∀ i, i < m → ∀ p, p < N i → P k i p = Q k i p) : soloK P N k m = soloK Q N k m := by
  induction m with
  | zero => rfl
  | succ m ih => rw [soloK_succ, soloK_succ, ih (fun i hi => h i (by omega)), soloRow_cg _ _ _ _ _ (h m (by omega))]
theorem solos_cg (P Q : Nat → Nat → Nat → Bool) (N : Nat → Nat) (m n : Nat) (h : ∀ k, k < n → ∀ i, i < m → ∀ p, p < N i → P (k + 1) i p = Q (k + 1) i p) : solos P N m n = solos Q N m n := by
  induction n with
  | zero => rfl
  | succ n ih => rw [solos_succ, solos_succ, ih (fun k hk => h k (by omega)), soloK_cg _ _ _ _ _ (h n (by omega))]
open Classical in
theorem solo_eq {π ρ : Nat → Nat} (hp : Pm π ρ) {its : List It} (hf : Fine its) (hf' : Fine (rI π its)) : soloS (rI π its) = soloS its := by
  unfold soloS
  rw [rI_len, show (fun i => (bodyOf (rI π its) i).length + 1) = (fun i => (bodyOf its i).length + 1) from by funext i; rw [rI_body, rb_len]]
  refine solos_cg _ _ _ _ _ fun k hk i hi p hpp => ?_
  rw [Bool.eq_iff_iff]; simp only [decide_eq_true_eq]
  exact bad_iff hp hf hf' hi _ p
open Classical in
theorem races_eq {π ρ : Nat → Nat} (hp : Pm π ρ) {its : List It} (hf : Fine its) (hf' : Fine (rI π its)) : raceS (rI π its) = raceS its := by
  unfold raceS
  congr 1
  funext c
  rw [Bool.eq_iff_iff]; simp only [decide_eq_true_eq]
  exact race_iff hp hf hf' c
theorem wayR {π ρ : Nat → Nat} (hp : Pm π ρ) {T T' : Tb} (hT : ∀ l m, T l m = true → l < 6 ∧ m < 6 ∧ T' (π l) (π m) = true) {l m : Nat} (h : Way T 6 l m) : Way T' 6 (π l) (π m) := by
  induction h with
  | one h => exact .one (hT _ _ h).2.2
  | more h hx _ ih => exact .more (hT _ _ h).2.2 (hp.a _ hx) ih
theorem edge_six {its : List It} (hf : Fine its) {l m : Nat} (h : edgeS its l m = true) : l < 6 ∧ m < 6 := by
  unfold edgeS at h
  exact eg_six hf (by simpa using h)
theorem way_iff {π ρ : Nat → Nat} (hp : Pm π ρ) {its : List It} (hf : Fine its) (hf' : Fine (rI π its)) {l m : Nat} (hl : l < 6) (hm : m < 6) : Way (edgeS (rI π its)) 6 (π l) (π m) ↔ Way (edgeS its) 6 l m := by
  constructor
  · intro h
    have := wayR hp.sym (T' := edgeS its) (fun x y e => by
      obtain ⟨hx, hy⟩ := edge_six hf' e
      refine ⟨hx, hy, ?_⟩
      rw [← hp.ba x hx, ← hp.ba y hy, edge_eq hp hf hf' (hp.b x hx) (hp.b y hy)] at e
      exact e) h
    rw [hp.ab l hl, hp.ab m hm] at this
    exact this
  · intro h
    exact wayR hp (fun x y e => by
      obtain ⟨hx, hy⟩ := edge_six hf e
      exact ⟨hx, hy, by rw [edge_eq hp hf hf' hx hy]; exact e⟩) h
theorem ring_eq {π ρ : Nat → Nat} (hp : Pm π ρ) {its : List It} (hf : Fine its) (hf' : Fine (rI π its)) {l : Nat} (hl : l < 6) : fwK (edgeS (rI π its)) 6 (π l) (π l) = fwK (edgeS its) 6 l l := by
  rw [Bool.eq_iff_iff, fwK_way _ 6 (Nat.le_refl _) _ _ (hp.a l hl) (hp.a l hl), fwK_way _ 6 (Nat.le_refl _) _ _ hl hl]
  exact way_iff hp hf hf' hl hl
theorem nodup_sub {α : Type} [DecidableEq α] : ∀ (l m : List α), l.Nodup → (∀ x ∈ l, x ∈ m) → l.length ≤ m.length
  | [], m, _, _ => Nat.zero_le _
  | a :: r, m, hn, hs => by
    have ha := hs a (by simp)
    rw [List.nodup_cons] at hn
    have := nodup_sub r (m.erase a) hn.2 (fun x hx => (List.mem_erase_of_ne (fun e : x = a => hn.1 (by rw [← e]; exact hx))).2 (hs x (by simp [hx])))
    rw [List.length_erase_of_mem ha] at this
    have := List.length_pos_of_mem ha
    simp only [List.length_cons]; omega
theorem nodup_map {α β : Type} {f : α → β} : ∀ (l : List α), l.Nodup → (∀ x ∈ l, ∀ y ∈ l, f x = f y → x = y) → (l.map f).Nodup
  | [], _, _ => by simp
  | a :: r, hn, hi => by
    rw [List.nodup_cons] at hn
    rw [List.map_cons, List.nodup_cons]
    refine ⟨fun h => ?_, nodup_map r hn.2 (fun x hx y hy => hi x (by simp [hx]) y (by simp [hy]))⟩
    obtain ⟨x, hx, e⟩ := List.mem_map.1 h
    have := hi x (by simp [hx]) a (by simp) e
    exact hn.1 (this ▸ hx)
theorem count_le {π ρ : Nat → Nat} (hp : Pm π ρ) (P Q : Nat → Bool) (h : ∀ l, l < 6 → P l = true → Q (π l) = true) : ((List.range 6).filter P).length ≤ ((List.range 6).filter Q).length := by
  have e : ((List.range 6).filter P).length = (((List.range 6).filter P).map π).length := by rw [List.length_map]
  rw [e]
  refine nodup_sub _ _ (nodup_map _ (List.nodup_range.filter _) fun x hx y hy e => ?_) fun x hx => ?_
  · simp only [List.mem_filter, List.mem_range] at hx hy
    exact hp.inj hx.1 hy.1 e
  · obtain ⟨l, hl, rfl⟩ := List.mem_map.1 hx
    simp only [List.mem_filter, List.mem_range] at hl ⊢
    exact ⟨hp.a l hl.1, h l hl.1 hl.2⟩
theorem count_eq {π ρ : Nat → Nat} (hp : Pm π ρ) (P Q : Nat → Bool) (h : ∀ l, l < 6 → Q (π l) = P l) : ((List.range 6).filter Q).length = ((List.range 6).filter P).length := by
  refine Nat.le_antisymm (count_le hp.sym Q P fun l hl e => ?_) (count_le hp P Q fun l hl e => ?_)
  · rw [← h _ (hp.b l hl), hp.ba l hl]; exact e
  · rw [h l hl]; exact e
def prs : List (Nat × Nat) := (List.range 6).flatMap (fun l => (List.range 6).map (fun m => (l, m)))
theorem prs_mem (x : Nat × Nat) : x ∈ prs ↔ x.1 < 6 ∧ x.2 < 6 := by
  obtain ⟨a, b⟩ := x
  simp [prs]
theorem edgeL_prs (T : Tb) : edgeL T 6 = (prs.filter (fun x => T x.1 x.2)).map (fun x => ((x.1 : Int), (x.2 : Int))) := by
  unfold edgeL edgeRow prs
  rw [List.filter_flatMap, List.map_flatMap]
  congr 1
  funext l
  rw [List.filter_map, List.map_map]
  rfl
theorem prs_nodup : prs.Nodup := by decide
theorem prs_le {π ρ : Nat → Nat} (hp : Pm π ρ) (P Q : Tb) (h : ∀ l m, l < 6 → m < 6 → P l m = true → Q (π l) (π m) = true) : (edgeL P 6).length ≤ (edgeL Q 6).length := by
  have e : (prs.filter (fun x => P x.1 x.2)).length = ((prs.filter (fun x => P x.1 x.2)).map (fun x : Nat × Nat => (π x.1, π x.2))).length := by rw [List.length_map]
  rw [edgeL_prs, edgeL_prs, List.length_map, List.length_map, e]
  refine nodup_sub _ _ (nodup_map _ (prs_nodup.filter _) fun x hx y hy e => ?_) fun x hx => ?_
  · simp only [List.mem_filter, prs_mem] at hx hy
    simp only [Prod.mk.injEq] at e
    exact Prod.ext (hp.inj hx.1.1 hy.1.1 e.1) (hp.inj hx.1.2 hy.1.2 e.2)
  · obtain ⟨l, hl, rfl⟩ := List.mem_map.1 hx
    simp only [List.mem_filter, prs_mem] at hl ⊢
    exact ⟨⟨hp.a _ hl.1.1, hp.a _ hl.1.2⟩, h _ _ hl.1.1 hl.1.2 hl.2⟩
theorem edgeL_ren {π ρ : Nat → Nat} (hp : Pm π ρ) {its : List It} (hf : Fine its) (hf' : Fine (rI π its)) : (edgeL (edgeS (rI π its)) 6).length = (edgeL (edgeS its) 6).length := by
  refine Nat.le_antisymm (prs_le hp.sym _ _ fun l m hl hm e => ?_) (prs_le hp _ _ fun l m hl hm e => ?_)
  · rw [← edge_eq hp hf hf' (hp.b l hl) (hp.b m hm), hp.ba l hl, hp.ba m hm]; exact e
  · rw [edge_eq hp hf hf' hl hm]; exact e
/-- Each edge, by the other names. -/
theorem edge_ren {π ρ : Nat → Nat} (hp : Pm π ρ) {its : List It} (hf : Fine its) (hf' : Fine (rI π its)) {r : Int × Int} (hr : r ∈ edgeL (edgeS its) 6) : ∃ l m : Nat, l < 6 ∧ m < 6 ∧ r = ((l : Int), (m : Int)) ∧ ((π l : Int), (π m : Int)) ∈ edgeL (edgeS (rI π its)) 6 := by
  rw [edgeL_prs] at hr
  obtain ⟨x, hx, rfl⟩ := List.mem_map.1 hr
  simp only [List.mem_filter, prs_mem] at hx
  refine ⟨x.1, x.2, hx.1.1, hx.1.2, rfl, ?_⟩
  rw [edgeL_prs]
  refine List.mem_map.2 ⟨(π x.1, π x.2), ?_, rfl⟩
  simp only [List.mem_filter, prs_mem]
  exact ⟨⟨hp.a _ hx.1.1, hp.a _ hx.1.2⟩, by rw [edge_eq hp hf hf' hx.1.1 hx.1.2]; exact hx.2⟩
theorem rep_ren_len {π ρ : Nat → Nat} (hp : Pm π ρ) {its : List It} (hf : Fine its) (hf' : Fine (rI π its)) : (analyseS (rI π its)).length = (analyseS its).length := by
  unfold analyseS
  rw [solo_eq hp hf hf', races_eq hp hf hf']
  simp only [List.length_append, ringL, List.length_map]
  rw [count_eq hp (fun l => fwK (edgeS its) 6 l l) (fun l => fwK (edgeS (rI π its)) 6 l l) (fun l hl => ring_eq hp hf hf' hl)]
theorem solos_kind {P : Nat → Nat → Nat → Bool} {N : Nat → Nat} {m n : Nat} {r : Rp} (h : r ∈ solos P N m n) : r.1 ≠ 6 ∨ 5 < n := by
  unfold solos soloK soloRow at h
  simp only [List.mem_flatMap, List.mem_map, List.mem_range, List.mem_filter] at h
  obtain ⟨k, hk, i, hi, p, hpp, rfl⟩ := h
  simp only
  omega
/-- Each report, by the other names. -/
theorem rep_ren {π ρ : Nat → Nat} (hp : Pm π ρ) {its : List It} (hf : Fine its) (hf' : Fine (rI π its)) {r : Rp} (hr : r ∈ analyseS its) : (r.1 ≠ 6 ∧ r ∈ analyseS (rI π its)) ∨ (∃ l : Nat, l < 6 ∧ r = (6, -1, (l : Int)) ∧ ((6 : Int), (-1 : Int), (π l : Int)) ∈ analyseS (rI π its)) := by
  unfold analyseS at hr ⊢
  rw [solo_eq hp hf hf', races_eq hp hf hf']
  simp only [List.mem_append] at hr ⊢
  rcases hr with (hr | hr) | hr
  · left
    refine ⟨?_, Or.inl (Or.inl hr)⟩
    unfold soloS at hr
    rcases solos_kind hr with e | e
    · exact e
    · omega
  · right
    unfold ringL at hr
    obtain ⟨l, hl, rfl⟩ := List.mem_map.1 hr
    simp only [List.mem_filter, List.mem_range] at hl
    refine ⟨l, hl.1, rfl, Or.inl (Or.inr ?_)⟩
    unfold ringL
    refine List.mem_map.2 ⟨π l, ?_, rfl⟩
    simp only [List.mem_filter, List.mem_range]
    exact ⟨hp.a l hl.1, by rw [ring_eq hp hf hf' hl.1]; exact hl.2⟩
  · left
    refine ⟨?_, Or.inr hr⟩
    unfold raceS raceL at hr
    obtain ⟨l, hl, rfl⟩ := List.mem_map.1 hr
    simp
end Mc
end Go.Proofs.Ytecmfdkhcffpmaa
