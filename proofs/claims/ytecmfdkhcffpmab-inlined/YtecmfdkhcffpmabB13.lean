/- KpB, PureS0, PureS1. -/
import Derived.Test.YtecmfdkhcffpmabB09
import Derived.Test.YtecmfdkhcffpmabB12
import Derived.Test.YtecmfdkhcffpmabB04
/- Plain: scripts out of raw bytes; what holds of every trace; a script's beginning; commands that did nothing. -/
namespace Go.Proofs.Ytecmfdkhcffpmab
open Go.RowKit
set_option linter.unusedSimpArgs false
set_option linter.unusedVariables false
open Mc
namespace Mc
open Wd
def whatT (w : Nat) : UInt8 := if w < 8 then b8 (48 + w) else if w = 8 then 112 else if w < 13 then 44 else 46
def cmdT (n : Nat) (c : UInt8) : List UInt8 := [b8 (48 + c.toNat % n), whatT (c.toNat / n % 20)]
def cmdsP (n : Nat) (raw : List UInt8) : List UInt8 := (raw.take 20000).flatMap (cmdT n)
theorem whatT_ord (w : Nat) : isOrd (bt (whatT w)) = true := by
  unfold whatT
  split
  · rw [bt_b8 (by omega)]; simp [isOrd]; omega
  split
  · decide
  split <;> decide
theorem scriptB_flat (n : Nat) (h0 : 0 < n) (hn : n ≤ 3) (l : List UInt8) : scriptB n (l.flatMap (cmdT n)) = true := by
  induction l with
  | nil => rfl
  | cons c r ih =>
    have hm := Nat.mod_lt c.toNat h0
    simp only [List.flatMap_cons, cmdT, List.cons_append, List.nil_append, scriptB, ih, Bool.and_true, Bool.and_eq_true, decide_eq_true_eq]
    rw [bt_b8 (by omega)]
    exact ⟨⟨by omega, by omega⟩, whatT_ord _⟩
theorem flatC_len (n : Nat) (l : List UInt8) : (l.flatMap (cmdT n)).length = 2 * l.length := by
  induction l with
  | nil => rfl
  | cons c r ih => simp only [List.flatMap_cons, cmdT, List.length_append, List.length_cons, List.length_nil, ih]; omega
theorem cmdsP_script (n : Nat) (h0 : 0 < n) (hn : n ≤ 3) (raw : List UInt8) : scriptB n (cmdsP n raw) = true := scriptB_flat n h0 hn _
theorem cmdsP_len (n : Nat) (raw : List UInt8) : (cmdsP n raw).length ≤ 40000 ∧ (cmdsP n raw).length = 2 * (raw.take 20000).length := by
  unfold cmdsP
  rw [flatC_len]
  simp only [List.length_take, and_true]
  omega
/-- What Run answers of a source and a script. -/
theorem runB_yes {l s : List UInt8} {n : Nat} {its : List It} (h1 : readP l = .ok its) (hl : l.length ≤ 240) (hs : s.length ≤ 200000) (h0 : 0 < n) (hn : n ≤ 3) (hsc : scriptB n s = true) : runB l n s = (traceB its n (begin_ its) s, 0) := by
  have e : refuses l n s = 0 := by
    unfold refuses errP
    rw [h1, if_neg (by omega)]
    simp only [ne_eq, not_true, if_false]
    rw [if_neg (by omega), if_neg (by rw [hsc]; decide)]
  unfold runB
  rw [e, h1]; rfl
theorem traceB_len (its : List It) (n : Nat) : ∀ (s : List UInt8) (S : Ma), 2 * (traceB its n S s).length ≤ s.length
  | [], S => by simp [traceB]
  | [_], S => by simp [traceB]
  | a :: o :: r, S => by
    rw [traceB]
    split
    · simp
    · have := traceB_len its n r (command its S n (bt a - 48).toNat (bt o)).2
      simp only [List.length_cons]; omega
theorem bt_letter (its : List It) (S : Ma) (n c : Nat) (what : Int) : bt (u8 (command its S n c what).1) = (command its S n c what).1 :=
  bt_u8 (command_letter its S n c what).1 (command_letter its S n c what).2
/-- A bad letter is the last one. -/
theorem traceB_bad (its : List It) (n : Nat) : ∀ (s : List UInt8) (S : Ma) (i : Nat) (c : UInt8), (traceB its n S s)[i]? = some c → bad (bt c) = true → i + 1 = (traceB its n S s).length
  | [], S, i, c, h, hb => by simp [traceB] at h
  | [_], S, i, c, h, hb => by simp [traceB] at h
  | a :: o :: r, S, i, c, h, hb => by
    rw [traceB] at h ⊢
    split at h
    · rename_i hbad
      cases i with
      | zero => rw [if_pos hbad]; rfl
      | succ i => simp at h
    · rename_i hbad
      rw [if_neg hbad]
      cases i with
      | zero =>
        simp only [List.getElem?_cons_zero, Option.some.injEq] at h
        rw [← h, bt_letter] at hb
        exact absurd hb hbad
      | succ i =>
        rw [List.getElem?_cons_succ] at h
        have := traceB_bad its n r _ i c h hb
        simp only [List.length_cons]; omega
/-- Without a bad letter there is one for each command. -/
theorem traceB_full (its : List It) (n : Nat) (m : Int) : ∀ (s : List UInt8) (S : Ma), scriptB m s = true → (∀ c ∈ traceB its n S s, bad (bt c) = false) → 2 * (traceB its n S s).length = s.length
  | [], S, _, _ => by simp [traceB]
  | [_], S, h, _ => by simp [scriptB] at h
  | a :: o :: r, S, h, hb => by
    rw [traceB] at hb ⊢
    split
    · rename_i hbad
      have := hb (u8 (command its S n (bt a - 48).toNat (bt o)).1) (by simp)
      rw [bt_letter, hbad] at this; cases this
    · rename_i hbad
      rw [if_neg hbad] at hb
      have := traceB_full its n m r (command its S n (bt a - 48).toNat (bt o)).2 (by simp only [scriptB, Bool.and_eq_true] at h; exact h.2) (fun c hc => hb c (List.mem_cons_of_mem _ hc))
      simp only [List.length_cons]; omega
/-- The trace of a script's beginning. -/
theorem traceB_take (its : List It) (n : Nat) : ∀ (k : Nat) (s : List UInt8) (S : Ma), traceB its n S (s.take (2 * k)) = (traceB its n S s).take k
  | 0, s, S => by simp [traceB]
  | k + 1, [], S => by simp [traceB]
  | k + 1, [_], S => by rw [show 2 * (k + 1) = 2 * k + 1 + 1 from rfl]; simp [traceB]
  | k + 1, a :: o :: r, S => by
    rw [show 2 * (k + 1) = 2 * k + 1 + 1 from rfl, List.take_succ_cons, List.take_succ_cons, traceB, traceB, List.take_succ_cons]
    split
    · simp
    · rw [traceB_take its n k r]
theorem scriptB_take (m : Int) : ∀ (k : Nat) (s : List UInt8), scriptB m s = true → scriptB m (s.take (2 * k)) = true
  | 0, s, _ => by simp [scriptB]
  | k + 1, [], _ => by simp [scriptB]
  | k + 1, [_], h => by simp [scriptB] at h
  | k + 1, a :: o :: r, h => by
    rw [show 2 * (k + 1) = 2 * k + 1 + 1 from rfl, List.take_succ_cons, List.take_succ_cons]
    simp only [scriptB, Bool.and_eq_true] at h ⊢
    exact ⟨h.1, scriptB_take m k r h.2⟩
theorem bd_byte {b : List UInt8} (h : Bd b) : ∀ c ∈ b, bt c ≠ 95 ∧ bt c ≠ 58 := by
  induction h with
  | nil => intro c hc; cases hc
  | lock c d r h1 h2 _ ih =>
    intro x hx
    simp only [List.mem_cons] at hx
    rcases hx with rfl | rfl | hx
    · omega
    · simp [lk] at h2; omega
    · exact ih x hx
  | cell c d r h1 h2 _ ih =>
    intro x hx
    simp only [List.mem_cons] at hx
    rcases hx with rfl | rfl | hx
    · omega
    · simp [cl] at h2; omega
    · exact ih x hx
  | one c r h1 _ ih =>
    intro x hx
    simp only [List.mem_cons] at hx
    rcases hx with rfl | hx
    · rw [up_iff] at h1; omega
    · exact ih x hx
  | alt a b r _ _ _ ia ib ir =>
    intro x hx
    simp only [List.mem_cons, List.mem_append] at hx
    rcases hx with rfl | hx | rfl | hx | rfl | hx
    · decide
    · exact ia x hx
    · decide
    · exact ib x hx
    · decide
    · exact ir x hx
  | star a r _ _ ia ir =>
    intro x hx
    simp only [List.mem_cons, List.mem_append] at hx
    rcases hx with rfl | hx | rfl | hx
    · decide
    · exact ia x hx
    · decide
    · exact ir x hx
theorem atB_byte {its : List It} (hF : Fine its) (i p : Nat) : atB (bodyOf its i) p ≠ 95 ∧ atB (bodyOf its i) p ≠ 58 := by
  by_cases hi : i < its.length
  · unfold atB
    split
    · rename_i hp
      have := bd_byte (hF.bd i hi) (bodyOf its i)[p] (List.getElem_mem hp)
      have e : at_ (bodyOf its i) p = bt (bodyOf its i)[p] := by simp [at_, bt, hp]
      rw [e]; exact this
    · decide
  · have e : bodyOf its i = [] := by simp [bodyOf, List.getD, hi]
    rw [e]; simp [atB]
theorem alone_same {its : List It} (hF : Fine its) (i : Nat) (f : Fr) (hd off second : Bool) : (alone (bodyOf its i) f hd off second).1 ≠ 95 ∧ (alone (bodyOf its i) f hd off second).1 ≠ 58 := by
  have := atB_byte hF i f.pos
  unfold alone
  repeat' split
  all_goals first | exact this | decide | (simp only; first | exact this | decide)
theorem step_same {its : List It} (hF : Fine its) (S : Ma) (n c : Nat) (second : Bool) (h : (Mc.step its S n c second).1 = 95 ∨ (Mc.step its S n c second).1 = 58) : (Mc.step its S n c second).2 = S := by
  unfold Mc.step at h ⊢
  simp only at h ⊢
  split
  · rfl
  rename_i h1
  rw [if_neg h1] at h
  split
  · rename_i h2
    rw [if_pos h2] at h
    split
    · rfl
    · rename_i h3; rw [if_neg h3] at h; simp at h
  rename_i h2
  rw [if_neg h2] at h
  split
  · rename_i h3
    rw [if_pos h3] at h
    simp only at h ⊢
    unfold takes at h ⊢
    split
    · rename_i hh
      simp only [hh] at h
      split
      · exact put_works S c
      split
      · exact put_works S c
      · exact put_works S c
    · rename_i hh
      simp only [hh] at h
      simp at h
  rename_i h3
  rw [if_neg h3] at h
  split
  · rename_i h4
    rw [if_pos h4] at h
    split
    · rfl
    · rename_i h5; rw [if_neg h5] at h; simp at h
  rename_i h4
  rw [if_neg h4] at h
  split
  · rfl
  · rename_i h5
    rw [if_neg h5] at h
    have := alone_same hF (works S c).item (works S c) (S.cp c).h.there (S.cp c).off second
    unfold lone at h
    simp only at h
    omega
/-- A command at which nothing was done, or at which a processor waits, changes nothing. -/
theorem command_same {its : List It} (hF : Fine its) (S : Ma) (n c : Nat) (what : Int) (h : (command its S n c what).1 = 95 ∨ (command its S n c what).1 = 58) : (command its S n c what).2 = S := by
  unfold command at h ⊢
  split
  · rename_i h1
    rw [if_pos h1] at h
    exact step_same hF S n c _ h
  rename_i h1
  rw [if_neg h1] at h
  split
  · rename_i h2
    rw [if_pos h2] at h
    unfold comes at h ⊢
    split
    · rfl
    rename_i h3
    rw [if_neg h3] at h
    split
    · rename_i h4
      rw [if_pos h4] at h
      split
      · rfl
      · rename_i h5; rw [if_neg h5] at h; simp at h
    rename_i h4
    rw [if_neg h4] at h
    split
    · rfl
    · rename_i h5; rw [if_neg h5] at h; simp at h
  rename_i h2
  rw [if_neg h2] at h
  split
  · rfl
  · rename_i h5; rw [if_neg h5] at h; simp at h
def keptB (c : UInt8) : Bool := c != 95 && c != 58
/-- The commands at which something was done. -/
def restP : List UInt8 → List UInt8 → List UInt8
  | c :: t, a :: o :: r => if keptB c = true then a :: o :: restP t r else restP t r
  | _, _ => []
theorem skip_letter {its : List It} {S : Ma} {n c : Nat} {what : Int} (h : keptB (u8 (command its S n c what).1) = false) : (command its S n c what).1 = 95 ∨ (command its S n c what).1 = 58 := by
  have := bt_letter its S n c what
  rw [← this]
  simp only [keptB, Bool.and_eq_false_iff, bne_eq_false_iff_eq] at h
  rcases h with h | h <;> rw [h]
  · exact Or.inl rfl
  · exact Or.inr rfl
theorem traceB_rest {its : List It} (hF : Fine its) (n : Nat) : ∀ (s : List UInt8) (S : Ma), traceB its n S (restP (traceB its n S s) s) = (traceB its n S s).filter keptB
  | [], S => by simp [traceB, restP]
  | [_], S => by simp [traceB, restP]
  | a :: o :: r, S => by
    rw [traceB, restP]
    cases hk : keptB (u8 (command its S n (bt a - 48).toNat (bt o)).1) with
    | true =>
      rw [if_pos rfl, traceB, List.filter_cons_of_pos hk]
      congr 1
      split
      · simp
      · exact traceB_rest hF n r _
    | false =>
      have hs := command_same hF S n _ _ (skip_letter hk)
      rw [if_neg (by decide), List.filter_cons_of_neg (by rw [hk]; decide), hs]
      split
      · simp [restP, traceB]
      · exact traceB_rest hF n r S
theorem scriptB_rest (m : Int) : ∀ (t s : List UInt8), scriptB m s = true → scriptB m (restP t s) = true
  | [], s, _ => by simp [restP, scriptB]
  | c :: t, [], _ => by simp [restP, scriptB]
  | c :: t, [_], _ => by simp [restP, scriptB]
  | c :: t, a :: o :: r, h => by
    simp only [scriptB, Bool.and_eq_true] at h
    rw [restP]
    split
    · simp only [scriptB, Bool.and_eq_true]
      exact ⟨h.1, scriptB_rest m t r h.2⟩
    · exact scriptB_rest m t r h.2
theorem restP_len : ∀ (t s : List UInt8), (restP t s).length ≤ s.length
  | [], s => by simp [restP]
  | c :: t, [] => by simp [restP]
  | c :: t, [_] => by simp [restP]
  | c :: t, a :: o :: r => by
    have := restP_len t r
    rw [restP]
    split <;> simp only [List.length_cons] <;> omega
end Mc
end Go.Proofs.Ytecmfdkhcffpmab
/- Plain: numbers of states; what may stand at a place. -/
namespace Go.Proofs.Ytecmfdkhcffpmab
open Go.RowKit
set_option linter.unusedSimpArgs false
set_option linter.unusedVariables false
open Mc
/-- The number of a set of locks, as the program gives it. -/
def nTo (l : List Bool) (k : Nat) : Nat := (l.take k).foldl (fun n b => 2 * n + b.toNat) 0
def hn (h : Nat) : Nat := nTo [h.testBit 0, h.testBit 1, h.testBit 2, h.testBit 3, h.testBit 4, h.testBit 5] 6
theorem hn_lt : ∀ h, h < 64 → hn h < 64 := by decide
theorem hn_inj : ∀ h, h < 64 → ∀ h', h' < 64 → hn h = hn h' → h = h' := by decide
theorem hn_disj : ∀ h, h < 64 → ∀ h', h' < 64 → ((hn h &&& hn h' = 0) ↔ (h &&& h' = 0)) := by decide
/-- The number of a state. -/
def sn (p h : Nat) (off : Bool) : Nat := p * 128 + 2 * hn h + off.toNat
theorem sn_inj {p h p' h' : Nat} {off off' : Bool} (hh : h < 64) (hh' : h' < 64) (e : sn p h off = sn p' h' off') : p = p' ∧ h = h' ∧ off = off' := by
  unfold sn at e
  have h1 := hn_lt h hh
  have h2 := hn_lt h' hh'
  have o1 : off.toNat ≤ 1 := Bool.toNat_le off
  have o2 : off'.toNat ≤ 1 := Bool.toNat_le off'
  have e1 : p = p' := by omega
  have e2 : hn h = hn h' := by omega
  have e3 : off.toNat = off'.toNat := by omega
  refine ⟨e1, hn_inj h hh h' hh' e2, ?_⟩
  cases off <;> cases off' <;> simp at e3 <;> rfl
theorem sn_lt {p h n : Nat} {off : Bool} (hh : h < 64) (hp : p ≤ n) : sn p h off < (n + 1) * 128 := by
  unfold sn
  have h1 := hn_lt h hh
  have o1 : off.toNat ≤ 1 := Bool.toNat_le off
  omega
/-- The bytes at which an item can stand. -/
def Stands (v : Int) : Prop := v = 43 ∨ v = 45 ∨ v = 114 ∨ v = 119 ∨ v = 60 ∨ v = 62 ∨ v = 40 ∨ v = 91 ∨ v = 124 ∨ v = 93 ∨ v = 122 ∨ v = 41 ∨ v = 101
theorem num_lockB {b : List UInt8} (hok : PairOK b) {p : Nat} (h : atB b p = 43 ∨ atB b p = 45) : 0 ≤ num b p ∧ num b p < 6 := by
  have hp : p < b.length := atB_lt (by rcases h with h | h <;> rw [h] <;> decide)
  simp only [atB, hp, if_true] at h
  obtain ⟨h1, h2, h3⟩ := (hok p hp).1 h
  rw [num, if_pos h1, if_pos h2]; omega
end Go.Proofs.Ytecmfdkhcffpmab
/- Plain: the states that an item can come to by itself, and how the program gathers them. -/
namespace Go.Proofs.Ytecmfdkhcffpmab
open Go.RowKit
set_option linter.unusedSimpArgs false
set_option linter.unusedVariables false
namespace Mc
open Wd
/-- A state: a place, the locks held, interrupts off. -/
abbrev St3 := Nat × Nat × Bool
/-- What a step by itself leads to. -/
def stp (hd : Bool) (b : List UInt8) (s : St3) (comma : Bool) : St3 := (stepS hd b s.1 s.2.1 s.2.2 comma).1
/-- The states of an item. -/
inductive Rch (hd : Bool) (b : List UInt8) : St3 → Prop
  | begin : Rch hd b (0, 0, hd)
  | step {s : St3} (h : Rch hd b s) (comma : Bool) : Rch hd b (stp hd b s comma)
structure GB (b : List UInt8) : Prop where
  bd : Bd b
  noUp : noUp b
  short : b.length ≤ 300
theorem Fine.gb {its : List It} (h : Fine its) {i : Nat} (hi : i < its.length) : GB (bodyOf its i) := ⟨h.bd i hi, h.noUp i hi, h.short i hi⟩
theorem GB.pair {b : List UInt8} (h : GB b) : PairOK b := pairOK_bd h.bd
theorem GB.stands {b : List UInt8} (h : GB b) {p : Nat} (hp : Pl b p) : Stands (atB b p) := by
  unfold Stands
  by_cases e : p < b.length
  · have hk := hp.kind h.bd h.noUp e
    have ha : atB b p = at_ b p := by simp [atB, e]
    rw [ha]
    unfold head4 sole at hk
    omega
  · have ha : atB b p = 101 := by simp [atB, e]
    omega
theorem GB.not101 {b : List UInt8} (h : GB b) {p : Nat} (hpl : Pl b p) (hp : p < b.length) : atB b p ≠ 101 := by
  have hk := hpl.kind h.bd h.noUp hp
  have ha : atB b p = at_ b p := by simp [atB, hp]
  rw [ha]
  unfold head4 sole at hk
  omega
theorem nextP_pos {b : List UInt8} (h : GB b) {p : Nat} (hpl : Pl b p) (hp : p < b.length) (hh : Nat) (off comma : Bool) : (nextP b p hh off comma).1 = behind b p comma := by
  have hs := h.stands hpl
  have h101 := h.not101 hpl hp
  unfold Stands at hs
  by_cases e43 : atB b p = 43
  · simp [nextP, behind, e43]
  by_cases e45 : atB b p = 45
  · simp [nextP, behind, e45]
  by_cases e60 : atB b p = 60
  · simp [nextP, behind, e60]
  by_cases e62 : atB b p = 62
  · simp [nextP, behind, e62]
  rw [nextP_plain h.bd hp hh off comma (by omega)]
theorem nextP_end {b : List UInt8} {p : Nat} (hp : ¬ p < b.length) (hh : Nat) (off comma : Bool) : nextP b p hh off comma = (p, hh, off) := by
  have ha : atB b p = 101 := by simp [atB, hp]
  simp [nextP, ha]
theorem nextP_held {b : List UInt8} (h : PairOK b) {p hh : Nat} {hd off comma : Bool} (hb : hh < 64) (hf : faultP hd b p hh off = 0) : (nextP b p hh off comma).2.1 < 64 := by
  unfold nextP
  by_cases e43 : atB b p = 43
  · rw [if_pos e43]
    have hn := num_lockB h (Or.inl e43)
    refine bits_add hh hb _ (by omega) ?_
    unfold faultP at hf
    rw [if_pos e43, hasB_num h (Or.inl e43)] at hf
    cases hq : holds hh (num b p).toNat
    · exact hq
    · rw [hq] at hf; simp at hf
  rw [if_neg e43]
  by_cases e45 : atB b p = 45
  · rw [if_pos e45]
    exact Nat.lt_of_le_of_lt (Nat.sub_le _ _) hb
  rw [if_neg e45]
  repeat' split
  all_goals exact hb
/-- What holds of a state. -/
def SOK (b : List UInt8) (s : St3) : Prop := s.2.1 < 64 ∧ Pl b s.1
theorem SOK.stp {b : List UInt8} (hg : GB b) {hd : Bool} {s : St3} (h : SOK b s) (comma : Bool) : SOK b (stp hd b s comma) := by
  unfold Mc.stp stepS
  by_cases hf : faultP hd b s.1 s.2.1 s.2.2 = 0
  · rw [if_pos hf]
    refine ⟨nextP_held hg.pair h.1 hf, ?_⟩
    by_cases hp : s.1 < b.length
    · show Pl b (nextP b s.1 s.2.1 s.2.2 comma).1
      rw [nextP_pos hg h.2 hp]
      exact behind_pl hg.bd s.1 h.2 hp comma
    · show Pl b (nextP b s.1 s.2.1 s.2.2 comma).1
      rw [nextP_end hp]; exact h.2
  · rw [if_neg hf]; exact h
theorem Rch.ok {b : List UInt8} (hg : GB b) {hd : Bool} {s : St3} (h : Rch hd b s) : SOK b s := by
  induction h with
  | begin => exact ⟨by show 0 < 64; decide, Pl.zero b⟩
  | step _ c ih => exact ih.stp hg c
/-- A state that was reached: the number of the one from which the step goes, by which way. -/
structure Rc where
  p : Nat
  h : Nat
  off : Bool
  fr : Nat
  comma : Bool
def Rc.st (r : Rc) : St3 := (r.p, r.h, r.off)
def Rc.sn (r : Rc) : Nat := Go.Proofs.Ytecmfdkhcffpmab.sn r.p r.h r.off
/-- What holds of the list while it grows. -/
structure RI (hd : Bool) (b : List UInt8) (L : List Rc) (i way : Nat) (f : Nat → Bool) : Prop where
  head : L[0]? = some ⟨0, 0, hd, 0, false⟩
  back : ∀ (j : Nat) (r : Rc), 0 < j → L[j]? = some r → ∃ q : Rc, r.fr < j ∧ L[r.fr]? = some q ∧ r.st = stp hd b q.st r.comma
  done : ∀ (j : Nat) (q : Rc), L[j]? = some q → j < i → ∀ c, ∃ r ∈ L, r.st = stp hd b q.st c
  half : way = 1 → ∀ q : Rc, L[i]? = some q → ∃ r ∈ L, r.st = stp hd b q.st false
  seen : ∀ m, f m = true ↔ ∃ r ∈ L, r.sn = m
  nd : (L.map Rc.sn).Nodup
theorem RI.rch {hd : Bool} {b : List UInt8} {L : List Rc} {i way : Nat} {f : Nat → Bool} (h : RI hd b L i way f) : ∀ (j : Nat) (r : Rc), L[j]? = some r → Rch hd b r.st := by
  intro j
  induction j using Nat.strongRecOn with
  | ind j ih =>
    intro r hr
    by_cases h0 : j = 0
    · subst h0
      rw [h.head] at hr
      cases hr
      exact Rch.begin
    · obtain ⟨q, h1, h2, h3⟩ := h.back j r (by omega) hr
      rw [h3]
      exact (ih _ h1 q h2).step _
theorem RI.ok {hd : Bool} {b : List UInt8} {L : List Rc} {i way : Nat} {f : Nat → Bool} (hg : GB b) (h : RI hd b L i way f) {r : Rc} (hr : r ∈ L) : SOK b r.st := by
  obtain ⟨j, hj⟩ := List.getElem?_of_mem hr
  exact (h.rch j r hj).ok hg
theorem nodup_len : ∀ (N : Nat) (l : List Nat), l.Nodup → (∀ x ∈ l, x < N) → l.length ≤ N
  | 0, l, _, h => by
    cases l with
    | nil => exact Nat.le_refl _
    | cons a r => exact absurd (h a (by simp)) (by omega)
  | N + 1, l, hn, h => by
    by_cases e : N ∈ l
    · have h1 := nodup_len N (l.erase N) (hn.erase N) (fun x hx => by
        have h2 := h x (List.mem_of_mem_erase hx)
        have h3 : x ≠ N := fun e => by subst e; exact (hn.not_mem_erase hx)
        omega)
      rw [List.length_erase_of_mem e] at h1
      have := List.length_pos_of_mem e
      omega
    · have := nodup_len N l hn (fun x hx => by
        have h2 := h x hx
        have h3 : x ≠ N := fun e' => by subst e'; exact e hx
        omega)
      omega
theorem RI.len {hd : Bool} {b : List UInt8} {L : List Rc} {i way : Nat} {f : Nat → Bool} (hg : GB b) (h : RI hd b L i way f) : L.length ≤ (b.length + 1) * 128 := by
  have := nodup_len ((b.length + 1) * 128) (L.map Rc.sn) h.nd (fun x hx => by
    obtain ⟨r, hr, rfl⟩ := List.mem_map.1 hx
    have hk := h.ok hg hr
    exact sn_lt hk.1 hk.2.le)
  simpa using this
theorem sn_st {b : List UInt8} {r q : Rc} (hr : SOK b r.st) (hq : SOK b q.st) (e : r.sn = q.sn) : r.st = q.st := by
  obtain ⟨h1, h2, h3⟩ := sn_inj hr.1 hq.1 e
  show (r.p, r.h, r.off) = (q.p, q.h, q.off)
  have h2' : r.h = q.h := h2
  rw [h1, h2', h3]
theorem RI.beg {hd : Bool} {b : List UInt8} {f : Nat → Bool} (hf : ∀ m, f m = decide (m = sn 0 0 hd)) : RI hd b [⟨0, 0, hd, 0, false⟩] 0 0 f := by
  refine ⟨rfl, fun j r hj hr => ?_, fun j q _ hj => by omega, fun h => by omega, fun m => ?_, by simp⟩
  · rw [List.getElem?_eq_none (by simp; omega)] at hr; cases hr
  · rw [hf]; simp [Rc.sn]; exact ⟨fun h => h.symm, fun h => h.symm⟩
def snS (s : St3) : Nat := sn s.1 s.2.1 s.2.2
/-- A state that is seen already adds nothing. -/
theorem RI.seenB {hd : Bool} {b : List UInt8} {L : List Rc} {i way : Nat} {f : Nat → Bool} (hg : GB b) (h : RI hd b L i way f) {s : St3} (hs : SOK b s) (hf : f (snS s) = true) : ∃ r ∈ L, r.st = s := by
  obtain ⟨r, hr, e⟩ := (h.seen _).1 hf
  refine ⟨r, hr, ?_⟩
  exact sn_st (q := ⟨s.1, s.2.1, s.2.2, 0, false⟩) (h.ok hg hr) hs e
theorem RI.same {hd : Bool} {b : List UInt8} {L : List Rc} {i way : Nat} {f : Nat → Bool} (h : RI hd b L i way f) {m : Nat} (hf : f m = true) : RI hd b L i way (fun x => decide (x = m) || f x) := by
  refine ⟨h.head, h.back, h.done, h.half, fun x => ?_, h.nd⟩
  rw [← h.seen x]
  by_cases e : x = m
  · subst e; simp [hf]
  · simp [e]
theorem RI.push {hd : Bool} {b : List UInt8} {L : List Rc} {i way : Nat} {f : Nat → Bool} (h : RI hd b L i way f) {q : Rc} (hq : L[i]? = some q) (c : Bool) {sp sh : Nat} {so : Bool} (hs : stp hd b q.st c = (sp, sh, so)) (hf : f (sn sp sh so) = false) :
    RI hd b (L ++ [⟨sp, sh, so, i, c⟩]) i way (fun x => decide (x = sn sp sh so) || f x) := by
  have hi : i < L.length := (List.getElem?_eq_some_iff.1 hq).1
  have old : ∀ (j : Nat) (r : Rc), L[j]? = some r → (L ++ [(⟨sp, sh, so, i, c⟩ : Rc)])[j]? = some r := fun j r hr => by
    rw [List.getElem?_append_left (List.getElem?_eq_some_iff.1 hr).1]; exact hr
  have back : ∀ (j : Nat) (r : Rc), j < L.length → (L ++ [(⟨sp, sh, so, i, c⟩ : Rc)])[j]? = some r → L[j]? = some r := fun j r hj hr => by
    rw [List.getElem?_append_left hj] at hr; exact hr
  refine ⟨old _ _ h.head, fun j r hj hr => ?_, fun j x hx hj cc => ?_, fun hw x hx => ?_, fun m => ?_, ?_⟩
  · by_cases hl : j < L.length
    · obtain ⟨x, h1, h2, h3⟩ := h.back j r hj (back j r hl hr)
      exact ⟨x, h1, old _ _ h2, h3⟩
    · rw [List.getElem?_append_right (by omega)] at hr
      have e : j - L.length = 0 := by
        by_cases e : j - L.length = 0
        · exact e
        · rw [List.getElem?_eq_none (by simp; omega)] at hr; cases hr
      rw [e] at hr
      cases hr
      exact ⟨q, by show i < j; omega, old _ _ hq, hs.symm⟩
  · obtain ⟨r, hr, e⟩ := h.done j x (back j x (by omega) hx) hj cc
    exact ⟨r, List.mem_append_left _ hr, e⟩
  · obtain ⟨r, hr, e⟩ := h.half hw x (back i x hi hx)
    exact ⟨r, List.mem_append_left _ hr, e⟩
  · constructor
    · intro hm
      simp only [Bool.or_eq_true, decide_eq_true_eq] at hm
      rcases hm with e | e
      · exact ⟨⟨sp, sh, so, i, c⟩, List.mem_append_right _ (by simp), e.symm⟩
      · obtain ⟨r, hr, e2⟩ := (h.seen m).1 e
        exact ⟨r, List.mem_append_left _ hr, e2⟩
    · rintro ⟨r, hr, e⟩
      simp only [Bool.or_eq_true, decide_eq_true_eq]
      rcases List.mem_append.1 hr with hr | hr
      · exact Or.inr ((h.seen m).2 ⟨r, hr, e⟩)
      · have hr' : r = ⟨sp, sh, so, i, c⟩ := by simpa using hr
        subst hr'
        exact Or.inl e.symm
  · rw [List.map_append, List.nodup_append]
    refine ⟨h.nd, by simp, ?_⟩
    intro x hx y hy e
    subst e
    have hy' : x = sn sp sh so := by simpa [Rc.sn] using hy
    obtain ⟨r, hr, e2⟩ := List.mem_map.1 hx
    have := (h.seen x).2 ⟨r, hr, e2⟩
    rw [hy', hf] at this
    cases this
theorem RI.to1 {hd : Bool} {b : List UInt8} {L : List Rc} {i : Nat} {f : Nat → Bool} (h : RI hd b L i 0 f) {q : Rc} (hq : L[i]? = some q) (hr : ∃ r ∈ L, r.st = stp hd b q.st false) : RI hd b L i 1 f :=
  ⟨h.head, h.back, h.done, fun _ x hx => by rw [hq] at hx; cases hx; exact hr, h.seen, h.nd⟩
theorem RI.to0 {hd : Bool} {b : List UInt8} {L : List Rc} {i : Nat} {f : Nat → Bool} (h : RI hd b L i 1 f) {q : Rc} (hq : L[i]? = some q) (hr : ∃ r ∈ L, r.st = stp hd b q.st true) : RI hd b L (i + 1) 0 f := by
  refine ⟨h.head, h.back, fun j x hx hj c => ?_, fun h => by omega, h.seen, h.nd⟩
  by_cases e : j = i
  · subst e
    rw [hq] at hx; cases hx
    cases c
    · exact h.half rfl q hq
    · exact hr
  · exact h.done j x hx (by omega) c
/-- At the end the list has all states, and no other. -/
theorem RI.all {hd : Bool} {b : List UInt8} {L : List Rc} {i : Nat} {f : Nat → Bool} (h : RI hd b L i 0 f) (hi : L.length ≤ i) (s : St3) : Rch hd b s ↔ ∃ r ∈ L, r.st = s := by
  constructor
  · intro hs
    induction hs with
    | begin => exact ⟨_, List.mem_of_getElem? h.head, rfl⟩
    | step _ c ih =>
      obtain ⟨r, hr, e⟩ := ih
      obtain ⟨j, hj⟩ := List.getElem?_of_mem hr
      have := (List.getElem?_eq_some_iff.1 hj).1
      obtain ⟨x, hx, ex⟩ := h.done j r hj (by omega) c
      exact ⟨x, hx, by rw [ex, e]⟩
  · rintro ⟨r, hr, rfl⟩
    obtain ⟨j, hj⟩ := List.getElem?_of_mem hr
    exact h.rch j r hj
end Mc
end Go.Proofs.Ytecmfdkhcffpmab
