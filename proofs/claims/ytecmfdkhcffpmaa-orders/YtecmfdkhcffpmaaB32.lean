/- DocA, DocB. -/
import Derived.Test.YtecmfdkhcffpmaaB29
import Derived.Test.YtecmfdkhcffpmaaB31
import Derived.Deep.QuietTactic
import Derived.BigQuiet
/- Contracts of the document's states: what goes wrong, what follows. -/
namespace Go.Proofs.Ytecmfdkhcffpmaa
open Go.RowKit
set_option linter.unusedSimpArgs false
set_option linter.unusedVariables false
set_option maxHeartbeats 8000000
open Mc

theorem oneIts (b : List UInt8) (hok : PairOK b) (hl : b.length ≤ 300) : ItsOK [⟨false, b⟩] := by
  refine ⟨by simp, fun i hi => ?_, fun i hi => ?_⟩
  · have h0 : i = 0 := by simpa using hi
    subst h0
    show b.length ≤ 10000
    omega
  · have h0 : i = 0 := by simpa using hi
    subst h0
    exact hok
theorem aloneD (b : List UInt8) (hok : PairOK b) (hl : b.length ≤ 300) (f : Fr) (handler off second : Bool) (hp : f.pos ≤ 20000) (hf : f.held ≤ 1000) (w : World) :
    Calls Try.prog 118 #[.string (Wd.mkS b), .agg #[.bool f.there, .int .i64 (f.item : Int), .int .i64 (f.pos : Int), .int .i64 (f.held : Int)], .bool handler, .bool off, .bool second] w fun e w' => e = .returned (.tuple #[.int .u8 (alone b f handler off second).1, .agg #[.bool (alone b f handler off second).2.1.there, .int .i64 ((alone b f handler off second).2.1.item : Int), .int .i64 ((alone b f handler off second).2.1.pos : Int), .int .i64 ((alone b f handler off second).2.1.held : Int)], .bool (alone b f handler off second).2.2]) ∧ Below w.heap.size w w' :=
  alone_any w [⟨false, b⟩] (oneIts b hok hl) 0 f handler off second (by simp) hp hf
theorem atD (b : List UInt8) (hl : b.length ≤ 300) (p : Nat) (hp : p ≤ 20000) (w : World) : Calls Try.prog 93 #[.string (Wd.mkS b), .int .i64 p] w fun e w' => e = .returned (.int .u8 (atB b p)) ∧ w' = w := by
  have := at_any (Wd.mkS b) p w (by rw [Wd.mkS_size]; omega) hp
  rwa [Wd.mkS_list] at this
theorem numberD (b : List UInt8) (hok : PairOK b) (hl : b.length ≤ 300) (p : Nat) (hp : p ≤ 20000) (hc : atB b p = 43 ∨ atB b p = 45 ∨ atB b p = 114 ∨ atB b p = 119) (w : World) : Calls Try.prog 94 #[.string (Wd.mkS b), .int .i64 p] w fun e w' => e = .returned (.int .i64 (num b p)) ∧ w' = w := by
  have := number_any (Wd.mkS b) p w (by rw [Wd.mkS_size]; omega) hp (fun h => by
    rw [Wd.mkS_size] at h
    rw [Wd.mkS_list]
    have hpl : p < b.length := by omega
    have hk := hok p hpl
    have ha : atB b p = Wd.at_ b p := by simp [atB, hpl]
    rw [ha] at hc
    rcases hc with e | e | e | e
    · have := (hk.1 (Or.inl e)).2.1; omega
    · have := (hk.1 (Or.inr e)).2.1; omega
    · have := (hk.2 (Or.inl e)).2.1; omega
    · have := (hk.2 (Or.inr e)).2.1; omega)
  rwa [Wd.mkS_list] at this
theorem alone_letter45 {b : List UInt8} (hok : PairOK b) {p h : Nat} {hd off : Bool} (hc : atB b p = 45 ∨ atB b p = 60 ∨ atB b p = 62) : (faultP hd b p h off = 0 ∧ (alone b ⟨false, 0, p, h⟩ hd off false).1 = atB b p) ∨ ((faultP hd b p h off = 85 ∨ faultP hd b p h off = 73) ∧ (alone b ⟨false, 0, p, h⟩ hd off false).1 = faultP hd b p h off) := by
  unfold alone faultP
  by_cases e45 : atB b p = 45
  · rw [hasB_num hok (Or.inr e45)]
    cases hq : holds h (num b p).toNat <;> simp [e45, hq]
  · have e60 : atB b p = 60 ∨ atB b p = 62 := by omega
    have n43 : atB b p ≠ 43 := by omega
    have n122 : atB b p ≠ 122 := by omega
    cases hd <;> simp [e45, e60, n43, n122]
set_option maxRecDepth 100000 in
theorem wrongB (hd : Bool) (b : List UInt8) (p s h : Nat) (off : Bool) (w : World) (hl : b.length ≤ 300) (hp : p ≤ 20000) (hs : s < 128) (hok : PairOK b) (hh : s / 2 = h) (hm : (s : Int) % 2 = cond off 1 0) :
    Calls Try.prog 91 #[.agg #[.bool hd, .string (Wd.mkS b)], .int .i64 p, .int .i64 s] w fun e w' => e = .returned (.int .u8 (faultP hd b p h off)) ∧ Below w.heap.size w w' := by
  have hq : (s : Int) / 2 = (h : Int) := by omega
  have hh64 : h < 64 := by omega
  have hsI : (s : Int) < 128 := by omega
  have AA := hide (fun W => atD b hl p hp W)
  have AL : Hid (∀ W, Calls Try.prog 118 #[.string (Wd.mkS b), .agg #[.bool false, .int .i64 0, .int .i64 (p : Int), .int .i64 (h : Int)], .bool hd, .bool off, .bool false] W fun e w' => ∃ v, e = .returned (.tuple #[.int .u8 (alone b ⟨false, 0, p, h⟩ hd off false).1, .agg #[.bool (alone b ⟨false, 0, p, h⟩ hd off false).2.1.there, .int .i64 ((alone b ⟨false, 0, p, h⟩ hd off false).2.1.item : Int), .int .i64 ((alone b ⟨false, 0, p, h⟩ hd off false).2.1.pos : Int), .int .i64 ((alone b ⟨false, 0, p, h⟩ hd off false).2.1.held : Int)], .bool v]) ∧ Below W.heap.size W w') := hide (fun W => (aloneD b hok hl ⟨false, 0, p, h⟩ hd off false hp (by show h ≤ 1000; omega) W).mono (fun e w' h => ⟨_, h⟩))
  have AN := hide (fun hc W => numberD b hok hl p hp hc W)
  have AH := hide (fun l W (hl : l ≤ 20) => holds_any h l W (by omega) hl)
  have HB := hide (below_one w (.cells #[.bool hd, .string (Wd.mkS b)] 31))
  have hbd := atB_bd b p
  have HOK := hide hok
  clear hok hh
  by_cases h101 : atB b p = 101
  · have hF : Hid (faultP hd b p h off = if (h == 0) = false ∨ (off = true ∧ hd = false) then 69 else 0) := hide (by unfold faultP; rw [if_neg (by omega), if_neg (by omega), if_neg (by omega), if_neg (by omega), if_pos h101])
    rw [h101] at AA
    rw [hF.out]
    clear hF AL AN AH hbd h101
    by_cases h0 : h = 0
    · subst h0
      cases off <;> cases hd <;> (
        go_enter Try.func91, Try.ntmps91
        go_wp2_with (first | (go_at_call 93; refine (AA.out _).mono ?_; rintro e w' ⟨rfl, hww⟩; obtain rfl := hww.symm; clear hww))
        go_ret
        exact ⟨rfl, HB.out⟩)
    · have hpos : (0 : Int) < (h : Int) := by omega
      have h0' : (h == 0) = false := by simpa using h0
      rw [if_pos (Or.inl h0')]
      clear h0 h0'
      go_enter Try.func91, Try.ntmps91
      go_wp2_with (first | (go_at_call 93; refine (AA.out _).mono ?_; rintro e w' ⟨rfl, hww⟩; obtain rfl := hww.symm; clear hww))
      go_ret
      exact ⟨rfl, HB.out⟩
  by_cases h43 : atB b p = 43
  · have hF : Hid (faultP hd b p h off = if holds h (num b p).toNat = true then 68 else 0) := hide (by unfold faultP; rw [if_pos h43, hasB_num HOK.out (Or.inl h43)])
    have hnl := num_lockB HOK.out (Or.inl h43)
    have AN' := hide (AN.out (Or.inl h43))
    rw [h43] at AA
    rw [hF.out]
    clear hF AL AN hbd h43 h101
    obtain ⟨l, hl'⟩ : ∃ l : Nat, num b p = (l : Int) := ⟨(num b p).toNat, by omega⟩
    rw [hl'] at AN' ⊢
    rw [show ((l : Int)).toNat = l from rfl]
    have hl20 : l ≤ 20 := by omega
    have AH' := hide (fun W => AH.out l W hl20)
    clear hl' AH hnl
    generalize holds h l = o at *
    cases o <;> (
      go_enter Try.func91, Try.ntmps91
      go_wp2_with (first | (go_at_call 93; refine (AA.out _).mono ?_; rintro e w' ⟨rfl, hww⟩; obtain rfl := hww.symm; clear hww) | (go_at_call 94; refine (AN'.out _).mono ?_; rintro e w' ⟨rfl, hww⟩; obtain rfl := hww.symm; clear hww) | (go_at_call 95; refine (AH'.out _).mono ?_; rintro e w' ⟨rfl, hww⟩; obtain rfl := hww.symm; clear hww))
      go_ret
      exact ⟨rfl, HB.out⟩)
  by_cases h122 : atB b p = 122
  · have hF : Hid (faultP hd b p h off = if hd = true ∨ off = true ∨ (h == 0) = false then 83 else 0) := hide (by unfold faultP; rw [if_neg (by omega), if_neg (by omega), if_pos h122])
    rw [h122] at AA
    rw [hF.out]
    clear hF AL AN AH hbd h122 h43 h101
    by_cases h0 : h = 0
    · subst h0
      cases off <;> cases hd <;> (
        go_enter Try.func91, Try.ntmps91
        go_wp2_with (first | (go_at_call 93; refine (AA.out _).mono ?_; rintro e w' ⟨rfl, hww⟩; obtain rfl := hww.symm; clear hww))
        go_ret
        exact ⟨rfl, HB.out⟩)
    · have hpos : (0 : Int) < (h : Int) := by omega
      have h0' : (h == 0) = false := by simpa using h0
      rw [if_pos (Or.inr (Or.inr h0'))]
      clear h0 h0'
      cases hd <;> (
        go_enter Try.func91, Try.ntmps91
        go_wp2_with (first | (go_at_call 93; refine (AA.out _).mono ?_; rintro e w' ⟨rfl, hww⟩; obtain rfl := hww.symm; clear hww))
        go_ret
        exact ⟨rfl, HB.out⟩)
  by_cases h45 : atB b p = 45 ∨ atB b p = 60 ∨ atB b p = 62
  · have hal := alone_letter45 HOK.out (h := h) (hd := hd) (off := off) h45
    generalize (alone b ⟨false, 0, p, h⟩ hd off false).1 = t at *
    generalize (alone b ⟨false, 0, p, h⟩ hd off false).2.1.there = t1 at *
    generalize (alone b ⟨false, 0, p, h⟩ hd off false).2.1.item = t2 at *
    generalize (alone b ⟨false, 0, p, h⟩ hd off false).2.1.pos = t3 at *
    generalize (alone b ⟨false, 0, p, h⟩ hd off false).2.1.held = t4 at *
    generalize faultP hd b p h off = F at *
    clear AN AH hbd h122 h43 h101
    generalize atB b p = c at *
    rcases hal with ⟨rfl, rfl⟩ | ⟨hF | hF, rfl⟩
    · rcases h45 with rfl | rfl | rfl <;> cases off <;> (
        go_enter Try.func91, Try.ntmps91
        go_wp2_with (first | (go_at_call 93; refine (AA.out _).mono ?_; rintro e w' ⟨rfl, hww⟩; obtain rfl := hww.symm; clear hww) | (go_at_call 118; refine (AL.out _).mono ?_; rintro e w' ⟨v, rfl, hb1⟩; have HB1 := hide (below_new (below_go HB.out hb1)); clear hb1))
        go_ret
        exact ⟨rfl, HB1.out _⟩)
    · subst hF
      rcases h45 with rfl | rfl | rfl <;> cases off <;> (
        go_enter Try.func91, Try.ntmps91
        go_wp2_with (first | (go_at_call 93; refine (AA.out _).mono ?_; rintro e w' ⟨rfl, hww⟩; obtain rfl := hww.symm; clear hww) | (go_at_call 118; refine (AL.out _).mono ?_; rintro e w' ⟨v, rfl, hb1⟩; have HB1 := hide (below_new (below_go HB.out hb1)); clear hb1))
        go_ret
        exact ⟨rfl, HB1.out _⟩)
    · subst hF
      rcases h45 with rfl | rfl | rfl <;> cases off <;> (
        go_enter Try.func91, Try.ntmps91
        go_wp2_with (first | (go_at_call 93; refine (AA.out _).mono ?_; rintro e w' ⟨rfl, hww⟩; obtain rfl := hww.symm; clear hww) | (go_at_call 118; refine (AL.out _).mono ?_; rintro e w' ⟨v, rfl, hb1⟩; have HB1 := hide (below_new (below_go HB.out hb1)); clear hb1))
        go_ret
        exact ⟨rfl, HB1.out _⟩)
  · have hF : Hid (faultP hd b p h off = 0) := hide (by unfold faultP; rw [if_neg h43, if_neg (by omega), if_neg h122, if_neg (by omega), if_neg h101])
    rw [hF.out]
    have m45 : atB b p ≠ 45 := by omega
    have m60 : atB b p ≠ 60 := by omega
    have m62 : atB b p ≠ 62 := by omega
    clear hF AL AN AH h45
    generalize atB b p = c at *
    go_enter Try.func91, Try.ntmps91
    go_wp2_with (first | (go_at_call 93; refine (AA.out _).mono ?_; rintro e w' ⟨rfl, hww⟩; obtain rfl := hww.symm; clear hww))
    all_goals first | (exfalso; omega) | (go_ret; exact ⟨rfl, HB.out⟩)
theorem wrong_any (hd : Bool) (b : List UInt8) (p s : Nat) (w : World) (hl : b.length ≤ 300) (hp : p ≤ 20000) (hs : s < 128) (hok : PairOK b) :
    Calls Try.prog 91 #[.agg #[.bool hd, .string (Wd.mkS b)], .int .i64 p, .int .i64 s] w fun e w' => e = .returned (.int .u8 (wrD hd b p s)) ∧ Below w.heap.size w w' :=
  wrongB hd b p s (s / 2) (decide (s % 2 = 1)) w hl hp hs hok rfl (by by_cases h : s % 2 = 1 <;> simp [h] <;> omega)
end Go.Proofs.Ytecmfdkhcffpmaa
/- Contracts of the document's states: what follows. -/
namespace Go.Proofs.Ytecmfdkhcffpmaa
open Go.RowKit
set_option linter.unusedSimpArgs false
set_option linter.unusedVariables false
set_option maxHeartbeats 8000000
open Mc

set_option maxRecDepth 100000 in
theorem followsB (hd : Bool) (b : List UInt8) (p s h : Nat) (off k : Bool) (w : World) (hl : b.length ≤ 300) (hp : p ≤ 20000) (hs : s < 128) (hok : PairOK b) (hh : s / 2 = h) (hm : (s : Int) % 2 = cond off 1 0) (hal : (alone b ⟨false, 0, p, h⟩ hd off k).2.1.pos ≤ 20000 ∧ (alone b ⟨false, 0, p, h⟩ hd off k).2.1.held < 64) :
    Calls Try.prog 150 #[.agg #[.bool hd, .string (Wd.mkS b)], .int .i64 p, .int .i64 s, .bool k] w fun e w' => e = .returned (.tuple #[.int .i64 (if atB b p = 43 then (p : Int) + 2 else if atB b p = 122 then (p : Int) + 1 else ((alone b ⟨false, 0, p, h⟩ hd off k).2.1.pos : Int)), .int .i64 (if atB b p = 43 then 2 * ((h : Int) + (2 ^ (num b p).toNat : Nat)) + cond off 1 0 else if atB b p = 122 then (s : Int) else 2 * ((alone b ⟨false, 0, p, h⟩ hd off k).2.1.held : Int) + cond (alone b ⟨false, 0, p, h⟩ hd off k).2.2 1 0)]) ∧ Below w.heap.size w w' := by
  have hq : (s : Int) / 2 = (h : Int) := by omega
  have hh64 : h < 64 := by omega
  have hsI : (s : Int) < 128 := by omega
  have hpI : (p : Int) ≤ 20000 := by omega
  have AA := hide (fun W => atD b hl p hp W)
  have AL : Hid (∀ W, Calls Try.prog 118 #[.string (Wd.mkS b), .agg #[.bool false, .int .i64 0, .int .i64 (p : Int), .int .i64 (h : Int)], .bool hd, .bool off, .bool k] W fun e w' => e = .returned (.tuple #[.int .u8 (alone b ⟨false, 0, p, h⟩ hd off k).1, .agg #[.bool (alone b ⟨false, 0, p, h⟩ hd off k).2.1.there, .int .i64 ((alone b ⟨false, 0, p, h⟩ hd off k).2.1.item : Int), .int .i64 ((alone b ⟨false, 0, p, h⟩ hd off k).2.1.pos : Int), .int .i64 ((alone b ⟨false, 0, p, h⟩ hd off k).2.1.held : Int)], .bool (alone b ⟨false, 0, p, h⟩ hd off k).2.2]) ∧ Below W.heap.size W w') := hide (fun W => aloneD b hok hl ⟨false, 0, p, h⟩ hd off k hp (by show h ≤ 1000; omega) W)
  have AN := hide (fun hc W => numberD b hok hl p hp hc W)
  have HB := hide (below_one w (.cells #[.bool hd, .string (Wd.mkS b)] 31))
  have hbd := atB_bd b p
  have HOK := hide hok
  have HAL := hide hal
  clear hok hh hal
  by_cases h43 : atB b p = 43
  · have hnl := num_lockB HOK.out (Or.inl h43)
    have AN' := hide (AN.out (Or.inl h43))
    rw [h43] at AA
    simp only [h43, if_true]
    clear AL AN hbd h43
    obtain ⟨l, hl'⟩ : ∃ l : Nat, num b p = (l : Int) := ⟨(num b p).toNat, by omega⟩
    rw [hl'] at AN' ⊢
    rw [show ((l : Int)).toNat = l from rfl]
    have hl5 : l < 6 := by omega
    have hpw : 2 ^ l < 64 := by
      have hpp : ∀ l, l < 6 → 2 ^ l < 64 := by decide
      exact hpp l hl5
    have AP : Hid (∀ W, Calls Try.prog 124 #[.int .i64 l] W fun e w' => e = .returned (.int .i64 ((2 ^ l : Nat) : Int)) ∧ w' = W) := hide (fun W => power_any l W (by omega))
    clear hl' hnl
    generalize 2 ^ l = v at *
    have hv : (v : Int) < 64 := by omega
    cases off <;> (
      go_enter Try.func150, Try.ntmps150
      go_wp2_with (first | (go_at_call 93; refine (AA.out _).mono ?_; rintro e w' ⟨rfl, hww⟩; obtain rfl := hww.symm; clear hww) | (go_at_call 94; refine (AN'.out _).mono ?_; rintro e w' ⟨rfl, hww⟩; obtain rfl := hww.symm; clear hww) | (go_at_call 124; refine (AP.out _).mono ?_; rintro e w' ⟨rfl, hww⟩; obtain rfl := hww.symm; clear hww))
      go_ret2
      exact ⟨rfl, HB.out⟩)
  by_cases h122 : atB b p = 122
  · rw [h122] at AA
    simp only [h122, if_true]
    rw [if_neg (by decide), if_neg (by decide)]
    clear AL AN hbd h43 h122
    go_enter Try.func150, Try.ntmps150
    go_wp2_with (first | (go_at_call 93; refine (AA.out _).mono ?_; rintro e w' ⟨rfl, hww⟩; obtain rfl := hww.symm; clear hww))
    go_ret2
    exact ⟨rfl, HB.out⟩
  · simp only [h43, h122, if_false]
    clear AN
    have hal := HAL.out
    generalize (alone b ⟨false, 0, p, h⟩ hd off k).1 = t at *
    generalize (alone b ⟨false, 0, p, h⟩ hd off k).2.1.there = t1 at *
    generalize (alone b ⟨false, 0, p, h⟩ hd off k).2.1.item = t2 at *
    generalize (alone b ⟨false, 0, p, h⟩ hd off k).2.1.pos = t3 at *
    generalize (alone b ⟨false, 0, p, h⟩ hd off k).2.1.held = t4 at *
    generalize (alone b ⟨false, 0, p, h⟩ hd off k).2.2 = t5 at *
    generalize atB b p = c at *
    have ht3 : (t3 : Int) ≤ 20000 := by omega
    have ht4 : (t4 : Int) < 64 := by omega
    cases off <;> cases t5 <;> (
      go_enter Try.func150, Try.ntmps150
      go_wp2_with (first | (go_at_call 93; refine (AA.out _).mono ?_; rintro e w' ⟨rfl, hww⟩; obtain rfl := hww.symm; clear hww) | (go_at_call 118; refine (AL.out _).mono ?_; rintro e w' ⟨rfl, hb1⟩; have HB1 := hide (below_go HB.out hb1); clear hb1))
      go_quiet (fail)
      go_wp2
      go_ret2
      exact ⟨by simp, below_drewN (below_new HB1.out _) _⟩)
set_option maxRecDepth 100000 in
theorem follows_any (hd : Bool) (b : List UInt8) (p s : Nat) (k : Bool) (w : World) (hg : GB b) (hs : s < 128) (hpl : Pl b p) (hp : p < b.length) (hw : wrD hd b p s = 0) :
    Calls Try.prog 150 #[.agg #[.bool hd, .string (Wd.mkS b)], .int .i64 p, .int .i64 s, .bool k] w fun e w' => e = .returned (.tuple #[.int .i64 ((folD b p s k).1 : Int), .int .i64 ((folD b p s k).2 : Int)]) ∧ Below w.heap.size w w' := by
  have hsh := hg.short
  have hm : (s : Int) % 2 = cond (decide (s % 2 = 1)) 1 0 := by by_cases h : s % 2 = 1 <;> simp [h] <;> omega
  have hn := fun h43 => alone_next hg (second := k) hpl hp (show faultP hd b p (s / 2) (decide (s % 2 = 1)) = 0 from hw) h43 ⟨false, 0, p, s / 2⟩ rfl rfl
  have hin : SOK b (stOf p s) := ⟨by show s / 2 < 64; omega, hpl⟩
  have hnx := (hin.stp hg (hd := hd) k)
  have hst : Mc.stp hd b (stOf p s) k = nextP b p (s / 2) (decide (s % 2 = 1)) k := by
    unfold Mc.stp stepS
    rw [if_pos (show faultP hd b (stOf p s).1 (stOf p s).2.1 (stOf p s).2.2 = 0 from hw)]
    rfl
  rw [hst] at hnx
  have hle := hnx.2.le
  have h64 := hnx.1
  have hal : atB b p ≠ 43 → (alone b ⟨false, 0, p, s / 2⟩ hd (decide (s % 2 = 1)) k).2.1.pos ≤ 20000 ∧ (alone b ⟨false, 0, p, s / 2⟩ hd (decide (s % 2 = 1)) k).2.1.held < 64 := fun h43 => by
    obtain ⟨e1, e2, e3⟩ := hn h43
    rw [e1, e2]
    exact ⟨by omega, h64⟩
  have hal' : (alone b ⟨false, 0, p, s / 2⟩ hd (decide (s % 2 = 1)) k).2.1.pos ≤ 20000 ∧ (alone b ⟨false, 0, p, s / 2⟩ hd (decide (s % 2 = 1)) k).2.1.held < 64 := by
    by_cases h43 : atB b p = 43
    · unfold alone
      have hb : behind b p k = p + 2 := by simp [behind, h43]
      simp only [h43]
      rw [if_neg (by decide), if_neg (by decide)]
      show behind b p k ≤ 20000 ∧ s / 2 < 64
      rw [hb]; omega
    · exact hal h43
  refine (followsB hd b p s (s / 2) (decide (s % 2 = 1)) k w hsh (by omega) hs hg.pair rfl hm hal').mono ?_
  rintro e w' ⟨rfl, hb⟩
  refine ⟨?_, hb⟩
  congr 3
  have key : ∀ a a' c c' : Int, a = a' → c = c' → [Value.int .i64 a, Value.int .i64 c] = [Value.int .i64 a', Value.int .i64 c'] := fun a a' c c' h1 h2 => by rw [h1, h2]
  apply key
  · unfold folD
    by_cases h43 : atB b p = 43
    · simp [nextP, h43]
    · rw [if_neg h43]
      by_cases h122 : atB b p = 122
      · simp [nextP, h122]
      · rw [if_neg h122, (hn h43).1]
  · unfold folD dn
    by_cases h43 : atB b p = 43
    · simp only [nextP, h43, if_true]
      by_cases h : s % 2 = 1 <;> simp [h]
    · rw [if_neg h43]
      by_cases h122 : atB b p = 122
      · rw [if_pos h122]
        have := dn_st s
        unfold dn at this
        simp only [nextP, h122]
        simp
        omega
      · rw [if_neg h122, (hn h43).2.1, (hn h43).2.2]
        generalize (nextP b p (s / 2) (decide (s % 2 = 1)) k).2.2 = o
        cases o <;> simp
end Go.Proofs.Ytecmfdkhcffpmaa
