/- FnA, StR, StM, StN. -/
import Derived.Test.YtecmfdkhcffpmaaB13
import Derived.Test.YtecmfdkhcffpmaaB25
import Derived.Test.YtecmfdkhcffpmaaB28
import Derived.Test.YtecmfdkhcffpmaaB43
import Derived.Test.YtecmfdkhcffpmaaB40
import Derived.Test.YtecmfdkhcffpmaaB38
import Derived.Test.YtecmfdkhcffpmaaB42
import Derived.Test.YtecmfdkhcffpmaaB41
/- Contract of the document's 'ends': a script ends with what a report tells. -/
namespace Go.Proofs.Ytecmfdkhcffpmaa
open Go.RowKit
set_option linter.unusedSimpArgs false
set_option linter.unusedVariables false
set_option maxHeartbeats 8000000
open Mc

/-- Whether a script's first bad letter is what a report tells. -/
def endsB (its : List Wd.It) (K I P : Int) : Ma → List UInt8 → Bool
  | S, _ :: o :: r => if bad (command its S 1 0 (Wd.bt o)).1 = true then (kindD (command its S 1 0 (Wd.bt o)).1 == K && ((works S 0).there && (((works S 0).item : Int) == I && ((works S 0).pos : Int) == P))) else endsB its K I P (command its S 1 0 (Wd.bt o)).2 r
  | _, _ => false
theorem endsB_cons (its : List Wd.It) (K I P : Int) (S : Ma) (s : ByteArray) (k : Nat) (h : k + 1 < s.size) : endsB its K I P S (s.data.toList.drop k) = if bad (command its S 1 0 ((s[k + 1].toNat : Nat) : Int)).1 = true then (kindD (command its S 1 0 ((s[k + 1].toNat : Nat) : Int)).1 == K && ((works S 0).there && (((works S 0).item : Int) == I && ((works S 0).pos : Int) == P))) else endsB its K I P (command its S 1 0 ((s[k + 1].toNat : Nat) : Int)).2 (s.data.toList.drop (k + 2)) := by
  rw [Wd.drop_cons s k (by omega), Wd.drop_cons s (k + 1) h]; rfl
theorem endsB_end (its : List Wd.It) (K I P : Int) (S : Ma) (s : ByteArray) (k : Nat) (h : ¬ k + 1 < s.size) : endsB its K I P S (s.data.toList.drop k) = false := by
  have hl : (s.data.toList.drop k).length ≤ 1 := by rw [List.length_drop, Wd.len_str]; omega
  generalize s.data.toList.drop k = l at hl
  match l, hl with
  | [], _ => rfl
  | [_], _ => rfl
set_option maxRecDepth 100000 in
theorem ends_yes (w : World) (its : List Wd.It) (ai : Option Addr) (ci : Nat) (s : ByteArray) (K I P : Int) (hf : Fine its) (hs : s.size ≤ 200000) (hci : its.length ≤ ci ∧ ci ≤ maxLen) (hit : 0 < its.length → ∃ g, ai = some ⟨g, 0, none⟩ ∧ Blk w g (its.length * 2) (itF its)) (hsc : scriptB (1 : Nat) s.data.toList = true) (hends : endsB its K I P (begin_ its) s.data.toList = true) :
    Calls Try.prog 66 #[.slice ai its.length ci, .string s, .agg #[.int .i64 K, .int .i64 I, .int .i64 P]] w fun e w' => e = .returned (.bool true) ∧ Below w.heap.size w w' := by
  have HF := hide hf
  have hl8 := hf.len
  have HR0 := hide (Row.new w #[.int .i64 K, .int .i64 I, .int .i64 P] 41)
  have HB0 := hide (below_one w (.cells #[.int .i64 K, .int .i64 I, .int .i64 P] 41))
  have AB := hide (begin_any (w.alloc (.cells #[.int .i64 K, .int .i64 I, .int .i64 P] 41)) its 1 ai ci (by decide) (by omega) hci (fun h => by obtain ⟨g, h1, h2⟩ := hit h; exact ⟨g, h1, h2.below ((Below.refl _ _).alloc (Nat.le_refl _) _)⟩))
  have HE := hide hends
  have HSC := hide hsc
  clear hf hci hit hsc hends
  go_enter Try.func66, Try.ntmps66
  go_wp2_with fail
  have hw1 : (w.alloc (.cells #[.int .i64 K, .int .i64 I, .int .i64 P] 41)).heap.size = w.heap.size + 1 := by simp
  rw [hw1] at AB
  go_at_call 55
  refine AB.out.mono ?_
  rintro e w3 ⟨b, A, rfl, e1, e2, e3, hm3, hb3⟩
  have HB3 := hide (below_go HB0.out (by rw [hw1]; exact hb3))
  have HR3 := hide (HR0.out.below (by rw [hw1]; exact hb3))
  have HAL : Hid (A.lt its.length b w3.heap.size) := hide ⟨hm3.root.lt, hm3.cpus.lt, hm3.at_.lt, fun h g e => by obtain ⟨g', k1, k2, _⟩ := hm3.items h; rw [k1] at e; cases e; exact k2.lt, e3⟩
  have HM3 := hide hm3
  have hsz3 : w.heap.size + 1 ≤ w3.heap.size := by have := hb3.size; omega
  clear hm3 hb3 e1 e2 e3 AB HB0 HR0 hw1
  generalize hBB : w3.heap.size = B at *
  have HBB := hide hBB
  clear hBB
  go_wp2
  go_loopw [8] (fun c wr => ∃ (k : Nat) (S : Ma), k ≤ s.size ∧ c = .int .i64 k ∧ DM wr (w.heap.size + 1) b A its 1 S ∧ Mc.Inv its 1 S ∧ scriptB (1 : Nat) (s.data.toList.drop k) = true ∧ endsB its K I P S (s.data.toList.drop k) = true ∧ Row wr w.heap.size #[.int .i64 K, .int .i64 I, .int .i64 P] 41 ∧ Below w.heap.size w wr ∧ B ≤ wr.heap.size) (fun c _ => s.size - (intOf c).toNat)
  case atStart => exact ⟨0, begin_ its, by omega, rfl, HM3.out, Inv.begin_ its 1, HSC.out, HE.out, HR3.out, HB3.out, by rw [HBB.out]; exact Nat.le_refl _⟩
  case round =>
    obtain ⟨k, S, hk, rfl, hm, hinv, hscr, hen, hrow, hbe, hbs⟩ := hrel
    have HM := hide hm
    have HI := hide hinv
    have HSR := hide hscr
    have HEN := hide hen
    have HRW := hide hrow
    have HB := hide hbe
    clear hm hinv hscr hen hrow hbe HM3 HB3 HSC HBB HE HR3
    by_cases hlt : k + 1 < s.size
    · obtain ⟨q1, q2, q3, q4⟩ := script_at hlt HSR.out
      have HQ4 := hide q4
      have hcl := command_letter its S 1 0 ((s[k + 1].toNat : Nat) : Int)
      have hbo : (0 : Int) ≤ ((s[k + 1].toNat : Nat) : Int) ∧ ((s[k + 1].toNat : Nat) : Int) ≤ 255 := by have := s[k + 1].toNat_lt; omega
      have HIN := hide (HI.out.command HF.out.ok 0 (by decide) ((s[k + 1].toNat : Nat) : Int))
      have AC := hide (fun W (hW : DM W (w.heap.size + 1) b A its 1 S) => command_any W (w.heap.size + 1) b A its 1 S 0 ((s[k + 1].toNat : Nat) : Int) hW HF.out.ok HI.out (by decide) (by decide) hbo.1 hbo.2 q3)
      have AW := hide (fun W (hW : DM W (w.heap.size + 1) b A its 1 S) => works_any W (w.heap.size + 1) b A its 1 S 0 hW (by decide) (by decide))
      have HEC := hide (endsB_cons its K I P S s k hlt)
      rw [HEN.out] at HEC
      clear q1 q2 q3 q4 HEN
      generalize command its S 1 0 ((s[k + 1].toNat : Nat) : Int) = R at *
      obtain ⟨L, S'⟩ := R
      simp only at hcl HIN HEC AC
      generalize works S 0 = f at *
      have ABd := hide (fun W => bad_any L W hcl.1 hcl.2)
      have AKd := hide (fun W => kind_any L W hcl.1 hcl.2)
      cases hbad : bad L
      · rw [hbad] at ABd HEC
        have HEX := hide (show endsB its K I P S' (s.data.toList.drop (k + 2)) = true by have := HEC.out; simp at this; exact this)
        clear HEC AKd
        go_wp2_with fail
        go_at_call 102
        refine (AW.out _ HM.out).mono ?_
        rintro e w1 ⟨rfl, hb1⟩
        have HM1 := hide (HM.out.below hb1)
        have HR1 := hide (HRW.out.below hb1)
        have HB1 := hide (below_go HB.out hb1)
        have hbs1 : B ≤ w1.heap.size := Nat.le_trans hbs hb1.size
        clear hb1
        go_wp2_with (first | (refine wpList_store_row rfl 131 _ _ rfl w1.heap.size (frV f).toArray rfl rfl 131 #[.bool false, .int .i64 0, .int .i64 0, .int .i64 0] ?_ Try.iFrame rfl (by simp [frV, Value.oneCell']) ?_; (exact (Row.new w1 #[.bool false, .int .i64 0, .int .i64 0, .int .i64 0] 131).raw); rw [World.setRow_alloc_new]; have HM2 := hide (HM1.out.alloc (.cells (frV f).toArray 131)); have HF2 := hide (Row.new w1 (frV f).toArray 131); have HR2 := hide (HR1.out.alloc (.cells (frV f).toArray 131)); have HB2 := hide (HB1.out.alloc HB1.out.size (.cells (frV f).toArray 131)); have hg2 : B ≤ w1.heap.size := hbs1; generalize w1.alloc (.cells (frV f).toArray 131) = w2 at *; have hs2 : w1.heap.size < w2.heap.size := HF2.out.lt))
        go_at_call 56
        refine (AC.out _ HM2.out).mono ?_
        rintro e w4 ⟨rfl, hm4, hk4⟩
        have HM4 := hide hm4
        have HK4 := hide hk4
        have HDB := hide (Kp.dm HM2.out hk4 (by omega))
        have HR4 := hide (HR2.out.same (HDB.out.block _ (by omega)))
        have HB4 := hide (HB2.out.trans (HDB.out.mono (by omega)))
        have hbs4 : B ≤ w4.heap.size := by have := hk4.size; omega
        have HF4 := hide (HF2.out.same (hk4.same _ hs2 (fun e => by have := HAL.out.g1; omega) (fun e => by have := HAL.out.g3; omega) (fun e => by have := HAL.out.a2 _ e; omega)))
        clear hm4 hk4
        go_wp2_with (first | (go_at_call 57; refine (ABd.out _).mono ?_; rintro e w' ⟨rfl, hww⟩; obtain rfl := hww.symm; clear hww))
        go_round
        case measure => simp [intOf]; omega
        case rel => exact ⟨k + 2, S', by omega, by go_num, HM4.out, HIN.out, HQ4.out, HEX.out, HR4.out, HB4.out, hbs4⟩
      · rw [hbad] at ABd HEC
        obtain ⟨x1, x2, x3, x4⟩ : kindD L = K ∧ f.there = true ∧ (f.item : Int) = I ∧ (f.pos : Int) = P := by
          have := HEC.out
          simp at this
          exact this
        rw [x1] at AKd
        have HX2 := hide x2
        have HX3 := hide x3
        have HX4 := hide x4
        clear HEC x1 x2 x3 x4
        go_wp2_with fail
        go_at_call 102
        refine (AW.out _ HM.out).mono ?_
        rintro e w1 ⟨rfl, hb1⟩
        have HM1 := hide (HM.out.below hb1)
        have HR1 := hide (HRW.out.below hb1)
        have HB1 := hide (below_go HB.out hb1)
        have hbs1 : B ≤ w1.heap.size := Nat.le_trans hbs hb1.size
        clear hb1
        go_wp2_with (first | (refine wpList_store_row rfl 131 _ _ rfl w1.heap.size (frV f).toArray rfl rfl 131 #[.bool false, .int .i64 0, .int .i64 0, .int .i64 0] ?_ Try.iFrame rfl (by simp [frV, Value.oneCell']) ?_; (exact (Row.new w1 #[.bool false, .int .i64 0, .int .i64 0, .int .i64 0] 131).raw); rw [World.setRow_alloc_new]; have HM2 := hide (HM1.out.alloc (.cells (frV f).toArray 131)); have HF2 := hide (Row.new w1 (frV f).toArray 131); have HR2 := hide (HR1.out.alloc (.cells (frV f).toArray 131)); have HB2 := hide (HB1.out.alloc HB1.out.size (.cells (frV f).toArray 131)); have hg2 : B ≤ w1.heap.size := hbs1; generalize w1.alloc (.cells (frV f).toArray 131) = w2 at *; have hs2 : w1.heap.size < w2.heap.size := HF2.out.lt))
        go_at_call 56
        refine (AC.out _ HM2.out).mono ?_
        rintro e w4 ⟨rfl, hm4, hk4⟩
        have HM4 := hide hm4
        have HK4 := hide hk4
        have HDB := hide (Kp.dm HM2.out hk4 (by omega))
        have HR4 := hide (HR2.out.same (HDB.out.block _ (by omega)))
        have HB4 := hide (HB2.out.trans (HDB.out.mono (by omega)))
        have hbs4 : B ≤ w4.heap.size := by have := hk4.size; omega
        have HF4 := hide (HF2.out.same (hk4.same _ hs2 (fun e => by have := HAL.out.g1; omega) (fun e => by have := HAL.out.g3; omega) (fun e => by have := HAL.out.a2 _ e; omega)))
        clear hm4 hk4
        have y0 : w4.cell? ⟨w.heap.size, 0, none⟩ = some (.int .i64 K) := HR4.out.cell 0 rfl
        have y1 : w4.cell? ⟨w.heap.size, 1, none⟩ = some (.int .i64 I) := HR4.out.cell 1 rfl
        have y2 : w4.cell? ⟨w.heap.size, 2, none⟩ = some (.int .i64 P) := HR4.out.cell 2 rfl
        have f0 : w4.cell? ⟨w1.heap.size, 0, none⟩ = some (.bool true) := by rw [← HX2.out]; exact HF4.out.cell 0 rfl
        have f1 : w4.cell? ⟨w1.heap.size, 1, none⟩ = some (.int .i64 I) := by rw [← HX3.out]; exact HF4.out.cell 1 rfl
        have f2 : w4.cell? ⟨w1.heap.size, 2, none⟩ = some (.int .i64 P) := by rw [← HX4.out]; exact HF4.out.cell 2 rfl
        have bK : (K == K) = true := by simp
        have bI : (I == I) = true := by simp
        have bP : (P == P) = true := by simp
        go_wp2_with (first | (go_at_call 92; refine (AKd.out _).mono ?_; rintro e w' ⟨rfl, hww⟩; obtain rfl := hww.symm; clear hww) | (go_at_call 57; refine (ABd.out _).mono ?_; rintro e w' ⟨rfl, hww⟩; obtain rfl := hww.symm; clear hww))
        go_ret
        exact ⟨rfl, HB4.out⟩
    · exfalso
      have := HEN.out
      rw [endsB_end its K I P S s k hlt] at this; cases this
end Go.Proofs.Ytecmfdkhcffpmaa
/- Contracts of the program's Show: the way to a state. -/
namespace Go.Proofs.Ytecmfdkhcffpmaa
open Go.RowKit
set_option linter.unusedSimpArgs false
set_option linter.unusedVariables false
set_option maxHeartbeats 8000000
open Mc

/-- From a state back to the beginning. -/
def wayBack (L : List Rc) : Nat → Nat → List Rc
  | 0, _ => []
  | n + 1, i => if i = 0 then [] else match L[i]? with | none => [] | some r => r :: wayBack L n r.fr
theorem wayBack_zero (L : List Rc) (n : Nat) : wayBack L n 0 = [] := by cases n <;> simp [wayBack]
theorem wayBack_step {L : List Rc} {n i : Nat} {r : Rc} (hi : i ≠ 0) (h : L[i]? = some r) : wayBack L (n + 1) i = r :: wayBack L n r.fr := by simp [wayBack, hi, h]
/-- Enough rounds are enough. -/
theorem wayBack_more {L : List Rc} (hb : ∀ (j : Nat) (r : Rc), 0 < j → L[j]? = some r → r.fr < j) : ∀ (n m i : Nat), i ≤ n → i ≤ m → wayBack L n i = wayBack L m i := by
  intro n
  induction n with
  | zero => intro m i hi hm; have : i = 0 := by omega
            subst this; rw [wayBack_zero, wayBack_zero]
  | succ n ih =>
    intro m i hi hm
    by_cases h0 : i = 0
    · subst h0; rw [wayBack_zero, wayBack_zero]
    · cases m with
      | zero => omega
      | succ m =>
        cases hq : L[i]? with
        | none => simp [wayBack, h0, hq]
        | some r =>
          rw [wayBack_step h0 hq, wayBack_step h0 hq, ih m r.fr (by have := hb i r (by omega) hq; omega) (by have := hb i r (by omega) hq; omega)]
theorem wayBack_len (L : List Rc) : ∀ n i, (wayBack L n i).length ≤ n := by
  intro n
  induction n with
  | zero => intro i; simp [wayBack]
  | succ n ih =>
    intro i
    unfold wayBack
    split
    · simp
    · split
      · simp
      · simp; exact ih _
def wayP (L : List Rc) (i : Nat) : List Rc := (wayBack L i i).reverse
theorem RFin.fr {hd : Bool} {b : List UInt8} {L : List Rc} (h : RFin hd b L) : ∀ (j : Nat) (r : Rc), 0 < j → L[j]? = some r → r.fr < j := by
  obtain ⟨i, f, h1, h2⟩ := h
  intro j r hj hr
  obtain ⟨q, a, _⟩ := h1.back j r hj hr
  exact a
theorem rcV_ten (r : Rc) : ∃ b0 b1 b2 b3 b4 b5 : Bool, rcV r = [.int .i64 (r.p : Int), .bool b0, .bool b1, .bool b2, .bool b3, .bool b4, .bool b5, .bool r.off, .int .i64 (r.fr : Int), .bool r.comma] := ⟨_, _, _, _, _, _, rfl⟩
set_option maxRecDepth 100000 in
theorem wayTo_any (w : World) (L : List Rc) (v : Value) (b last : Nat) (hfr : ∀ (j : Nat) (r : Rc), 0 < j → L[j]? = some r → r.fr < j) (hl : L.length ≤ 100000) (hlast : last < L.length) (hv : w.ownsRow b 153 10 v L.length (L.flatMap rcV)) :
    Calls Try.prog 100 #[v, .int .i64 last] w fun e w' => ∃ ao cc, e = .returned (.slice ao (wayP L last).length cc) ∧ w'.ownsRow w.heap.size 153 10 (.slice ao (wayP L last).length cc) (wayP L last).length ((wayP L last).flatMap rcV) ∧ Below w.heap.size w w' := by
  have HO := hide hv
  obtain ⟨ga, ca, hva⟩ := own_v hv
  subst hva
  have HFR := hide hfr
  clear hv hfr
  obtain ⟨i0, hj0', hz0, hz1, hz2⟩ := info_parts Try.infoReached
  have HO0 : Hid ((w.alloc (.cells #[] 153)).ownsRow w.heap.size 153 10 (.slice (some ⟨w.heap.size, 0, none⟩) 0 0) ([] : List Rc).length (([] : List Rc).flatMap rcV)) := hide ⟨rfl, .inr ⟨w.heap.size, 0, #[], rfl, Nat.le_refl _, heap_alloc_last _ _, Nat.le_refl _, by decide, rfl, rfl⟩⟩
  have HB0 := hide (below_one w (.cells #[] 153))
  go_enter Try.func100, Try.ntmps100
  go_wp2
  generalize w.alloc (.cells #[] 153) = W at *
  go_loopw [5, 6] (fun a c wr => ∃ (i : Nat) (X : List Rc), i ≤ last ∧ c = .int .i64 i ∧ X ++ wayBack L i i = wayBack L last last ∧ wr.ownsRow w.heap.size 153 10 a X.length (X.flatMap rcV) ∧ Below w.heap.size w wr) (fun _ c _ => (intOf c).toNat)
  case atStart => exact ⟨last, [], Nat.le_refl _, rfl, rfl, HO0.out, HB0.out⟩
  case round =>
    clear HO0 HB0
    obtain ⟨i, X, hi, rfl, hX, hx, hb⟩ := hrel
    have HX := hide hX
    have HW := hide hx
    have HB := hide hb
    clear hX hx hb
    obtain ⟨ao, cc, hv⟩ := own_v HW.out
    subst hv
    have hXl : X.length ≤ 100000 := by have h1 := wayBack_len L last last; rw [← HX.out, List.length_append] at h1; omega
    have hsz := HB.out.size
    have hiL : (i : Int) < (L.length : Int) := by omega
    by_cases hi0 : i = 0
    · subst hi0
      rw [wayBack_zero, List.append_nil] at HX
      rw [show ((0 : Nat) : Int) = 0 from rfl]
      go_wp2
      have HOW0 : Hid ((wr.alloc (.cells #[] 153)).ownsRow wr.heap.size 153 10 (.slice (some ⟨wr.heap.size, 0, none⟩) 0 0) ([] : List Rc).length (([] : List Rc).flatMap rcV)) := hide ⟨rfl, .inr ⟨wr.heap.size, 0, #[], rfl, Nat.le_refl _, heap_alloc_last _ _, Nat.le_refl _, by decide, rfl, rfl⟩⟩
      have HBW0 := hide (below_one wr (.cells #[] 153))
      have HWP : Hid (wayP L last = X.reverse) := hide (by unfold wayP; rw [HX.out])
      have HW0 := hide HW.out
      have hb0 := HB.out
      have HB0 := hide hb0
      clear hb0 HB HW
      have hnw : wr.heap.size < (wr.alloc (.cells #[] 153)).heap.size := by simp
      generalize hw0 : wr = w0 at *
      clear hw0
      go_loopw [7, 8] (fun a c wr => ∃ (k : Nat) (Y : List Rc), k ≤ X.length ∧ c = .int .i64 ((k : Int) - 1) ∧ Y = (X.drop k).reverse ∧ wr.ownsRow w0.heap.size 153 10 a Y.length (Y.flatMap rcV) ∧ Below w0.heap.size w0 wr) (fun _ c _ => (intOf c + 1).toNat)
      case atStart => exact ⟨X.length, [], Nat.le_refl _, rfl, by simp, HOW0.out, HBW0.out⟩
      case round =>
        clear HOW0 HBW0 hnw
        obtain ⟨k, Y, hk, rfl, hY, hy, hb⟩ := hrel
        have HY := hide hY
        have HW := hide hy
        have HB := hide hb
        clear hY hy hb
        obtain ⟨ao2, cc2, hv⟩ := own_v HW.out
        subst hv
        have hYl : Y.length ≤ 100000 := by rw [HY.out]; simp; omega
        have hsz2 := HB.out.size
        by_cases hk0 : k = 0
        · subst hk0
          rw [List.drop_zero] at HY
          go_wp2
          go_ret
          exact ⟨ao2, cc2, by rw [HWP.out, ← HY.out]; rfl, by rw [HWP.out, ← HY.out]; exact own_mono HW.out hsz, below_go HB0.out HB.out⟩
        · obtain ⟨j, hj⟩ : ∃ j, k = j + 1 := ⟨k - 1, by omega⟩
          subst hj
          obtain ⟨r, hr⟩ : ∃ r, X[j]? = some r := ⟨X[j], List.getElem?_eq_getElem (by omega)⟩
          obtain ⟨g1, c1, hv1, _, hg1, _, _, hr1⟩ := own_el rcV_len HW0.out hr
          cases hv1
          obtain ⟨b0, b1, b2, b3, b4, b5, hrc⟩ := rcV_ten r
          have HRC := hide hrc
          have HRG : Hid (wr.rangeAt g1 (j * 10) [.int .i64 (r.p : Int), .bool b0, .bool b1, .bool b2, .bool b3, .bool b4, .bool b5, .bool r.off, .int .i64 (r.fr : Int), .bool r.comma]) := hide (by rw [← hrc]; exact fun j u hj => by rw [HB.out.cell (by exact hg1)]; exact hr1 j u hj)
          have HDR : Hid ((X.drop j).reverse = (X.drop (j + 1)).reverse ++ [r]) := hide (by
            have e := List.drop_eq_getElem_cons (l := X) (i := j) (by omega)
            have e2 : X[j]'(by omega) = r := by have := List.getElem?_eq_getElem (l := X) (i := j) (by omega); rw [hr] at this; injection this with this; exact this.symm
            rw [e, e2, List.reverse_cons])
          have hj0 : (0 : Int) ≤ (j : Int) := by omega
          have hje : ((j + 1 : Nat) : Int) - 1 = (j : Int) := by omega
          have hjn : (j : Int) < (X.length : Int) := by omega
          rw [hje]
          clear hr hr1 hrc hje
          go_wp2_with (first | (at_builtin; refine wpList_push (f := rcV) rcV_len rfl _ _ 148 rfl w0.heap.size 153 i0 _ 32 Try.underlying148 hj0' hz0 hz1 hz2 rfl (by decide) _ Y r rfl ⟨_, 0, none⟩ rfl ?_ ?_ ?_ ?_ ?_ ?_ ?_; (exact HW.out.alloc _); (rw [HRC.out]; exact newsL _ _ _); (rw [HRC.out]; intro x hx; simp at hx; rcases hx with rfl | rfl | rfl | rfl | rfl | rfl | rfl | rfl | rfl | rfl <;> rfl); (unfold maxLen; omega); (omega); (simp; omega); intro ao' cc' w5 hown' hbel' hsame' hat'; have HO5 := hide hown'; have HBL5 := hide hbel'; clear hown' hbel' hsame' hat') | (refine wpList_load_mid rfl 153 _ rfl _ _ rfl [.int .i64 (r.p : Int), .bool b0, .bool b1, .bool b2, .bool b3, .bool b4, .bool b5, .bool r.off, .int .i64 (r.fr : Int), .bool r.comma] _ ?_ Try.underlying153 rfl Try.iReached ?_; (exact HRG.out)))
          go_round
          case measure => simp [intOf]
          case rel => exact ⟨j, Y ++ [r], by omega, by go_num, by rw [HDR.out, ← HY.out], HO5.out, (HB.out.alloc hsz2 _).trans HBL5.out⟩
    · obtain ⟨r, hr⟩ : ∃ r, L[i]? = some r := ⟨L[i], List.getElem?_eq_getElem (by omega)⟩
      obtain ⟨g1, c1, hv1, _, hg1, _, _, hr1⟩ := own_el rcV_len HO.out hr
      cases hv1
      have hfr1 := HFR.out i r (by omega) hr
      obtain ⟨b0, b1, b2, b3, b4, b5, hrc⟩ := rcV_ten r
      have HRC := hide hrc
      have HRG : Hid (wr.rangeAt g1 (i * 10) [.int .i64 (r.p : Int), .bool b0, .bool b1, .bool b2, .bool b3, .bool b4, .bool b5, .bool r.off, .int .i64 (r.fr : Int), .bool r.comma]) := hide (by rw [← hrc]; exact fun j u hj => by rw [HB.out.cell (by exact hg1)]; exact hr1 j u hj)
      have HST : Hid (wayBack L i i = r :: wayBack L r.fr r.fr) := by
        apply hide
        cases i with
        | zero => exact absurd rfl hi0
        | succ n => rw [wayBack_step hi0 hr, wayBack_more HFR.out n r.fr r.fr (by omega) (Nat.le_refl _)]
      have HY8 : Hid (∀ W', Below w.heap.size w W' → W'.cell? ⟨g1, i * 10 + 8, none⟩ = some (.int .i64 (r.fr : Int))) := hide (fun W' h => by rw [h.cell (by exact hg1)]; exact hr1 8 _ rfl)
      have hi1 : (0 : Int) < (i : Int) := by omega
      clear hr hr1 hrc
      go_wp2_with (first | (at_builtin; refine wpList_push (f := rcV) rcV_len rfl _ _ 148 rfl w.heap.size 153 i0 _ 32 Try.underlying148 hj0' hz0 hz1 hz2 rfl (by decide) _ X r rfl ⟨_, 0, none⟩ rfl ?_ ?_ ?_ ?_ ?_ ?_ ?_; (exact HW.out.alloc _); (rw [HRC.out]; exact newsL _ _ _); (rw [HRC.out]; intro x hx; simp at hx; rcases hx with rfl | rfl | rfl | rfl | rfl | rfl | rfl | rfl | rfl | rfl <;> rfl); (unfold maxLen; omega); (omega); (simp; omega); intro ao' cc' w5 hown' hbel' hsame' hat'; have HO5 := hide hown'; have HBL5 := hide hbel'; have y8 := HY8.out w5 ((HB.out.alloc hsz _).trans hbel'); clear hown' hbel' hsame' hat') | (refine wpList_load_mid rfl 153 _ rfl _ _ rfl [.int .i64 (r.p : Int), .bool b0, .bool b1, .bool b2, .bool b3, .bool b4, .bool b5, .bool r.off, .int .i64 (r.fr : Int), .bool r.comma] _ ?_ Try.underlying153 rfl Try.iReached ?_; (exact HRG.out)))
      go_round
      case measure => simp [intOf]; omega
      case rel => exact ⟨r.fr, X ++ [r], by omega, rfl, by rw [List.append_assoc, List.singleton_append, ← HST.out]; exact HX.out, HO5.out, (HB.out.alloc hsz _).trans HBL5.out⟩
end Go.Proofs.Ytecmfdkhcffpmaa
/- Contracts of the program's reports: visits to a cell. -/
namespace Go.Proofs.Ytecmfdkhcffpmaa
open Go.RowKit
set_option linter.unusedSimpArgs false
set_option linter.unusedVariables false
set_option maxHeartbeats 8000000
open Mc

structure VsI (w W : World) (k : Kn) (kao : Option Addr) (kc : Nat) (z : Vi) : Prop where
  k : Row W w.heap.size #[.bool k.hd, .bool k.hd, .string k.s, .slice (some ⟨k.lg, 0, none⟩) k.s.size k.s.size, .slice kao k.L.length kc] 150
  res : Row W (w.heap.size + 1) (viA noVi) 208
  fd : Row W (w.heap.size + 2) (viA z) 208
  b : Below w.heap.size w W
theorem VsI.below {w W W' : World} {k : Kn} {kao : Option Addr} {kc : Nat} {z : Vi} (h : VsI w W k kao kc z) (hb : Below W.heap.size W W') : VsI w W' k kao kc z := ⟨h.k.below hb, h.res.below hb, h.fd.below hb, below_go h.b hb⟩
theorem VsI.set {w W : World} {k : Kn} {kao : Option Addr} {kc : Nat} {z : Vi} (h : VsI w W k kao kc z) (x : Nat) (hx : x < 64) (o : Bool) : VsI w ((W.setCell ⟨w.heap.size + 2, 64 + x, none⟩ (.bool true)).setCell ⟨w.heap.size + 2, x, none⟩ (.bool o)) k kao kc ⟨fun y => if y = x then o else z.wr y, fun y => if y = x then true else z.ei y⟩ := by
  refine ⟨(h.k.setO (by omega) _ _).setO (by omega) _ _, (h.res.setO (by omega) _ _).setO (by omega) _ _, ?_, (h.b.setCell (show w.heap.size ≤ w.heap.size + 2 by omega) _).setCell (show w.heap.size ≤ w.heap.size + 2 by omega) _⟩
  have h1 := h.fd.set (64 + x) (.bool true)
  rw [viA_setE z x hx true] at h1
  have h2 := h1.set x (.bool o)
  rw [viA_setW _ x hx o] at h2
  exact h2
end Go.Proofs.Ytecmfdkhcffpmaa
/- Contracts of the program's reports: races. -/
namespace Go.Proofs.Ytecmfdkhcffpmaa
open Go.RowKit
set_option linter.unusedSimpArgs false
set_option linter.unusedVariables false
set_option maxHeartbeats 8000000
open Mc

def viV (v : Vi) : List Value := (viA v).toList
/-- The visits of those before. -/
structure BfI (w W : World) (v : Value) (V : List Vi) : Prop where
  own : W.ownsRow w.heap.size 208 128 v V.length (V.flatMap viV)
  b : Below w.heap.size w W
theorem BfI.below {w W W' : World} {v : Value} {V : List Vi} (h : BfI w W v V) (hb : Below W.heap.size W W') : BfI w W' v V := ⟨own_same h.own (fun j _ hl => hb.block j hl), below_go h.b hb⟩
theorem BfI.push {w W W' : World} {v v' : Value} {V : List Vi} {r : Vi} {o : Obj} (h : BfI w W v V) (ho : W'.ownsRow w.heap.size 208 128 v' (V ++ [r]).length ((V ++ [r]).flatMap viV)) (hb : Below w.heap.size (W.alloc o) W') : BfI w W' v' (V ++ [r]) := ⟨ho, (h.b.alloc h.b.size o).trans hb⟩
theorem BfI.new (w : World) : BfI w (w.alloc (.cells #[] 208)) (.slice (some ⟨w.heap.size, 0, none⟩) 0 0) [] := ⟨own_nilA w _ _ _ (Nat.le_refl _), below_one _ _⟩
end Go.Proofs.Ytecmfdkhcffpmaa
