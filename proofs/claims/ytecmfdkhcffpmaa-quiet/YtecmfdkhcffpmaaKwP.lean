/- Contracts: a careful section, a careful body. -/
import Derived.Test.YtecmfdkhcffpmaaB08
import Derived.Test.YtecmfdkhcffpmaaKpD
import Derived.Test.YtecmfdkhcffpmaaB24
namespace Go.Proofs.Ytecmfdkhcffpmaa
open Go.RowKit
set_option linter.unusedSimpArgs false
set_option linter.unusedVariables false
set_option maxHeartbeats 8000000
open Wd Mc

/-- A shift to the right. -/
theorem wpList_shrN {P : Program} {ops : Array Oper} {rest : List Oper} {o : Oper} {a : Act} {w : World} {Q : Exit → Act → World → Prop} (hg : o.guard = none) (ty ty2 : TypeId) (x y : Operand) (ho : o.op = .binOp .shr ty x y ty2)
    (m l q : Nat) (hx : a.eval x = .int .i64 m) (hy : a.eval y = .int .i64 l) (hl : l ≤ 64) (hq : m / 2 ^ l = q) (h : wpList P ops Q rest (a.put o.dst (.int .i64 q)) w) : wpList P ops Q (o :: rest) a w := by
  refine wpList_runTo' hg (.int .i64 q) w ?_ h
  unfold execOp
  have e := shift_shr .i64 .i64 (m : Int) (l : Int) (by omega) (by show (l : Int) ≤ ((64 : Nat) : Int); omega)
  have e2 : ((m : Int) / 2 ^ l) = (q : Int) := by rw [← hq]; simp
  rw [Int.toNat_natCast, e2] at e
  simp [ho, hx, hy, Sem.run_bind, Sem.run_pure, binOp, eqGuard, e, e2, Result.andThen_ok]
theorem wpList_shlN {P : Program} {ops : Array Oper} {rest : List Oper} {o : Oper} {a : Act} {w : World} {Q : Exit → Act → World → Prop} (hg : o.guard = none) (ty ty2 : TypeId) (x y : Operand) (ho : o.op = .binOp .shl ty x y ty2)
    (m l q : Nat) (hx : a.eval x = .int .i64 m) (hy : a.eval y = .int .i64 l) (hl : l ≤ 64) (hq : m * 2 ^ l = q) (hb : q < 1000000) (h : wpList P ops Q rest (a.put o.dst (.int .i64 q)) w) : wpList P ops Q (o :: rest) a w := by
  refine wpList_runTo' hg (.int .i64 q) w ?_ h
  unfold execOp
  have e := shift_shl .i64 .i64 (m : Int) (l : Int) (by omega) (by show (l : Int) ≤ ((64 : Nat) : Int); omega)
  have e2 : ((m : Int) * 2 ^ l) = (q : Int) := by rw [← hq, Int.natCast_mul, Int.natCast_pow]; rfl
  have e3 : IntKind.i64.wrap (q : Int) = (q : Int) := by
    have h0 : (0 : Int) ≤ (q : Int) := by omega
    have h1 : (q : Int) < 1000000 := by omega
    unfold IntKind.wrap
    simp [IntKind.bits, IntKind.signed]
    omega
  rw [Int.toNat_natCast, e2, e3] at e
  simp [ho, hx, hy, Sem.run_bind, Sem.run_pure, binOp, eqGuard, e, e2, e3, Result.andThen_ok]
theorem and1_64 (q : Nat) (hq : q < 64) : bits BinOp.and IntKind.i64 (q : Int) 1 = ((q % 2 : Nat) : Int) := by
  have h : ∀ x : Fin 64, bits BinOp.and IntKind.i64 ((x.val : Nat) : Int) 1 = ((x.val % 2 : Nat) : Int) := by decide
  exact h ⟨q, hq⟩
theorem wpList_and1 {P : Program} {ops : Array Oper} {rest : List Oper} {o : Oper} {a : Act} {w : World} {Q : Exit → Act → World → Prop} (hg : o.guard = none) (ty ty2 : TypeId) (x y : Operand) (ho : o.op = .binOp .and ty x y ty2)
    (q : Nat) (t : Int) (hx : a.eval x = .int .i64 q) (hy : a.eval y = .int .i64 1) (hl : q < 64) (hq : ((q % 2 : Nat) : Int) = t) (h : wpList P ops Q rest (a.put o.dst (.int .i64 t)) w) : wpList P ops Q (o :: rest) a w := by
  refine wpList_runTo' hg (.int .i64 t) w ?_ h
  unfold execOp
  have e := and1_64 q hl
  rw [hq] at e
  simp [ho, hx, hy, Sem.run_bind, Sem.run_pure, binOp, eqGuard, intBits_and, e, Result.andThen_ok]
theorem bit_of (m l : Nat) : ((m / 2 ^ l % 2 : Nat) : Int) = if m.testBit l = true then 1 else 0 := by
  rw [Nat.testBit_eq_decide_div_mod_eq]
  have := Nat.mod_lt (m / 2 ^ l) (show 0 < 2 by decide)
  by_cases h : m / 2 ^ l % 2 = 1
  · simp [h]
  · have h0 : m / 2 ^ l % 2 = 0 := by omega
    simp [h0]
theorem div_64 {m l : Nat} (h : m < 64) : m / 2 ^ l < 64 := Nat.lt_of_le_of_lt (Nat.div_le_self _ _) h
theorem secTake_s (mask k : Nat) : secTake mask (k + 1) = secTake mask k ++ (if mask.testBit k = true then [.take k] else []) := by simp [secTake, List.range_succ]
theorem secCell_s (mask k : Nat) : secCell mask (k + 1) = secCell mask k ++ (if mask.testBit k = true then [.rd k, .wr k] else []) := by simp [secCell, List.range_succ]
theorem secGive_s (mask : Nat) (up : Bool) (k : Nat) : secGive mask up (k + 1) = secGive mask up k ++ (if mask.testBit (secLock up k) = true then [.give (secLock up k)] else []) := by simp [secGive, List.range_succ]
theorem secOff_s (mask first : Nat) (hd : Bool) (k : Nat) : secOff mask first hd (k + 1) = (secOff mask first hd k || (mask.testBit k && (decide (first ≤ k) && !hd))) := by simp [secOff, List.range_succ]
theorem tks_len (f : Nat → List Tk) (n c : Nat) (h : ∀ k, (tks (f k)).length ≤ c) : (tks ((List.range n).flatMap f)).length ≤ n * c := by
  induction n with
  | zero => simp [tks]
  | succ n ih =>
    rw [List.range_succ, List.flatMap_append, tks_app, List.length_append, Nat.succ_mul]
    have := h n
    simp only [List.flatMap_cons, List.flatMap_nil, List.append_nil]
    omega
theorem secTake_l (mask n : Nat) : (tks (secTake mask n)).length ≤ n * 2 := tks_len _ n 2 (fun k => by split <;> simp [tks, Tk.tx])
theorem secCell_l (mask n : Nat) : (tks (secCell mask n)).length ≤ n * 4 := tks_len _ n 4 (fun k => by split <;> simp [tks, Tk.tx])
theorem secGive_l (mask : Nat) (up : Bool) (n : Nat) : (tks (secGive mask up n)).length ≤ n * 2 := tks_len _ n 2 (fun k => by split <;> simp [tks, Tk.tx])
set_option maxRecDepth 100000 in
theorem section_any (mask first : Nat) (hd up : Bool) (w : World) (hm : mask < 64) (hf : first < 7) :
    Calls Try.prog 71 #[.int .i64 mask, .int .i64 first, .bool hd, .bool up] w fun e w' => e = .returned (.string (Wd.mkS (tks (secT mask first hd up)))) ∧ Below w.heap.size w w' := by
  have AO := hide (fun (c : Int) (W : World) (h0 : 0 ≤ c) (h1 : c ≤ 255) => one_int c W h0 h1)
  go_enter Try.func71, Try.ntmps71
  go_wp2
  go_loopw [9, 10, 11] (fun out off i wr => ∃ (k : Nat) (r : List UInt8) (f : Bool), k ≤ 6 ∧ i = .int .i64 k ∧ out = .string (Wd.mkS r) ∧ off = .bool f ∧ r = tks (secTake mask k) ∧ f = secOff mask first hd k ∧ Below w.heap.size w wr) (fun _ _ i _ => 6 - (intOf i).toNat)
  case atStart => exact ⟨0, [], false, by omega, rfl, rfl, rfl, rfl, rfl, Below.refl _ _⟩
  case round =>
    obtain ⟨k, r, f, hk, rfl, rfl, rfl, hr, hff, hb⟩ := hrel
    have HB := hide hb
    have HR := hide hr
    have HF := hide hff
    have hrl : r.length ≤ 12 := by have := secTake_l mask k; rw [← hr] at this; omega
    clear hb hr hff
    have s1 := Wd.mkS_size r
    by_cases hlt : k < 6
    · obtain ⟨q, hq⟩ : ∃ q, mask / 2 ^ k = q := ⟨_, rfl⟩
      have hq64 : q < 64 := by rw [← hq]; exact div_64 hm
      have hbit := bit_of mask k
      have hts := secTake_s mask k
      have hfs := secOff_s mask first hd k
      rw [hq] at hbit
      have HQ := hide hq
      clear hq
      obtain ⟨t, ht⟩ : ∃ t : Int, ((q % 2 : Nat) : Int) = t := ⟨_, rfl⟩
      rw [ht] at hbit
      have HT := hide ht
      clear ht
      cases hbb : mask.testBit k
      · rw [hbb] at hbit hts hfs
        simp only [Bool.false_eq_true, if_false, List.append_nil, Bool.false_and, Bool.or_false] at hbit hts hfs
        subst hbit
        have HTS := hide hts
        have HFS := hide hfs
        clear hts hfs hbb
        go_wp2_with (first | (refine wpList_shrN rfl _ _ _ _ rfl mask k q rfl rfl ?_ ?_ ?_; (omega); (exact HQ.out)) | (refine wpList_and1 rfl _ _ _ _ rfl q 0 rfl rfl ?_ ?_ ?_; (exact hq64); (exact HT.out)) | (refine wpList_cat rfl 9 9 _ _ rfl _ _ rfl rfl ?_ ?_; (simp; omega)))
        go_round
        case rel => exact ⟨k + 1, r, f, by omega, by go_num, rfl, rfl, by rw [HTS.out]; exact HR.out, by rw [HFS.out]; exact HF.out, HB.out⟩
        case measure => simp [intOf]; omega
      · rw [hbb] at hbit hts hfs
        simp only [if_true, Bool.true_and] at hbit hts hfs
        subst hbit
        have HTS := hide hts
        have HFS := hide hfs
        clear hts hfs hbb
        cases f <;> cases hd <;> by_cases hfk : first ≤ k
        all_goals (
          go_wp2_with (first | (refine wpList_shrN rfl _ _ _ _ rfl mask k q rfl rfl ?_ ?_ ?_; (omega); (exact HQ.out)) | (refine wpList_and1 rfl _ _ _ _ rfl q 1 rfl rfl ?_ ?_ ?_; (exact hq64); (exact HT.out)) | (refine wpList_cat rfl 9 9 _ _ rfl _ _ rfl rfl ?_ ?_; (simp; omega)) | fail)
          go_at_call 41
          refine (AO.out (97 + (k : Int)) _ (by omega) (by omega)).mono ?_
          rintro e w6 ⟨rfl, hb6⟩
          have HB6 := hide (below_go HB.out hb6)
          clear hb6
          rw [show ((97 + (k : Int)) : Int).toNat = 97 + k by omega]
          go_wp2_with (first | (refine wpList_cat rfl 9 9 _ _ rfl _ _ rfl rfl ?_ ?_; (simp; omega)))
          go_round
          case rel => exact ⟨k + 1, _, _, by omega, by go_num, rfl, rfl, by rw [HTS.out, tks_app, ← HR.out]; simp [tks, Tk.tx], by rw [HFS.out, ← HF.out]; simp [hfk], HB6.out⟩
          case measure => simp [intOf]; omega)
    · have e : k = 6 := by omega
      rw [e] at HR HF
      clear e
      have hrl2 : r.length ≤ 12 := hrl
      go_wp2
      go_loopw [9, 12] (fun out i wr => ∃ (k : Nat) (r : List UInt8), k ≤ 4 ∧ i = .int .i64 k ∧ out = .string (Wd.mkS r) ∧ r = tks (secTake mask 6 ++ secCell mask k) ∧ Below w.heap.size w wr) (fun _ i _ => 4 - (intOf i).toNat)
      case atStart => exact ⟨0, r, by omega, rfl, rfl, by rw [HR.out]; simp [secCell], HB.out⟩
      case round =>
        obtain ⟨c, r2, hc, rfl, rfl, hr2, hb2⟩ := hrel
        clear HB HR hrl hrl2 s1
        have HB := hide hb2
        have HR := hide hr2
        have hrl : r2.length ≤ 28 := by have h1 := secTake_l mask 6; have h2 := secCell_l mask c; rw [hr2, tks_app, List.length_append]; omega
        clear hb2 hr2
        have s1 := Wd.mkS_size r2
        by_cases hct : c < 4
        · obtain ⟨q, hq⟩ : ∃ q, mask / 2 ^ c = q := ⟨_, rfl⟩
          have hq64 : q < 64 := by rw [← hq]; exact div_64 hm
          have hbit := bit_of mask c
          have hts := secCell_s mask c
          rw [hq] at hbit
          have HQ := hide hq
          clear hq
          obtain ⟨t, ht⟩ : ∃ t : Int, ((q % 2 : Nat) : Int) = t := ⟨_, rfl⟩
          rw [ht] at hbit
          have HT := hide ht
          clear ht
          cases hbb : mask.testBit c
          · rw [hbb] at hbit hts
            simp only [Bool.false_eq_true, if_false, List.append_nil] at hbit hts
            subst hbit
            have HTS := hide hts
            clear hts hbb
            go_wp2_with (first | (refine wpList_shrN rfl _ _ _ _ rfl mask c q rfl rfl ?_ ?_ ?_; (omega); (exact HQ.out)) | (refine wpList_and1 rfl _ _ _ _ rfl q 0 rfl rfl ?_ ?_ ?_; (exact hq64); (exact HT.out)) | (refine wpList_cat rfl 9 9 _ _ rfl _ _ rfl rfl ?_ ?_; (simp; omega)))
            go_round
            case rel => exact ⟨c + 1, r2, by omega, by go_num, rfl, by rw [HTS.out]; exact HR.out, HB.out⟩
            case measure => simp [intOf]; omega
          · rw [hbb] at hbit hts
            simp only [if_true] at hbit hts
            subst hbit
            have HTS := hide hts
            clear hts hbb
            go_wp2_with (first | (refine wpList_shrN rfl _ _ _ _ rfl mask c q rfl rfl ?_ ?_ ?_; (omega); (exact HQ.out)) | (refine wpList_and1 rfl _ _ _ _ rfl q 1 rfl rfl ?_ ?_ ?_; (exact hq64); (exact HT.out)) | (refine wpList_cat rfl 9 9 _ _ rfl _ _ rfl rfl ?_ ?_; (simp; omega)) | fail)
            go_at_call 41
            refine (AO.out (48 + (c : Int)) _ (by omega) (by omega)).mono ?_
            rintro e w6 ⟨rfl, hb6⟩
            have HB6 := hide (below_go HB.out hb6)
            clear hb6
            rw [show ((48 + (c : Int)) : Int).toNat = 48 + c by omega]
            go_wp2_with (first | (refine wpList_cat rfl 9 9 _ _ rfl _ _ rfl rfl ?_ ?_; (simp; omega)) | fail)
            go_at_call 41
            refine (AO.out (48 + (c : Int)) _ (by omega) (by omega)).mono ?_
            rintro e w7 ⟨rfl, hb7⟩
            have HB7 := hide (below_go HB6.out hb7)
            clear hb7
            rw [show ((48 + (c : Int)) : Int).toNat = 48 + c by omega]
            go_wp2_with (first | (refine wpList_cat rfl 9 9 _ _ rfl _ _ rfl rfl ?_ ?_; (simp; omega)))
            go_round
            case rel => exact ⟨c + 1, _, by omega, by go_num, rfl, by rw [HTS.out, ← List.append_assoc, tks_app, ← HR.out]; simp [tks, Tk.tx], HB7.out⟩
            case measure => simp [intOf]; omega
        · have e : c = 4 := by omega
          rw [e] at HR
          clear e
          go_wp2
          go_loopw [9, 13] (fun out i wr => ∃ (k : Nat) (r : List UInt8), k ≤ 6 ∧ i = .int .i64 k ∧ out = .string (Wd.mkS r) ∧ r = tks (secTake mask 6 ++ secCell mask 4 ++ secGive mask up k) ∧ Below w.heap.size w wr) (fun _ i _ => 6 - (intOf i).toNat)
          case atStart => exact ⟨0, r2, by omega, rfl, rfl, by rw [HR.out]; simp [secGive], HB.out⟩
          case round =>
            obtain ⟨j, r3, hj, rfl, rfl, hr3, hb3⟩ := hrel
            clear HB HR hrl s1
            have HB := hide hb3
            have HR := hide hr3
            have hrl : r3.length ≤ 40 := by have h1 := secTake_l mask 6; have h2 := secCell_l mask 4; have h3 := secGive_l mask up j; rw [hr3, tks_app, tks_app, List.length_append, List.length_append]; omega
            clear hb3 hr3
            have s1 := Wd.mkS_size r3
            by_cases hjt : j < 6
            · obtain ⟨l, hl⟩ : ∃ l, secLock up j = l := ⟨_, rfl⟩
              have hl6 : l < 6 := by rw [← hl]; unfold secLock; split <;> omega
              obtain ⟨q, hq⟩ : ∃ q, mask / 2 ^ l = q := ⟨_, rfl⟩
              have hq64 : q < 64 := by rw [← hq]; exact div_64 hm
              have hbit := bit_of mask l
              have hts := secGive_s mask up j
              rw [hq] at hbit
              rw [hl] at hts
              have HQ := hide hq
              clear hq
              obtain ⟨t, ht⟩ : ∃ t : Int, ((q % 2 : Nat) : Int) = t := ⟨_, rfl⟩
              rw [ht] at hbit
              have HT := hide ht
              clear ht
              have hup : (if up = true then (5 : Int) - (j : Int) else (j : Int)) = (l : Int) := by rw [← hl]; unfold secLock; split <;> omega
              clear hl
              cases hbb : mask.testBit l
              · rw [hbb] at hbit hts
                simp only [Bool.false_eq_true, if_false, List.append_nil] at hbit hts
                subst hbit
                have HTS := hide hts
                clear hts hbb
                cases up
                · have hup : (j : Int) = (l : Int) := hup
                  obtain rfl : j = l := by omega
                  go_wp2_with (first | (refine wpList_shrN rfl _ _ _ _ rfl mask j q rfl rfl ?_ ?_ ?_; (omega); (exact HQ.out)) | (refine wpList_and1 rfl _ _ _ _ rfl q 0 rfl rfl ?_ ?_ ?_; (exact hq64); (exact HT.out)) | (refine wpList_cat rfl 9 9 _ _ rfl _ _ rfl rfl ?_ ?_; (simp; omega)))
                  go_round
                  case rel => exact ⟨j + 1, r3, by omega, by go_num, rfl, by rw [HTS.out]; exact HR.out, HB.out⟩
                  case measure => simp [intOf]; omega
                · have hup : (5 : Int) - (j : Int) = (l : Int) := hup
                  go_wp2_with (first | (refine wpList_shrN rfl _ _ _ _ rfl mask l q rfl rfl ?_ ?_ ?_; (omega); (exact HQ.out)) | (refine wpList_and1 rfl _ _ _ _ rfl q 0 rfl rfl ?_ ?_ ?_; (exact hq64); (exact HT.out)) | (refine wpList_cat rfl 9 9 _ _ rfl _ _ rfl rfl ?_ ?_; (simp; omega)))
                  go_round
                  case rel => exact ⟨j + 1, r3, by omega, by go_num, rfl, by rw [HTS.out]; exact HR.out, HB.out⟩
                  case measure => simp [intOf]; omega
              · rw [hbb] at hbit hts
                simp only [if_true] at hbit hts
                subst hbit
                have HTS := hide hts
                clear hts hbb
                cases up
                · have hup : (j : Int) = (l : Int) := hup
                  obtain rfl : j = l := by omega
                  go_wp2_with (first | (refine wpList_shrN rfl _ _ _ _ rfl mask j q rfl rfl ?_ ?_ ?_; (omega); (exact HQ.out)) | (refine wpList_and1 rfl _ _ _ _ rfl q 1 rfl rfl ?_ ?_ ?_; (exact hq64); (exact HT.out)) | (refine wpList_cat rfl 9 9 _ _ rfl _ _ rfl rfl ?_ ?_; (simp; omega)) | fail)
                  go_at_call 41
                  refine (AO.out (97 + (j : Int)) _ (by omega) (by omega)).mono ?_
                  rintro e w6 ⟨rfl, hb6⟩
                  have HB6 := hide (below_go HB.out hb6)
                  clear hb6
                  rw [show ((97 + (j : Int)) : Int).toNat = 97 + j by omega]
                  go_wp2_with (first | (refine wpList_cat rfl 9 9 _ _ rfl _ _ rfl rfl ?_ ?_; (simp; omega)))
                  go_round
                  case rel => exact ⟨j + 1, _, by omega, by go_num, rfl, by rw [HTS.out, ← List.append_assoc, tks_app, ← HR.out]; simp [tks, Tk.tx], HB6.out⟩
                  case measure => simp [intOf]; omega
                · have hup : (5 : Int) - (j : Int) = (l : Int) := hup
                  go_wp2_with (first | (refine wpList_shrN rfl _ _ _ _ rfl mask l q rfl rfl ?_ ?_ ?_; (omega); (exact HQ.out)) | (refine wpList_and1 rfl _ _ _ _ rfl q 1 rfl rfl ?_ ?_ ?_; (exact hq64); (exact HT.out)) | (refine wpList_cat rfl 9 9 _ _ rfl _ _ rfl rfl ?_ ?_; (simp; omega)) | fail)
                  go_at_call 41
                  refine (AO.out (97 + (l : Int)) _ (by omega) (by omega)).mono ?_
                  rintro e w6 ⟨rfl, hb6⟩
                  have HB6 := hide (below_go HB.out hb6)
                  clear hb6
                  rw [show ((97 + (l : Int)) : Int).toNat = 97 + l by omega]
                  go_wp2_with (first | (refine wpList_cat rfl 9 9 _ _ rfl _ _ rfl rfl ?_ ?_; (simp; omega)))
                  go_round
                  case rel => exact ⟨j + 1, _, by omega, by go_num, rfl, by rw [HTS.out, ← List.append_assoc, tks_app, ← HR.out]; simp [tks, Tk.tx], HB6.out⟩
                  case measure => simp [intOf]; omega
            · have e : j = 6 := by omega
              rw [e] at HR
              clear e
              cases f
              · have HE : Hid (secT mask first hd up = secCore mask up) := hide (by unfold secT; rw [← HF.out]; rfl)
                go_wp2_with (first | (refine wpList_cat rfl 9 9 _ _ rfl _ _ rfl rfl ?_ ?_; (simp; omega)))
                go_ret
                exact ⟨ret_strB (by rw [HE.out, HR.out]; rfl), HB.out⟩
              · have HE : Hid (secT mask first hd up = .dis :: (secCore mask up ++ [.ena])) := hide (by unfold secT; rw [← HF.out]; rfl)
                go_wp2_with (first | (refine wpList_cat rfl 9 9 _ _ rfl _ _ rfl rfl ?_ ?_; (simp; omega)))
                go_ret
                exact ⟨ret_strB (by rw [HE.out, HR.out, tks_cons, tks_app]; simp [tks, Tk.tx, secCore]), HB.out⟩
end Go.Proofs.Ytecmfdkhcffpmaa
