/- KwH, LawW, KpL, KwI, KwJ, KwK. -/
import Derived.Test.YtecmfdkhcffpmabB08
import Derived.Test.YtecmfdkhcffpmabB17
import Derived.Test.YtecmfdkhcffpmabB35
import Derived.Test.YtecmfdkhcffpmabB44
import Derived.OwnWalk
import Derived.BigQuiet
import Derived.Deep.QuietTactic
import Derived.ProofKit
import Derived.OpenShut
import Derived.ShutString
import Derived.ChangeSlices
import Derived.Carry
import Derived.Deep.SlicePairs
/- Contracts: what Run answers to a source and a script, looked at; the bad letter at a trace's end; reports of a kind. -/
namespace Go.Proofs.Ytecmfdkhcffpmab
open Go.RowKit
set_option linter.unusedSimpArgs false
set_option linter.unusedVariables false
set_option maxHeartbeats 8000000
open Wd Mc

theorem badB_any (t : Int) (w : World) (h0 : 0 ≤ t) (h1 : t ≤ 255) :
    Calls Try.prog 31 #[.int .u8 t] w fun e w' => e = .returned (.bool (bad t)) ∧ w' = w := by
  have e : bad t = (t == 68 || t == 85 || t == 83 || t == 69 || t == 73 || t == 87 || t == 82) := rfl
  rw [e]
  cases c1 : (t == 68) <;> cases c2 : (t == 85) <;> cases c3 : (t == 83) <;> cases c4 : (t == 69) <;> cases c5 : (t == 73) <;> cases c6 : (t == 87) <;> cases c7 : (t == 82)
  all_goals first
    | (exfalso; simp only [beq_iff_eq, beq_eq_false_iff_ne] at c1 c2 c3 c4 c5 c6 c7; omega)
    | (go_enter Try.func31, Try.ntmps31
       go_wp2
       go_ret
       exact ⟨rfl, rfl⟩)
/-- A trace as it must be. -/
structure Tr (T : List UInt8) (n : Nat) : Prop where
  len : 2 * T.length ≤ n
  bad : ∀ i (h : i < T.length), bad (bt T[i]) = true → i + 1 = T.length
  full : (∀ c ∈ T, Mc.bad (bt c) = false) → 2 * T.length = n
theorem tr_of {its : List It} {n : Nat} {m : Int} {S : Ma} {s : List UInt8} (h : scriptB m s = true) : Tr (traceB its n S s) s.length :=
  ⟨traceB_len its n s S, fun i hi hb => traceB_bad its n s S i _ (List.getElem?_eq_getElem hi) hb, fun hb => traceB_full its n m s S h hb⟩
set_option maxRecDepth 100000 in
theorem trace_any (l : List UInt8) (n : Nat) (s : List UInt8) (T : List UInt8) (w : World) (hl : l.length ≤ 240) (hs : s.length ≤ 200000) (h0 : 0 < n) (hn : n ≤ 3) (hr : runB l n s = (T, 0)) (hT : Tr T s.length) :
    Calls Try.prog 12 #[.string (Wd.mkS l), .int .i64 n, .string (Wd.mkS s)] w fun e w' => e = .returned (.tuple #[.string (Wd.mkS T), .bool true]) ∧ Below w.heap.size w w' := by
  have s1 := Wd.mkS_size l
  have s2 := Wd.mkS_size s
  have s3 := Wd.mkS_size T
  have AR := wrun_any (Wd.mkS l) n (Wd.mkS s) w (by rw [s1]; unfold maxLen; omega) (by rw [s2]; unfold maxLen; omega) (by omega) (by omega)
  rw [mkS_list, mkS_list, hr] at AR
  have HAR := hide AR
  have AB := hide (fun t W h0 h1 => badB_any t W h0 h1)
  have HTR := hide hT
  have hlen := hT.len
  clear AR hr hT
  have hT2 : 2 * (T.length : Int) ≤ (s.length : Int) := by omega
  go_enter Try.func12, Try.ntmps12
  go_wp2_with (first | (go_at_call 30; refine (HAR.out).mono ?_; rintro e w1 ⟨rfl, hb1⟩; have HB1 := hide hb1; clear hb1))
  go_loop [11] (fun i => ∃ k : Nat, k ≤ T.length ∧ i = .int .i64 k ∧ ∀ j (h : j < T.length), j < k → bad (bt T[j]) = false) (fun i => T.length - (intOf i).toNat)
  case atStart => exact ⟨0, by omega, rfl, fun j _ hj => by omega⟩
  case round =>
    obtain ⟨k, hk, rfl, hno⟩ := hrel
    have HN := hide hno
    clear hno
    by_cases hlt : k < T.length
    · have hix : (((((Wd.mkS T)[k]'(by rw [s3]; omega)).toNat : Nat)) : Int) = bt T[k] := by rw [mkS_at]; simp [at_, bt, hlt]
      have hb0 : 0 ≤ bt T[k] ∧ bt T[k] ≤ 255 := by unfold bt; have := T[k].toNat_lt; omega
      have HBK := hide (HTR.out.bad k hlt)
      have HNX := hide (fun (e : bad (bt T[k]) = false) j (h : j < T.length) (hj : j < k + 1) => (if e2 : j = k then (by subst e2; exact e) else HN.out j h (by omega) : bad (bt T[j]) = false))
      generalize bt T[k] = x at *
      have A2 := hide (AB.out x w1 hb0.1 hb0.2)
      cases hbx : bad x
      · rw [hbx] at A2 HNX
        go_wp2_with (first | (go_at_call 31; refine (A2.out).mono ?_; rintro e w' ⟨rfl, hww⟩; obtain rfl := hww.symm; clear hww))
        go_round
        case rel => exact ⟨k + 1, by omega, by go_num, HNX.out (by first | rfl | trivial)⟩
        case measure => simp [intOf]; omega
      · rw [hbx] at A2 HBK
        have hkl : k + 1 = T.length := HBK.out (by first | rfl | trivial)
        have hki : ((k : Int) == (T.length : Int) - 1) = true := by simp; omega
        clear HBK HNX
        go_wp2_with (first | (go_at_call 31; refine (A2.out).mono ?_; rintro e w' ⟨rfl, hww⟩; obtain rfl := hww.symm; clear hww))
        go_ret2
        exact ⟨rfl, HB1.out⟩
    · have hful : 2 * T.length = s.length := HTR.out.full (fun c hc => by
        obtain ⟨j, hj, e⟩ := List.getElem_of_mem hc
        have := HN.out j hj (by omega)
        rw [e] at this; exact this)
      have hfi : (2 * (T.length : Int) == (s.length : Int)) = true := by simp; omega
      clear hful
      go_wp2
      go_ret2
      exact ⟨rfl, HB1.out⟩
end Go.Proofs.Ytecmfdkhcffpmab
/- Contracts of the calls Analyse and Edges. -/
namespace Go.Proofs.Ytecmfdkhcffpmab
open Go.RowKit
set_option linter.unusedSimpArgs false
set_option linter.unusedVariables false
set_option maxHeartbeats 8000000
open Mc
theorem wAnalyse_any (s : ByteArray) (w : World) (hs : s.size ≤ maxLen) : Calls Try.prog 13 #[.string s] w (RPost w (Wd.readP s.data.toList)) := by
  have HX := panalyse_any s w hs
  cases hq : Wd.readP s.data.toList with
  | error x =>
    rw [hq] at HX
    have HXX := hide HX
    clear HX hq
    go_enter Try.func13, Try.ntmps13
    go_wp2_with (go_at_call 32; refine HXX.out.mono ?_; rintro e w' ⟨hb, rfl⟩)
    go_ret2
    exact ⟨hb, rfl⟩
  | ok its =>
    rw [hq] at HX
    have HXX := hide HX
    clear HX hq
    go_enter Try.func13, Try.ntmps13
    go_wp2_with (go_at_call 32; refine HXX.out.mono ?_; rintro e w' ⟨hb, ao, cc, rfl, hown⟩)
    go_ret2
    exact ⟨hb, ao, cc, rfl, hown⟩
theorem wEdges_any (s : ByteArray) (w : World) (hs : s.size ≤ maxLen) : Calls Try.prog 20 #[.string s] w (EPost w (Wd.readP s.data.toList)) := by
  have HX := pEdges_any s w hs
  cases hq : Wd.readP s.data.toList with
  | error x =>
    rw [hq] at HX
    have HXX := hide HX
    clear HX hq
    go_enter Try.func20, Try.ntmps20
    go_wp2_with (go_at_call 35; refine HXX.out.mono ?_; rintro e w' ⟨hb, rfl⟩)
    go_ret2
    exact ⟨hb, rfl⟩
  | ok its =>
    rw [hq] at HX
    have HXX := hide HX
    clear HX hq
    go_enter Try.func20, Try.ntmps20
    go_wp2_with (go_at_call 35; refine HXX.out.mono ?_; rintro e w' ⟨hb, ao, cc, rfl, hown⟩)
    go_ret2
    exact ⟨hb, ao, cc, rfl, hown⟩
end Go.Proofs.Ytecmfdkhcffpmab
/- Plain: the two answers that the document's words fix. -/
namespace Go.Proofs.Ytecmfdkhcffpmab
open Go.RowKit
set_option linter.unusedSimpArgs false
set_option linter.unusedVariables false
open Mc
namespace Mc
open Wd
def it1 : List It := [⟨false, [45, 97]⟩]
def it2 : List It := [⟨false, [43, 97, 45, 97]⟩]
theorem wv_two (c d : UInt8) (h1 : bt c = 43 ∨ bt c = 45) (h2 : lk (bt d) = true) : Wv [c, d] :=
  ⟨fun n => run2 c d h1 h2, ok2 (by rcases h1 with h | h <;> rw [h] <;> decide) (lk_ok h2)⟩
theorem wv_app {a b : List UInt8} (ha : Wv a) (hb : Wv b) : Wv (a ++ b) := ⟨fun n => by rw [runS_app, ha.run]; exact hb.run n, ha.ok.app hb.ok⟩
theorem read_it1 : readP [116, 123, 45, 97, 125] = .ok it1 :=
  readP_woven [(116, [45, 97])] (fun x hx => by simp at hx; subst hx; exact ⟨Or.inl rfl, wv_two 45 97 (by decide) (by decide)⟩) (by decide) (by decide) (by decide)
theorem read_it2 : readP [116, 123, 43, 97, 45, 97, 125] = .ok it2 :=
  readP_woven [(116, [43, 97, 45, 97])] (fun x hx => by simp at hx; subst hx; exact ⟨Or.inl rfl, wv_app (wv_two 43 97 (by decide) (by decide)) (wv_two 45 97 (by decide) (by decide))⟩) (by decide) (by decide) (by decide)
theorem run_it2 : runB [116, 123, 43, 97, 45, 97, 125] 1 [48, 48, 48, 46, 48, 46, 48, 46] = ([116, 43, 45, 101], 0) := by
  rw [show (1 : Int) = ((1 : Nat) : Int) from rfl, runB_yes read_it2 (by decide) (by decide) (by decide) (by decide) (by decide)]
  decide
theorem rch_it1 {s : St3} (h : Rch false [45, 97] s) : s = (0, 0, false) := by
  induction h with
  | begin => rfl
  | step _ c ih => rw [ih]; cases c <;> decide
theorem bad_it1 (k : Int) (p : Nat) : BadAt false [45, 97] k p ↔ k = 2 ∧ p = 0 := by
  constructor
  · rintro ⟨h, off, hr, hk⟩
    have := rch_it1 hr
    simp only [Prod.mk.injEq] at this
    obtain ⟨rfl, rfl, rfl⟩ := this
    exact ⟨by rw [← hk]; decide, rfl⟩
  · rintro ⟨rfl, rfl⟩
    exact ⟨0, false, Rch.begin, by decide⟩
theorem eg_it1 (l m : Nat) : ¬ Eg it1 l m := by
  rintro (⟨i, hi, s, hr, hb, _⟩ | ⟨⟨i, hi, _, s, hr, _, hb⟩, _⟩)
  · have e : i = 0 := by simp [it1] at hi; exact hi
    subst e
    rw [rch_it1 hr] at hb; simp at hb
  · have e : i = 0 := by simp [it1] at hi; exact hi
    subst e
    rw [rch_it1 hr] at hb; simp at hb
theorem race_it1 (c : Nat) : ¬ Race it1 c := by
  rintro ⟨i, j, hi, hj, _, s, t, hr, _, ⟨h1, h2⟩, _⟩
  have e : i = 0 := by simp [it1] at hi; exact hi
  subst e
  rw [rch_it1 hr] at h2
  exact absurd h2 (by decide)
set_option maxRecDepth 100000 in
theorem analyse_it1 : analyseS it1 = [(2, 0, 0)] := by
  classical
  have e1 : soloS it1 = [(2, 0, 0)] := by
    unfold soloS
    rw [solos_congrN _ (fun k i p => decide (k = 2 ∧ p = 0)) _ (fun _ => 3) _ _ (fun i hi => by
      have e : i = 0 := by simp [it1] at hi; exact hi
      subst e; rfl) (fun k hk i hi p hp => by
      have e : i = 0 := by simp [it1] at hi; exact hi
      subst e
      rw [decide_eq_decide]
      refine (bad_it1 _ p).trans ?_
      constructor
      · rintro ⟨h1, h2⟩; exact ⟨by omega, h2⟩
      · rintro ⟨h1, h2⟩; exact ⟨by omega, h2⟩)]
    decide
  have e2 : edgeS it1 = fun _ _ => false := by
    funext l m
    simp [edgeS, eg_it1]
  have e3 : raceS it1 = [] := by
    unfold raceS
    rw [raceL_congr _ (fun _ => false) 4 (fun c hc => by simp [race_it1])]
    rfl
  unfold analyseS
  rw [e1, e2, e3]
  decide
end Mc
end Go.Proofs.Ytecmfdkhcffpmab
/- Contracts: the bad letter at a trace's end; reports of a kind; the two answers that the words fix. -/
namespace Go.Proofs.Ytecmfdkhcffpmab
open Go.RowKit
set_option linter.unusedSimpArgs false
set_option linter.unusedVariables false
set_option maxHeartbeats 8000000
open Wd Mc

theorem last_any (T : List UInt8) (w : World) (hT : T.length ≤ 1000000) :
    Calls Try.prog 15 #[.string (Wd.mkS T)] w fun e w' => e = .returned (.int .u8 (lastP T)) ∧ w' = w := by
  have s3 := Wd.mkS_size T
  by_cases h0 : T = []
  · subst h0
    have hem : (Wd.mkS []).toList.isEmpty = true := by rw [mkS_toList]; rfl
    go_enter Try.func15, Try.ntmps15
    go_wp2
    go_ret
    exact ⟨rfl, rfl⟩
  · have hem : (Wd.mkS T).toList.isEmpty = false := by rw [mkS_toList]; cases T with | nil => exact absurd rfl h0 | cons a r => rfl
    have hpos : 0 < T.length := by cases T with | nil => exact absurd rfl h0 | cons a r => simp
    have hl : lastP T = if bad (bt T[T.length - 1]) = true then bt T[T.length - 1] else 0 := by
      unfold lastP
      rw [List.getLast?_eq_getElem?, List.getElem?_eq_getElem (by omega)]
    have hix : (((((Wd.mkS T)[T.length - 1]'(by rw [s3]; omega)).toNat : Nat)) : Int) = bt T[T.length - 1] := by rw [mkS_at]; simp [at_, bt, show T.length - 1 < T.length from by omega]
    have hb0 : 0 ≤ bt T[T.length - 1] ∧ bt T[T.length - 1] ≤ 255 := by unfold bt; have := T[T.length - 1].toNat_lt; omega
    clear h0
    generalize bt T[T.length - 1] = x at *
    have A2 := hide (badB_any x w hb0.1 hb0.2)
    have HL := hide hl
    clear hl
    cases hbx : bad x
    · rw [hbx] at A2 HL
      have HE : Hid (lastP T = 0) := hide (by rw [HL.out]; rfl)
      clear HL
      go_enter Try.func15, Try.ntmps15
      go_wp2_with (first | (go_at_call 31; refine (A2.out).mono ?_; rintro e w' ⟨rfl, hww⟩; obtain rfl := hww.symm; clear hww))
      go_ret
      exact ⟨ret_int (by rw [HE.out]), rfl⟩
    · rw [hbx] at A2 HL
      have HE : Hid (lastP T = x) := hide (by rw [HL.out]; rfl)
      clear HL
      go_enter Try.func15, Try.ntmps15
      go_wp2_with (first | (go_at_call 31; refine (A2.out).mono ?_; rintro e w' ⟨rfl, hww⟩; obtain rfl := hww.symm; clear hww))
      go_ret
      exact ⟨ret_int (by rw [HE.out]), rfl⟩
theorem hasK_yes {R : List Rp} {k : Nat} {c : Int} (h : k < R.length) (e : R[k].1 = c) : hasK R c = true := by
  unfold hasK
  rw [List.any_eq_true]
  exact ⟨R[k], List.getElem_mem h, by simp [e]⟩
theorem hasK_no {R : List Rp} {c : Int} (h : ∀ j (hj : j < R.length), (R[j].1 == c) = false) : hasK R c = false := by
  unfold hasK
  rw [List.any_eq_false]
  intro x hx
  obtain ⟨j, hj, e⟩ := List.getElem_of_mem hx
  rw [← e, h j hj]; decide
set_option maxRecDepth 100000 in
theorem hasR_any (R : List Rp) (v : Value) (c : Int) (w : World) (b : Nat) (hl : R.length ≤ 100000) (h1 : w.ownsRow b 75 3 v R.length (R.flatMap rpV)) :
    Calls Try.prog 14 #[v, .int .i64 c] w fun e w' => e = .returned (.bool (hasK R c)) ∧ w' = w := by
  have HO1 := hide h1
  obtain ⟨ao, cap1, rfl⟩ := own_v h1
  clear h1
  go_enter Try.func14, Try.ntmps14
  go_wp2
  go_loop [5] (fun a => ∃ k : Nat, k ≤ R.length ∧ a = .int .i64 k ∧ ∀ j (hj : j < R.length), j < k → (R[j].1 == c) = false) (fun a => R.length - (intOf a).toNat)
  case atStart => exact ⟨0, Nat.zero_le _, rfl, fun j _ hj => by omega⟩
  case round =>
    obtain ⟨k, hk, rfl, hno⟩ := hrel
    have HN := hide hno
    clear hno
    by_cases hlt : k < R.length
    · obtain ⟨g1, c1, hv1, _, hg1, _, _, hr1⟩ := own_el rpV_len HO1.out (List.getElem?_eq_getElem hlt)
      cases hv1
      have d0 : w.cell? ⟨g1, k * 3, none⟩ = some (.int .i64 R[k].1) := hr1 0 _ rfl
      have HY := hide (fun e => hasK_yes (R := R) (c := c) hlt e)
      have HNX := hide (fun (e : (R[k].1 == c) = false) j (h : j < R.length) (hj : j < k + 1) => (if e2 : j = k then (by subst e2; exact e) else HN.out j h (by omega) : (R[j].1 == c) = false))
      clear hr1
      generalize R[k].1 = r at *
      have hki : (k : Int) < (R.length : Int) := by omega
      have hk0 : (0 : Int) ≤ (k : Int) := by omega
      cases hb : (r == c)
      · rw [hb] at HNX
        go_wp2
        go_round
        case rel => exact ⟨k + 1, by omega, by go_num, HNX.out (by first | rfl | trivial)⟩
        case measure => simp [intOf]; omega
      · have HYY := hide (HY.out (by simpa using hb))
        clear HNX HY
        go_wp2
        go_ret
        exact ⟨by rw [HYY.out]; rfl, rfl⟩
    · have HE := hide (hasK_no (R := R) (c := c) (fun j hj => HN.out j hj (by omega)))
      go_wp2
      go_ret
      exact ⟨by rw [HE.out]; rfl, rfl⟩
set_option maxRecDepth 100000 in
theorem lives_any (w : World) :
    Calls Try.prog 8 #[] w fun e w' => e = .returned (.bool true) ∧ Below w.heap.size w w' := by
  have AA := wAnalyse_any (Wd.mkS [116, 123, 45, 97, 125]) w (by decide)
  rw [mkS_list, read_it1] at AA
  unfold RPost at AA
  simp only [analyse_it1] at AA
  have AR := fun W => wrun_any (Wd.mkS [116, 123, 43, 97, 45, 97, 125]) 1 (Wd.mkS [48, 48, 48, 46, 48, 46, 48, 46]) W (by decide) (by decide) (by decide) (by decide)
  simp only [mkS_list, run_it2] at AR
  have HA := hide AA
  have HR := hide AR
  clear AA AR
  have hst : (Wd.mkS [116, 43, 45, 101]).toList = [116, 43, 45, 101] := mkS_toList _
  go_enter Try.func8, Try.ntmps8
  go_wp2_with (first | (go_at_call 30; refine (HR.out _).mono ?_; rintro e w2 ⟨rfl, hb2⟩; have HB2 := hide (HB1.out.trans (hb2.mono HB1.out.size)); have k0 := (hb2.cell (p := ⟨g, 0, none⟩) hg).trans c0; have k1 := (hb2.cell (p := ⟨g, 1, none⟩) hg).trans c1; have k2 := (hb2.cell (p := ⟨g, 2, none⟩) hg).trans c2; clear hb2) | (go_at_call 13; refine (HA.out).mono ?_; rintro e w1 ⟨hb1, ao, cc, rfl, hown⟩; have HB1 := hide hb1; clear hb1; obtain ⟨g, cap, hv, _, hg, _, _, hr⟩ := own_el rpV_len (i := 0) hown rfl; cases hv; have c0 := hr 0 _ rfl; have c1 := hr 1 _ rfl; have c2 := hr 2 _ rfl; clear hr hown))
  go_ret
  exact ⟨rfl, HB2.out⟩
end Go.Proofs.Ytecmfdkhcffpmab
/- Contract: is a letter foreseen by the reports? -/
namespace Go.Proofs.Ytecmfdkhcffpmab
open Go.RowKit
set_option linter.unusedSimpArgs false
set_option linter.unusedVariables false
set_option maxHeartbeats 8000000
open Wd Mc

set_option maxRecDepth 100000 in
theorem warned_any (R : List Rp) (v : Value) (t : Int) (w : World) (b : Nat) (hl : R.length ≤ 100000) (h1 : w.ownsRow b 75 3 v R.length (R.flatMap rpV)) (ht0 : 0 ≤ t) (ht1 : t ≤ 255) :
    Calls Try.prog 16 #[v, .int .u8 t] w fun e w' => e = .returned (.bool (warnedP R t)) ∧ w' = w := by
  have A := hide (fun c => hasR_any R v c w b hl h1)
  obtain ⟨ao, cap1, rfl⟩ := own_v h1
  clear h1
  by_cases e1 : t = 68
  · subst e1
    have HE : Hid (warnedP R 68 = (hasK R 1 || hasK R 6)) := hide (by simp [warnedP])
    have B1 := hide (A.out 1)
    have B2 := hide (A.out 6)
    clear A
    cases h1 : hasK R 1
    · rw [h1] at B1 HE
      go_enter Try.func16, Try.ntmps16
      go_wp2_with (first | (have hx := HT1.out; go_at_call 14; refine (B2.out).mono ?_; rintro e w' ⟨rfl, hww⟩; obtain rfl := hww.symm; clear hww hx) | (go_at_call 14; refine (B1.out).mono ?_; rintro e w' ⟨rfl, hww⟩; obtain rfl := hww.symm; clear hww; have HT1 := hide True.intro))
      go_ret
      exact ⟨ret_bool (by rw [HE.out]; simp), rfl⟩
    · rw [h1] at B1 HE
      go_enter Try.func16, Try.ntmps16
      go_wp2_with (first | (have hx := HT1.out; go_at_call 14; refine (B2.out).mono ?_; rintro e w' ⟨rfl, hww⟩; obtain rfl := hww.symm; clear hww hx) | (go_at_call 14; refine (B1.out).mono ?_; rintro e w' ⟨rfl, hww⟩; obtain rfl := hww.symm; clear hww; have HT1 := hide True.intro))
      go_ret
      exact ⟨ret_bool (by rw [HE.out]; simp), rfl⟩
  by_cases e2 : t = 85
  · subst e2
    have HE : Hid (warnedP R 85 = hasK R 2) := hide (by simp [warnedP])
    have B1 := hide (A.out 2)
    clear A e1
    generalize hasK R 2 = q at *
    go_enter Try.func16, Try.ntmps16
    go_wp2_with (first | (go_at_call 14; (refine (B1.out).mono ?_; rintro e w' ⟨rfl, hww⟩; obtain rfl := hww.symm; clear hww)))
    go_ret
    exact ⟨ret_bool (by rw [HE.out]), rfl⟩
  by_cases e3 : t = 83
  · subst e3
    have HE : Hid (warnedP R 83 = hasK R 3) := hide (by simp [warnedP])
    have B1 := hide (A.out 3)
    clear A e1
    generalize hasK R 3 = q at *
    go_enter Try.func16, Try.ntmps16
    go_wp2_with (first | (go_at_call 14; (refine (B1.out).mono ?_; rintro e w' ⟨rfl, hww⟩; obtain rfl := hww.symm; clear hww)))
    go_ret
    exact ⟨ret_bool (by rw [HE.out]), rfl⟩
  by_cases e4 : t = 69
  · subst e4
    have HE : Hid (warnedP R 69 = hasK R 4) := hide (by simp [warnedP])
    have B1 := hide (A.out 4)
    clear A e1
    generalize hasK R 4 = q at *
    go_enter Try.func16, Try.ntmps16
    go_wp2_with (first | (go_at_call 14; (refine (B1.out).mono ?_; rintro e w' ⟨rfl, hww⟩; obtain rfl := hww.symm; clear hww)))
    go_ret
    exact ⟨ret_bool (by rw [HE.out]), rfl⟩
  by_cases e5 : t = 73
  · subst e5
    have HE : Hid (warnedP R 73 = hasK R 5) := hide (by simp [warnedP])
    have B1 := hide (A.out 5)
    clear A e1
    generalize hasK R 5 = q at *
    go_enter Try.func16, Try.ntmps16
    go_wp2_with (first | (go_at_call 14; (refine (B1.out).mono ?_; rintro e w' ⟨rfl, hww⟩; obtain rfl := hww.symm; clear hww)))
    go_ret
    exact ⟨ret_bool (by rw [HE.out]), rfl⟩
  by_cases e6 : t = 87
  · subst e6
    have HE : Hid (warnedP R 87 = hasK R 6) := hide (by simp [warnedP])
    have B1 := hide (A.out 6)
    clear A e1
    generalize hasK R 6 = q at *
    go_enter Try.func16, Try.ntmps16
    go_wp2_with (first | (go_at_call 14; (refine (B1.out).mono ?_; rintro e w' ⟨rfl, hww⟩; obtain rfl := hww.symm; clear hww)))
    go_ret
    exact ⟨ret_bool (by rw [HE.out]), rfl⟩
  by_cases e7 : t = 82
  · subst e7
    have HE : Hid (warnedP R 82 = hasK R 7) := hide (by simp [warnedP])
    have B1 := hide (A.out 7)
    clear A e1
    generalize hasK R 7 = q at *
    go_enter Try.func16, Try.ntmps16
    go_wp2_with (first | (go_at_call 14; (refine (B1.out).mono ?_; rintro e w' ⟨rfl, hww⟩; obtain rfl := hww.symm; clear hww)))
    go_ret
    exact ⟨ret_bool (by rw [HE.out]), rfl⟩
  · have HE : Hid (warnedP R t = true) := hide (by simp [warnedP, e1, e2, e3, e4, e5, e6, e7])
    have b1 : (t == 68) = false := by simp [e1]
    have b2 : (t == 85) = false := by simp [e2]
    have b3 : (t == 83) = false := by simp [e3]
    have b4 : (t == 69) = false := by simp [e4]
    have b5 : (t == 73) = false := by simp [e5]
    have b6 : (t == 87) = false := by simp [e6]
    have b7 : (t == 82) = false := by simp [e7]
    clear e1 e2 e3 e4 e5 e6 e7 A
    go_enter Try.func16, Try.ntmps16
    go_wp2
    go_ret
    exact ⟨ret_bool (by rw [HE.out]), rfl⟩
end Go.Proofs.Ytecmfdkhcffpmab
/- Arguments of the laws as they come: raw numbers, the parts of a program. -/
namespace Go.Proofs.Ytecmfdkhcffpmab
open Go.ChangeShapes Go.WideShapes Go.ChangeAt Go.RowKit Go.Deep
set_option linter.unusedSimpArgs false
set_option linter.unusedVariables false
set_option maxHeartbeats 800000
open Wd

theorem Try.cellsInt : Try.prog.cellsOf 3 = 1 := by kernel_rfl
theorem Try.cellsBool : Try.prog.cellsOf 4 = 1 := by kernel_rfl
theorem Try.cellsInts : Try.prog.cellsOf 32 = 1 := by kernel_rfl
theorem Try.cellsPart : Try.prog.cellsOf 34 = 2 := by kernel_rfl
theorem Try.laidOut : laidOutB Try.prog = true := by kernel_rfl
theorem range64 {n : Int} (h : (Lit.int .i64 n).wf = true) : -9223372036854775808 ≤ n ∧ n ≤ 9223372036854775807 := by
  simp [Lit.wf, IntKind.min, IntKind.max, IntKind.bits, IntKind.signed] at h
  omega
theorem ints_cells {H : Type} {enc : TypeId × Value → H} {W : World} {fuel : Nat} {v : Value} {x : DataW H × List MemPlace} (h : DataW.trod enc Try.prog W 0 (fun _ => true) true fuel 32 [v] = some x) (hlt : ∀ p ∈ x.2, p.block < W.heap.size) : ∃ zs, IntsIn W v zs := by
  rcases open_ints Try.underlying32 Try.underlying3 Try.cellsInt h with ⟨hcs, hx⟩ | ⟨a, len, cap, zs, hcs, _, hl, hm, hz, hx, hcell, hwz⟩
  · simp at hcs
    subst hcs
    exact ⟨[], none, 0, rfl, by simp, by simp, fun i hi => by simp at hi⟩
  · simp at hcs
    subst hcs
    simp only [if_true] at hz
    rw [hx] at hlt
    have hlen : (zs.take len).length = len := by simp; omega
    refine ⟨zs.take len, some a, cap, by rw [hlen], by rw [hlen]; omega, fun z hz => range64 (hwz z (List.mem_of_mem_take hz)), fun i hi => ?_⟩
    rw [hlen] at hi
    refine ⟨a, rfl, ?_, ?_⟩
    · exact hlt (.cell a.block (a.off + i)) (MemPlace.mem_row.2 ⟨i, by omega, rfl⟩)
    · rw [hcell i (by omega), List.getElem_take, List.getD_eq_getElem?_getD, List.getElem?_eq_getElem (by omega)]; rfl
theorem parts_cells {H : Type} {enc : TypeId × Value → H} {W : World} {fuel : Nat} {v : Value} {x : DataW H × List MemPlace} (h : DataW.trod enc Try.prog W 0 (fun _ => true) true fuel 22 [v] = some x) (hlt : ∀ p ∈ x.2, p.block < W.heap.size) : ∃ ps, PartsIn W v ps := by
  rcases open_slice_pairs Try.underlying22 Try.underlying34 Try.cellsPart rfl rfl Try.cellsBool Try.cellsInts h with ⟨hcs, hx⟩ | ⟨a, len, cap, m, n, V0, V1, D0, D1, P0, P1, hcs, _, hl, hm, hmm, hx, hall⟩
  · simp at hcs
    subst hcs
    exact ⟨[], none, 0, rfl, by simp, fun i hi => by simp at hi⟩
  · simp at hcs
    subst hcs
    simp only [if_true] at hmm
    subst hmm
    rw [hx] at hlt
    have each : ∀ i, i < len → ∃ p : Pt, W.cell? (a.add (i * 2)) = some (.bool p.handler) ∧ ∃ u, W.cell? (a.add (i * 2 + 1)) = some u ∧ IntsIn W u p.steps := by
      intro i hi
      obtain ⟨h1, h2, h3, h4⟩ := hall i (by omega)
      obtain ⟨b, hb, _⟩ := DataW.trod_bool Try.underlying4 h3
      obtain ⟨zs, hzs⟩ := ints_cells h4 (fun p hp => hlt p (by
        simp only [List.mem_append, List.mem_flatMap, List.mem_range]
        exact Or.inr ⟨i, by omega, Or.inr hp⟩))
      simp at hb
      exact ⟨⟨b, zs⟩, by rw [h1, hb], V1 i, h2, hzs⟩
    have hex : ∀ n, n ≤ len → ∃ ps : List Pt, ps.length = n ∧ ∀ i (h : i < ps.length), W.cell? (a.add (i * 2)) = some (.bool ps[i].handler) ∧ ∃ u, W.cell? (a.add (i * 2 + 1)) = some u ∧ IntsIn W u ps[i].steps := by
      intro n
      induction n with
      | zero => intro _; exact ⟨[], rfl, fun i h => by simp at h⟩
      | succ n ih =>
        intro hn
        obtain ⟨ps, h1, h2⟩ := ih (by omega)
        obtain ⟨p, hp⟩ := each n (by omega)
        refine ⟨ps ++ [p], by simp [h1], fun i h => ?_⟩
        by_cases e : i < ps.length
        · rw [List.getElem_append_left e]; exact h2 i e
        · have e2 : i = n := by simp at h; omega
          subst e2
          rw [List.getElem_append_right (by omega)]
          simp only [h1, Nat.sub_self, List.getElem_cons_zero]
          exact hp
    obtain ⟨ps, h1, h2⟩ := hex len (Nat.le_refl _)
    refine ⟨ps, some a, m, by rw [h1], by omega, fun i hi => ⟨a, rfl, ?_, (h2 i hi).1, (h2 i hi).2⟩⟩
    exact hlt (.cell a.block (a.off + 0)) (List.mem_append.2 (Or.inl (MemPlace.mem_row.2 ⟨0, by omega, rfl⟩)))
set_option maxRecDepth 100000 in
theorem parts_of {H : Type} {enc : TypeId × Value → H} {W : World} {base : Nat} {v : Value} {d : DataW H} {p : List MemPlace} (hv : Value.okWide Try.prog W .any base 22 v) (h : DataW.Trod enc Try.prog W 0 (fun _ => true) true 22 v d p) (hlt : ∀ x ∈ p, x.block < W.heap.size) : ∃ ps, PartsIn W v ps := by
  obtain ⟨a, len, cap, rfl⟩ := okWide_slice Try.underlying22 hv
  obtain ⟨fuel, hf⟩ := h
  exact parts_cells hf hlt
set_option maxRecDepth 100000 in
theorem ints_of {H : Type} {enc : TypeId × Value → H} {W : World} {base : Nat} {v : Value} {d : DataW H} {p : List MemPlace} (hv : Value.okWide Try.prog W .any base 32 v) (h : DataW.Trod enc Try.prog W 0 (fun _ => true) true 32 v d p) (hlt : ∀ x ∈ p, x.block < W.heap.size) : ∃ zs, IntsIn W v zs := by
  obtain ⟨a, len, cap, rfl⟩ := okWide_slice Try.underlying32 hv
  obtain ⟨fuel, hf⟩ := h
  exact ints_cells hf hlt
end Go.Proofs.Ytecmfdkhcffpmab
