/- Contracts: the same reports; of two sources the same is told, and they go the same way. -/
import Derived.Test.YtecmfdkhcffpmabB46
import Derived.Deep.QuietTactic
import Derived.BigQuiet
namespace Go.Proofs.Ytecmfdkhcffpmab
open Go.RowKit
set_option linter.unusedSimpArgs false
set_option linter.unusedVariables false
set_option maxHeartbeats 8000000
open Wd Mc
set_option maxRecDepth 100000 in
set_option maxHeartbeats 8000000 in
theorem keepReports_eq (R : List Rp) (v1 v2 : Value) (w : World) (b1 b2 : Nat) (hl : R.length ≤ 100000) (h1 : w.ownsRow b1 75 3 v1 R.length (R.flatMap rpV)) (h2 : w.ownsRow b2 75 3 v2 R.length (R.flatMap rpV)) :
    Calls Try.prog 40 #[v1, v2] w fun e w' => e = .returned (.bool true) ∧ Below w.heap.size w w' := by
  have HO1 := hide h1
  have HO2 := hide h2
  obtain ⟨ao, cap1, rfl⟩ := own_v h1
  obtain ⟨bo, cap2, rfl⟩ := own_v h2
  clear h1 h2
  have hne : (((R.length : Nat) : Int) != ((R.length : Nat) : Int)) = false := by simp
  go_enter Try.func40, Try.ntmps40
  go_wp2
  go_loopw [5] (fun a wr => ∃ k : Nat, k ≤ R.length ∧ a = .int .i64 k ∧ Below w.heap.size w wr) (fun a _ => R.length - (intOf a).toNat)
  case atStart => exact ⟨0, Nat.zero_le _, rfl, Below.refl _ _⟩
  case round =>
    obtain ⟨k, hk, rfl, hbe⟩ := hrel
    have HB := hide hbe
    clear hbe
    by_cases hlt : k < R.length
    · obtain ⟨g1, c1, hv1, _, hg1, _, _, hr1⟩ := own_el rpV_len HO1.out (List.getElem?_eq_getElem hlt)
      obtain ⟨g2, c2, hv2, _, hg2, _, _, hr2⟩ := own_el rpV_len HO2.out (List.getElem?_eq_getElem hlt)
      cases hv1
      cases hv2
      have d0 := (HB.out.cell (p := ⟨g1, k * 3, none⟩) hg1).trans (hr1 0 _ rfl)
      have e0 := (HB.out.cell (p := ⟨g2, k * 3, none⟩) hg2).trans (hr2 0 _ rfl)
      have d1 := (HB.out.cell (p := ⟨g1, k * 3 + 1, none⟩) hg1).trans (hr1 1 _ rfl)
      have e1 := (HB.out.cell (p := ⟨g2, k * 3 + 1, none⟩) hg2).trans (hr2 1 _ rfl)
      have d2 := (HB.out.cell (p := ⟨g1, k * 3 + 2, none⟩) hg1).trans (hr1 2 _ rfl)
      have e2 := (HB.out.cell (p := ⟨g2, k * 3 + 2, none⟩) hg2).trans (hr2 2 _ rfl)
      clear hr1 hr2
      generalize R[k] = r at *
      have b0 : ((r.1) != (r.1)) = false := by simp
      have b1 : ((r.2.1) != (r.2.1)) = false := by simp
      have b2 : ((r.2.2) != (r.2.2)) = false := by simp
      have hki : (k : Int) < (R.length : Int) := by omega
      have hk0 : (0 : Int) ≤ (k : Int) := by omega
      go_wp2_with fail
      go_quiet (fail)
      go_wp2
      exact ⟨⟨k + 1, by omega, by go_num, below_drewN HB.out _⟩, by simp [intOf]; omega⟩
    · go_wp2
      go_ret
      exact ⟨rfl, HB.out⟩
theorem Src.edges {l : List UInt8} {its : List It} (h : Src l its) (w : World) : Calls Try.prog 20 #[.string (Wd.mkS l)] w fun e w' =>
    Below w.heap.size w w' ∧ ∃ ao cc, e = .returned (.tuple #[.slice ao (edgeL (edgeS its) 6).length cc, .int .i64 0]) ∧ w'.ownsRow w.heap.size 50 2 (.slice ao (edgeL (edgeS its) 6).length cc) (edgeL (edgeS its) 6).length ((edgeL (edgeS its) 6).flatMap edV) := by
  have := wEdges_any (Wd.mkS l) w (by rw [Wd.mkS_size]; have := h.len; unfold maxLen; omega)
  rw [mkS_list, h.read] at this
  exact this
set_option maxRecDepth 100000 in
theorem told_yes (l m : List UInt8) (its : List It) (n : Nat) (s : List UInt8) (w : World) (hl : Src l its) (hm : Src m its) (h0 : 0 < n) (hn : n ≤ 3) (hs : s.length ≤ 200000) (hsc : scriptB n s = true) :
    Calls Try.prog 29 #[.string (Wd.mkS l), .string (Wd.mkS m), .int .i64 n, .string (Wd.mkS s)] w fun e w' => e = .returned (.bool true) ∧ Below w.heap.size w w' := by
  have T1 := hide (fun W => hl.trace n h0 hn s hs hsc W)
  have T2 := hide (fun W => hm.trace n h0 hn s hs hsc W)
  have A1 := hide (fun W => hl.analyse W)
  have A2 := hide (fun W => hm.analyse W)
  have E1 := hide (fun W => hl.edges W)
  have E2 := hide (fun W => hm.edges W)
  have hrl := rep_len its hl.fine
  have hel := edgeL_len (edgeS its) 6
  clear hl hm hsc
  generalize traceB its n (begin_ its) s = T at *
  generalize analyseS its = R at *
  generalize edgeL (edgeS its) 6 = D at *
  have SR := hide (fun v1 v2 W b1 b2 h1 h2 => keepReports_eq R v1 v2 W b1 b2 (by omega) h1 h2)
  have hst : ((Wd.mkS T).toList == (Wd.mkS T).toList) = true := by simp
  have hdl : (((D.length : Nat) : Int) != ((D.length : Nat) : Int)) = false := by simp
  go_enter Try.func29, Try.ntmps29
  go_wp2_with fail
  go_at_call 12
  refine (T1.out _).mono ?_
  rintro e w1 ⟨rfl, hb1⟩
  have HB1 := hide hb1
  clear hb1
  go_wp2_with fail
  go_at_call 12
  refine (T2.out _).mono ?_
  rintro e w2 ⟨rfl, hb2⟩
  have HB2 := hide (below_go HB1.out hb2)
  clear hb2 HB1
  go_wp2_with fail
  go_at_call 13
  refine (A1.out _).mono ?_
  rintro e w3 ⟨hb3, ao3, cc3, rfl, hown3⟩
  have HB3 := hide (below_go HB2.out hb3)
  have HO3 := hide hown3
  clear hb3 hown3 HB2
  go_wp2_with fail
  go_at_call 13
  refine (A2.out _).mono ?_
  rintro e w4 ⟨hb4, ao4, cc4, rfl, hown4⟩
  have HB4 := hide (below_go HB3.out hb4)
  have HO4 := hide hown4
  have HO3' := hide (own_same HO3.out (fun g _ hl => hb4.block g hl))
  clear hb4 hown4 HB3 HO3
  go_wp2_with fail
  go_at_call 40
  refine (SR.out _ _ _ _ _ HO3'.out HO4.out).mono ?_
  rintro e w5 ⟨rfl, hb5⟩
  have HB5 := hide (below_go HB4.out hb5)
  clear hb5 HB4 HO3' HO4
  go_wp2_with fail
  go_at_call 20
  refine (E1.out _).mono ?_
  rintro e w6 ⟨hb6, ao6, cc6, rfl, hown6⟩
  have HB6 := hide (below_go HB5.out hb6)
  have HO6 := hide hown6
  clear hb6 hown6 HB5
  go_wp2_with fail
  go_at_call 20
  refine (E2.out _).mono ?_
  rintro e w7 ⟨hb7, ao7, cc7, rfl, hown7⟩
  have HB7 := hide (below_go HB6.out hb7)
  have HO7 := hide hown7
  have HO6' := hide (own_same HO6.out (fun g _ hl => hb7.block g hl))
  clear hb7 hown7 HB6 HO6
  go_wp2
  go_loopw [22] (fun a wr => ∃ k : Nat, k ≤ D.length ∧ a = .int .i64 k ∧ Below w7.heap.size w7 wr) (fun a _ => D.length - (intOf a).toNat)
  case atStart => exact ⟨0, Nat.zero_le _, rfl, Below.refl _ _⟩
  case round =>
    obtain ⟨k, hk, rfl, hbe⟩ := hrel
    have HB := hide hbe
    clear hbe
    by_cases hlt : k < D.length
    · obtain ⟨g1, c1, hv1, _, hg1, _, _, hr1⟩ := own_el edV_len HO6'.out (List.getElem?_eq_getElem hlt)
      obtain ⟨g2, c2, hv2, _, hg2, _, _, hr2⟩ := own_el edV_len HO7.out (List.getElem?_eq_getElem hlt)
      cases hv1
      cases hv2
      have d0 := (HB.out.cell (p := ⟨g1, k * 2, none⟩) hg1).trans (hr1 0 _ rfl)
      have e0 := (HB.out.cell (p := ⟨g2, k * 2, none⟩) hg2).trans (hr2 0 _ rfl)
      have d1 := (HB.out.cell (p := ⟨g1, k * 2 + 1, none⟩) hg1).trans (hr1 1 _ rfl)
      have e1 := (HB.out.cell (p := ⟨g2, k * 2 + 1, none⟩) hg2).trans (hr2 1 _ rfl)
      clear hr1 hr2
      generalize D[k] = r at *
      have b0 : ((r.1) != (r.1)) = false := by simp
      have b1 : ((r.2) != (r.2)) = false := by simp
      have hki : (k : Int) < (D.length : Int) := by omega
      have hk0 : (0 : Int) ≤ (k : Int) := by omega
      go_wp2_with fail
      go_quiet (fail)
      go_wp2
      exact ⟨⟨k + 1, by omega, by go_num, below_drewN HB.out _⟩, by simp [intOf]; omega⟩
    · go_wp2
      go_ret
      exact ⟨rfl, HB7.out.trans (HB.out.mono HB7.out.size)⟩
end Go.Proofs.Ytecmfdkhcffpmab
