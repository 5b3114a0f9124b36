/- MacL. -/
import Derived.Test.YtecmfdkhcffpmaaB09
/- Contracts of the document's machine: a step, on. -/
namespace Go.Proofs.Ytecmfdkhcffpmaa
open Go.RowKit
set_option linter.unusedSimpArgs false
set_option linter.unusedVariables false
set_option maxHeartbeats 8000000
open Mc

theorem cps_setO (S : Ma) (c : Nat) (o : Bool) (i : Nat) : (if i = c * 9 + 8 then Value.bool o else cpsF S i) = cpsF (setOff S c o) i := by
  unfold cpsF setOff setCp
  by_cases e : i / 9 = c
  · have hi : i = c * 9 + i % 9 := by omega
    have hm : i % 9 < 9 := Nat.mod_lt _ (by omega)
    simp only [e, if_true]
    generalize i % 9 = m at *
    subst hi
    rcases m with _ | _ | _ | _ | _ | _ | _ | _ | _ | m <;> first | omega | (rw [if_neg (by omega)]; rfl) | (rw [if_pos rfl]; rfl)
  · simp only [if_neg e]
    rw [if_neg (by omega)]
theorem DM.setO {w : World} {N b : Nat} {A : Ad} {its : List Wd.It} {n : Nat} {S : Ma} (h : DM w N b A its n S) (c : Nat) (o : Bool) : DM (w.setCell ⟨A.g1, c * 9 + 8, none⟩ (.bool o)) N b A its n (setOff S c o) :=
  h.updC ((Kp.refl A w).set1 _ _) ((h.cpus.set (c * 9 + 8) (.bool o)).congr fun i _ => cps_setO S c o i) rfl rfl (fun g hg _ => heap_setCell_other w ⟨A.g1, c * 9 + 8, none⟩ g _ hg)

set_option maxRecDepth 100000 in
theorem step_else (w : World) (N b : Nat) (A : Ad) (its : List Wd.It) (n : Nat) (S : Ma) (c : Nat) (second : Bool) (h : DM w N b A its n S) (ho : ItsOK its) (hi : Inv its n S) (hn : n ≤ 3) (hc : c < n) (fi fp fh : Nat) (hwk : works S c = ⟨true, fi, fp, fh⟩) (m101 : atB (bodyOf its fi) fp ≠ 101) (m43 : atB (bodyOf its fi) fp ≠ 43) (m122 : atB (bodyOf its fi) fp ≠ 122) (m114 : atB (bodyOf its fi) fp ≠ 114) (m119 : atB (bodyOf its fi) fp ≠ 119) :
    Calls Try.prog 83 #[.pointer (some ⟨b, 0, none⟩), .int .i64 c, .bool second] w fun e w' => e = .returned (.int .u8 (Mc.step its S n c second).1) ∧ DM w' N b A its n (Mc.step its S n c second).2 ∧ Kp A w w' := by
  have CA := h.caps
  unfold maxLen at CA
  have hok := works_ok hi c hc
  have hhe := works_held hi c hc
  have W1 := worksA_any w N b A its n S c h hc hn
  rw [hwk] at hok hhe W1
  obtain ⟨hit, hpo'⟩ := hok rfl
  have hpo : fp ≤ 20000 := by have := ho.body fi hit; simp only at hpo'; omega
  simp only at hit hhe
  have AA := hide (fun W => atBody_any its ho fi fp W hit hpo)
  have e : Mc.step its S n c second = Mc.lone its S c second := by simp only [Mc.step, hwk]; rw [if_neg (by simp), if_neg m101, if_neg m43, if_neg m122, if_neg (by rintro ⟨e | e, _⟩; exact m114 e; exact m119 e)]
  rw [e]
  have AL := hide (fun W => alone_any W its ho fi ⟨true, fi, fp, fh⟩ (S.cp c).h.there (S.cp c).off second hit hpo (by simp only; omega))
  have e2 : Mc.lone its S c second = ((alone (bodyOf its fi) ⟨true, fi, fp, fh⟩ (S.cp c).h.there (S.cp c).off second).1, setOff (put S c (alone (bodyOf its fi) ⟨true, fi, fp, fh⟩ (S.cp c).h.there (S.cp c).off second).2.1) c (alone (bodyOf its fi) ⟨true, fi, fp, fh⟩ (S.cp c).h.there (S.cp c).off second).2.2) := by simp only [Mc.lone, hwk]
  rw [e2]
  have n101 : (atB (bodyOf its fi) fp == 101) = false := by simp [m101]
  have n43 : (atB (bodyOf its fi) fp == 43) = false := by simp [m43]
  have n122 : (atB (bodyOf its fi) fp == 122) = false := by simp [m122]
  have n114 : (atB (bodyOf its fi) fp == 114) = false := by simp [m114]
  have n119 : (atB (bodyOf its fi) fp == 119) = false := by simp [m119]
  have bch := atB_bd (bodyOf its fi) fp
  clear e e2 m101 m43 m122 m114 m119
  generalize atB (bodyOf its fi) fp = ch at *
  generalize alone (bodyOf its fi) ⟨true, fi, fp, fh⟩ (S.cp c).h.there (S.cp c).off second = r at *
  obtain ⟨rt, ⟨gt, gi, gp, gh⟩, ro⟩ := r
  dsimp only at AL ⊢
  have W1' : Hid (Calls Try.prog 102 #[.pointer (some ⟨b, 0, none⟩), .int .i64 c] w fun e w' => e = .returned (.agg #[.bool true, .int .i64 (fi : Int), .int .i64 (fp : Int), .int .i64 (fh : Int)]) ∧ Below w.heap.size w w') := hide W1
  have HM := hide h
  have HO := hide ho
  have HI := hide hi
  have HW := hide hwk
  clear h ho hi hwk W1 hok hpo'
  generalize hHT : (S.cp c).h.there = hd at *
  generalize hOF : (S.cp c).off = of at *
  have HHT := hide hHT
  have HOF := hide hOF
  clear hHT hOF
  cases of
  · go_enter Try.func83, Try.ntmps83
    go_wp2_with (first | (go_at_call 102; refine W1'.out.mono ?_; rintro e w1 ⟨rfl, hb1⟩; have HM1 := hide (HM.out.below hb1); have r0 : ∀ o, (w1.alloc o).cell? ⟨b, 0, none⟩ = some (.slice A.ai its.length A.ci) := (fun o => (HM1.out.alloc o).root.cell 0 (by omega)); have r1 : ∀ o, (w1.alloc o).cell? ⟨b, 1, none⟩ = some (.slice (some ⟨A.g1, 0, none⟩) n A.c1) := (fun o => (HM1.out.alloc o).root.cell 1 (by omega)); have p4 : ∀ o, (w1.alloc o).cell? ⟨A.g1, c * 9 + 4, none⟩ = some (.bool hd) := (fun o => by rw [← HHT.out]; exact (HM1.out.alloc o).cpAt c 4 hc (by omega)); have p8 : ∀ o, (w1.alloc o).cell? ⟨A.g1, c * 9 + 8, none⟩ = some (.bool false) := (fun o => by rw [← HOF.out]; exact (HM1.out.alloc o).cpAt c 8 hc (by omega)); obtain ⟨g, hg, q1, _⟩ := HM1.out.bodyAt fi hit; rw [hg] at r0; have q1' : ∀ o, (w1.alloc o).cell? ⟨g, fi * 2 + 1, none⟩ = some (.string (Wd.mkS (bodyOf its fi))) := (fun o => by obtain ⟨g', hg', q', _⟩ := (HM1.out.alloc o).bodyAt fi hit; rw [hg] at hg'; cases hg'; exact q'); clear q1 hg) | (refine wpList_store_row rfl 131 _ _ rfl _ _ rfl rfl 131 _ (heap_alloc_last _ _) Try.iFrame rfl (frA_one ⟨true, fi, fp, fh⟩) ?_; rw [World.setRow_alloc_new]))
    go_quiet (fail)
    have HMW := hide ((HM1.out.alloc (.cells #[.bool true, .int .i64 (fi : Int), .int .i64 (fp : Int), .int .i64 (fh : Int)] 131)).drewN nq)
    have HFW := hide ((Blk.newFr w1 ⟨true, fi, fp, fh⟩ 131).drewN nq)
    have HBW := hide (below_drewN (below_new hb1 (.cells #[.bool true, .int .i64 (fi : Int), .int .i64 (fp : Int), .int .i64 (fh : Int)] 131)) nq)
    clear r0 r1 p4 p8 q1'
    generalize (w1.alloc (.cells #[.bool true, .int .i64 (fi : Int), .int .i64 (fp : Int), .int .i64 (fh : Int)] 131)).drewN nq = W at *
    have a0 : W.cell? ⟨w1.heap.size, 0, none⟩ = some (.bool true) := HFW.out.cell 0 (by omega)
    have a1 : W.cell? ⟨w1.heap.size, 1, none⟩ = some (.int .i64 (fi : Int)) := HFW.out.cell 1 (by omega)
    have a2 : W.cell? ⟨w1.heap.size, 2, none⟩ = some (.int .i64 (fp : Int)) := HFW.out.cell 2 (by omega)
    have a3 : W.cell? ⟨w1.heap.size, 3, none⟩ = some (.int .i64 (fh : Int)) := HFW.out.cell 3 (by omega)
    have r1 : W.cell? ⟨b, 1, none⟩ = some (.slice (some ⟨A.g1, 0, none⟩) n A.c1) := HMW.out.root.cell 1 (by omega)
    have p8 : W.cell? ⟨A.g1, c * 9 + 8, none⟩ = some (.bool false) := by rw [← HOF.out]; exact HMW.out.cpAt c 8 hc (by omega)
    generalize w1.heap.size = G at *
    generalize Wd.mkS (bodyOf its fi) = sb at *
    have a0' : ∀ o, (W.alloc o).cell? ⟨G, 0, none⟩ = some (.bool true) := fun o => (HFW.out.alloc o).cell 0 (by omega)
    have a1' : ∀ o, (W.alloc o).cell? ⟨G, 1, none⟩ = some (.int .i64 (fi : Int)) := fun o => (HFW.out.alloc o).cell 1 (by omega)
    have a2' : ∀ o, (W.alloc o).cell? ⟨G, 2, none⟩ = some (.int .i64 (fp : Int)) := fun o => (HFW.out.alloc o).cell 2 (by omega)
    have a3' : ∀ o, (W.alloc o).cell? ⟨G, 3, none⟩ = some (.int .i64 (fh : Int)) := fun o => (HFW.out.alloc o).cell 3 (by omega)
    have r1' : ∀ o, (W.alloc o).cell? ⟨b, 1, none⟩ = some (.slice (some ⟨A.g1, 0, none⟩) n A.c1) := fun o => (HMW.out.alloc o).root.cell 1 (by omega)
    have p8' : ∀ o, (W.alloc o).cell? ⟨A.g1, c * 9 + 8, none⟩ = some (.bool false) := fun o => by rw [← HOF.out]; exact (HMW.out.alloc o).cpAt c 8 hc (by omega)
    go_wp2_with (first | (go_at_call 93; refine (AA.out _).mono ?_; rintro e w' ⟨rfl, hww⟩; obtain rfl := hww.symm; clear hww))
    have hGl : G < W.heap.size := HFW.out.lt
    have hbl : b < W.heap.size := HMW.out.root.lt
    have hg1l : A.g1 < W.heap.size := HMW.out.cpus.lt
    have hGn : W.heap.size ≠ G := by omega
    have hbn : W.heap.size ≠ b := by omega
    have hg1n : W.heap.size ≠ A.g1 := by omega
    go_region_held3 (fun W' => W'.cell? ⟨G, 0, none⟩ = some (.bool true) ∧ W'.cell? ⟨G, 1, none⟩ = some (.int .i64 (fi : Int)) ∧ W'.cell? ⟨G, 2, none⟩ = some (.int .i64 (fp : Int)) ∧ W'.cell? ⟨G, 3, none⟩ = some (.int .i64 (fh : Int)) ∧ W'.cell? ⟨b, 1, none⟩ = some (.slice (some ⟨A.g1, 0, none⟩) n A.c1) ∧ W'.cell? ⟨A.g1, c * 9 + 8, none⟩ = some (.bool false)) (go_keep) (first | (go_at_call 118; refine (AL.out _).mono ?_; rintro e w2 ⟨rfl, hb2⟩; (first | (have g1 := hide (below_row (g := W.heap.size) hb2 (heap_alloc_last W (.cells #[.bool false, .int .i64 0, .int .i64 0, .int .i64 0] 131))); have HB2 := hide (below_go (((Below.refl _ W).alloc (Nat.le_refl _) (.cells #[.bool false, .int .i64 0, .int .i64 0, .int .i64 0] 131)).drew) hb2); have z0 : w2.cell? ⟨W.heap.size, 0, none⟩ = some (.bool false) := row_cell g1.out rfl; have z1 : w2.cell? ⟨W.heap.size, 1, none⟩ = some (.int .i64 0) := row_cell g1.out rfl; have z2 : w2.cell? ⟨W.heap.size, 2, none⟩ = some (.int .i64 0) := row_cell g1.out rfl; have z3 : w2.cell? ⟨W.heap.size, 3, none⟩ = some (.int .i64 0) := row_cell g1.out rfl; have y0 := frozen_of_row w2 W.heap.size 0 _ _ g1.out; have y1 := frozen_of_row w2 W.heap.size 1 _ _ g1.out; have y2 := frozen_of_row w2 W.heap.size 2 _ _ g1.out; have y3 := frozen_of_row w2 W.heap.size 3 _ _ g1.out) | (have HB2 := hide (below_go ((Below.refl _ W).drew) hb2))); have k0 := (HB2.out.cell (p := ⟨G, 0, none⟩) hGl).trans a0; have k1 := (HB2.out.cell (p := ⟨G, 1, none⟩) hGl).trans a1; have k2 := (HB2.out.cell (p := ⟨G, 2, none⟩) hGl).trans a2; have k3 := (HB2.out.cell (p := ⟨G, 3, none⟩) hGl).trans a3; have k4 := (HB2.out.cell (p := ⟨b, 1, none⟩) hbl).trans r1; have k5 := (HB2.out.cell (p := ⟨A.g1, c * 9 + 8, none⟩) hg1l).trans p8))
    all_goals (go_wp2_with (first | (go_at_call 115; refine (put_any _ N b A its n S c ⟨gt, gi, gp, gh⟩ (HMW.out.below (by first | exact (below_new HB2.out _) | exact ((((HB2.out.setCell (p := ⟨W.heap.size, 0, none⟩) (Nat.le_refl _) _).setCell (p := ⟨W.heap.size, 1, none⟩) (Nat.le_refl _) _).setCell (p := ⟨W.heap.size, 2, none⟩) (Nat.le_refl _) _).setCell (p := ⟨W.heap.size, 3, none⟩) (Nat.le_refl _) _))) hc hn).mono ?_; rintro e w3 ⟨rfl, hm3, hk3⟩; have HM3 := hide hm3; have HK3 := hide ((Kp.of (below_go HBW.out (by first | exact (below_new HB2.out _) | exact ((((HB2.out.setCell (p := ⟨W.heap.size, 0, none⟩) (Nat.le_refl _) _).setCell (p := ⟨W.heap.size, 1, none⟩) (Nat.le_refl _) _).setCell (p := ⟨W.heap.size, 2, none⟩) (Nat.le_refl _) _).setCell (p := ⟨W.heap.size, 3, none⟩) (Nat.le_refl _) _)))).trans hk3); have s1 : w3.cell? ⟨b, 1, none⟩ = some (.slice (some ⟨A.g1, 0, none⟩) n A.c1) := hm3.root.cell 1 (by omega); obtain ⟨ov, s8⟩ : ∃ v, w3.cell? ⟨A.g1, c * 9 + 8, none⟩ = some v := ⟨_, hm3.cpAt c 8 hc (by omega)⟩; have s9 := hm3.cpFro c 8; clear hm3 hk3)))
    all_goals (go_ret; exact ⟨rfl, HM3.out.setO c ro, HK3.out.set1 _ _⟩)
  · go_enter Try.func83, Try.ntmps83
    go_wp2_with (first | (go_at_call 102; refine W1'.out.mono ?_; rintro e w1 ⟨rfl, hb1⟩; have HM1 := hide (HM.out.below hb1); have r0 : ∀ o, (w1.alloc o).cell? ⟨b, 0, none⟩ = some (.slice A.ai its.length A.ci) := (fun o => (HM1.out.alloc o).root.cell 0 (by omega)); have r1 : ∀ o, (w1.alloc o).cell? ⟨b, 1, none⟩ = some (.slice (some ⟨A.g1, 0, none⟩) n A.c1) := (fun o => (HM1.out.alloc o).root.cell 1 (by omega)); have p4 : ∀ o, (w1.alloc o).cell? ⟨A.g1, c * 9 + 4, none⟩ = some (.bool hd) := (fun o => by rw [← HHT.out]; exact (HM1.out.alloc o).cpAt c 4 hc (by omega)); have p8 : ∀ o, (w1.alloc o).cell? ⟨A.g1, c * 9 + 8, none⟩ = some (.bool true) := (fun o => by rw [← HOF.out]; exact (HM1.out.alloc o).cpAt c 8 hc (by omega)); obtain ⟨g, hg, q1, _⟩ := HM1.out.bodyAt fi hit; rw [hg] at r0; have q1' : ∀ o, (w1.alloc o).cell? ⟨g, fi * 2 + 1, none⟩ = some (.string (Wd.mkS (bodyOf its fi))) := (fun o => by obtain ⟨g', hg', q', _⟩ := (HM1.out.alloc o).bodyAt fi hit; rw [hg] at hg'; cases hg'; exact q'); clear q1 hg) | (refine wpList_store_row rfl 131 _ _ rfl _ _ rfl rfl 131 _ (heap_alloc_last _ _) Try.iFrame rfl (frA_one ⟨true, fi, fp, fh⟩) ?_; rw [World.setRow_alloc_new]))
    go_quiet (fail)
    have HMW := hide ((HM1.out.alloc (.cells #[.bool true, .int .i64 (fi : Int), .int .i64 (fp : Int), .int .i64 (fh : Int)] 131)).drewN nq)
    have HFW := hide ((Blk.newFr w1 ⟨true, fi, fp, fh⟩ 131).drewN nq)
    have HBW := hide (below_drewN (below_new hb1 (.cells #[.bool true, .int .i64 (fi : Int), .int .i64 (fp : Int), .int .i64 (fh : Int)] 131)) nq)
    clear r0 r1 p4 p8 q1'
    generalize (w1.alloc (.cells #[.bool true, .int .i64 (fi : Int), .int .i64 (fp : Int), .int .i64 (fh : Int)] 131)).drewN nq = W at *
    have a0 : W.cell? ⟨w1.heap.size, 0, none⟩ = some (.bool true) := HFW.out.cell 0 (by omega)
    have a1 : W.cell? ⟨w1.heap.size, 1, none⟩ = some (.int .i64 (fi : Int)) := HFW.out.cell 1 (by omega)
    have a2 : W.cell? ⟨w1.heap.size, 2, none⟩ = some (.int .i64 (fp : Int)) := HFW.out.cell 2 (by omega)
    have a3 : W.cell? ⟨w1.heap.size, 3, none⟩ = some (.int .i64 (fh : Int)) := HFW.out.cell 3 (by omega)
    have r1 : W.cell? ⟨b, 1, none⟩ = some (.slice (some ⟨A.g1, 0, none⟩) n A.c1) := HMW.out.root.cell 1 (by omega)
    have p8 : W.cell? ⟨A.g1, c * 9 + 8, none⟩ = some (.bool true) := by rw [← HOF.out]; exact HMW.out.cpAt c 8 hc (by omega)
    generalize w1.heap.size = G at *
    generalize Wd.mkS (bodyOf its fi) = sb at *
    have a0' : ∀ o, (W.alloc o).cell? ⟨G, 0, none⟩ = some (.bool true) := fun o => (HFW.out.alloc o).cell 0 (by omega)
    have a1' : ∀ o, (W.alloc o).cell? ⟨G, 1, none⟩ = some (.int .i64 (fi : Int)) := fun o => (HFW.out.alloc o).cell 1 (by omega)
    have a2' : ∀ o, (W.alloc o).cell? ⟨G, 2, none⟩ = some (.int .i64 (fp : Int)) := fun o => (HFW.out.alloc o).cell 2 (by omega)
    have a3' : ∀ o, (W.alloc o).cell? ⟨G, 3, none⟩ = some (.int .i64 (fh : Int)) := fun o => (HFW.out.alloc o).cell 3 (by omega)
    have r1' : ∀ o, (W.alloc o).cell? ⟨b, 1, none⟩ = some (.slice (some ⟨A.g1, 0, none⟩) n A.c1) := fun o => (HMW.out.alloc o).root.cell 1 (by omega)
    have p8' : ∀ o, (W.alloc o).cell? ⟨A.g1, c * 9 + 8, none⟩ = some (.bool true) := fun o => by rw [← HOF.out]; exact (HMW.out.alloc o).cpAt c 8 hc (by omega)
    go_wp2_with (first | (go_at_call 93; refine (AA.out _).mono ?_; rintro e w' ⟨rfl, hww⟩; obtain rfl := hww.symm; clear hww))
    have hGl : G < W.heap.size := HFW.out.lt
    have hbl : b < W.heap.size := HMW.out.root.lt
    have hg1l : A.g1 < W.heap.size := HMW.out.cpus.lt
    have hGn : W.heap.size ≠ G := by omega
    have hbn : W.heap.size ≠ b := by omega
    have hg1n : W.heap.size ≠ A.g1 := by omega
    go_region_held3 (fun W' => W'.cell? ⟨G, 0, none⟩ = some (.bool true) ∧ W'.cell? ⟨G, 1, none⟩ = some (.int .i64 (fi : Int)) ∧ W'.cell? ⟨G, 2, none⟩ = some (.int .i64 (fp : Int)) ∧ W'.cell? ⟨G, 3, none⟩ = some (.int .i64 (fh : Int)) ∧ W'.cell? ⟨b, 1, none⟩ = some (.slice (some ⟨A.g1, 0, none⟩) n A.c1) ∧ W'.cell? ⟨A.g1, c * 9 + 8, none⟩ = some (.bool true)) (go_keep) (first | (go_at_call 118; refine (AL.out _).mono ?_; rintro e w2 ⟨rfl, hb2⟩; (first | (have g1 := hide (below_row (g := W.heap.size) hb2 (heap_alloc_last W (.cells #[.bool false, .int .i64 0, .int .i64 0, .int .i64 0] 131))); have HB2 := hide (below_go (((Below.refl _ W).alloc (Nat.le_refl _) (.cells #[.bool false, .int .i64 0, .int .i64 0, .int .i64 0] 131)).drew) hb2); have z0 : w2.cell? ⟨W.heap.size, 0, none⟩ = some (.bool false) := row_cell g1.out rfl; have z1 : w2.cell? ⟨W.heap.size, 1, none⟩ = some (.int .i64 0) := row_cell g1.out rfl; have z2 : w2.cell? ⟨W.heap.size, 2, none⟩ = some (.int .i64 0) := row_cell g1.out rfl; have z3 : w2.cell? ⟨W.heap.size, 3, none⟩ = some (.int .i64 0) := row_cell g1.out rfl; have y0 := frozen_of_row w2 W.heap.size 0 _ _ g1.out; have y1 := frozen_of_row w2 W.heap.size 1 _ _ g1.out; have y2 := frozen_of_row w2 W.heap.size 2 _ _ g1.out; have y3 := frozen_of_row w2 W.heap.size 3 _ _ g1.out) | (have HB2 := hide (below_go ((Below.refl _ W).drew) hb2))); have k0 := (HB2.out.cell (p := ⟨G, 0, none⟩) hGl).trans a0; have k1 := (HB2.out.cell (p := ⟨G, 1, none⟩) hGl).trans a1; have k2 := (HB2.out.cell (p := ⟨G, 2, none⟩) hGl).trans a2; have k3 := (HB2.out.cell (p := ⟨G, 3, none⟩) hGl).trans a3; have k4 := (HB2.out.cell (p := ⟨b, 1, none⟩) hbl).trans r1; have k5 := (HB2.out.cell (p := ⟨A.g1, c * 9 + 8, none⟩) hg1l).trans p8))
    all_goals (go_wp2_with (first | (go_at_call 115; refine (put_any _ N b A its n S c ⟨gt, gi, gp, gh⟩ (HMW.out.below (by first | exact (below_new HB2.out _) | exact ((((HB2.out.setCell (p := ⟨W.heap.size, 0, none⟩) (Nat.le_refl _) _).setCell (p := ⟨W.heap.size, 1, none⟩) (Nat.le_refl _) _).setCell (p := ⟨W.heap.size, 2, none⟩) (Nat.le_refl _) _).setCell (p := ⟨W.heap.size, 3, none⟩) (Nat.le_refl _) _))) hc hn).mono ?_; rintro e w3 ⟨rfl, hm3, hk3⟩; have HM3 := hide hm3; have HK3 := hide ((Kp.of (below_go HBW.out (by first | exact (below_new HB2.out _) | exact ((((HB2.out.setCell (p := ⟨W.heap.size, 0, none⟩) (Nat.le_refl _) _).setCell (p := ⟨W.heap.size, 1, none⟩) (Nat.le_refl _) _).setCell (p := ⟨W.heap.size, 2, none⟩) (Nat.le_refl _) _).setCell (p := ⟨W.heap.size, 3, none⟩) (Nat.le_refl _) _)))).trans hk3); have s1 : w3.cell? ⟨b, 1, none⟩ = some (.slice (some ⟨A.g1, 0, none⟩) n A.c1) := hm3.root.cell 1 (by omega); obtain ⟨ov, s8⟩ : ∃ v, w3.cell? ⟨A.g1, c * 9 + 8, none⟩ = some v := ⟨_, hm3.cpAt c 8 hc (by omega)⟩; have s9 := hm3.cpFro c 8; clear hm3 hk3)))
    all_goals (go_ret; exact ⟨rfl, HM3.out.setO c ro, HK3.out.set1 _ _⟩)

end Go.Proofs.Ytecmfdkhcffpmaa
