/- MacN. -/
import Derived.Test.YtecmfdkhcffpmaaB10
/- Contracts of the document's machine: a step, on. -/
namespace Go.Proofs.Ytecmfdkhcffpmaa
open Go.RowKit
set_option linter.unusedSimpArgs false
set_option linter.unusedVariables false
set_option maxHeartbeats 8000000
open Mc

set_option maxRecDepth 100000 in
theorem step_w (w : World) (N b : Nat) (A : Ad) (its : List Wd.It) (n : Nat) (S : Ma) (c : Nat) (second : Bool) (h : DM w N b A its n S) (ho : ItsOK its) (hi : Inv its n S) (hn : n ≤ 3) (hc : c < n) (fi fp fh : Nat) (hwk : works S c = ⟨true, fi, fp, fh⟩) (hch : atB (bodyOf its fi) fp = 119) (hcl : clash its S n c ⟨true, fi, fp, fh⟩ = false) :
    Calls Try.prog 83 #[.pointer (some ⟨b, 0, none⟩), .int .i64 c, .bool second] w fun e w' => e = .returned (.int .u8 (Mc.step its S n c second).1) ∧ DM w' N b A its n (Mc.step its S n c second).2 ∧ Kp A w w' := by
  have CA := h.caps
  unfold maxLen at CA
  have hok := works_ok hi c hc
  have hhe := works_held hi c hc
  have W1 := worksA_any w N b A its n S c h hc hn
  rw [hwk] at hok hhe W1
  obtain ⟨hit, hpo'⟩ := hok rfl
  have hpo : fp ≤ 20000 := by have := ho.body fi hit; simp only at hpo'; omega
  simp only at hit hhe
  have AA := hide (fun W => atBody_any its ho fi fp W hit hpo)
  have e : Mc.step its S n c second = Mc.lone its S c second := by simp only [Mc.step, hwk]; rw [if_neg (by simp), if_neg (by rw [hch]; decide), if_neg (by rw [hch]; decide), if_neg (by rw [hch]; decide), if_neg (by rintro ⟨_, e⟩; rw [hcl] at e; cases e)]
  rw [e]
  have AC := hide (fun W (hW : DM W N b A its n S) => clash_any W N b A its n S c ⟨true, fi, fp, fh⟩ hW ho hi hn hc hit hpo (by simp [hch]))
  rw [hcl] at AC
  have AL := hide (fun W => alone_any W its ho fi ⟨true, fi, fp, fh⟩ (S.cp c).h.there (S.cp c).off second hit hpo (by simp only; omega))
  have e2 : Mc.lone its S c second = ((alone (bodyOf its fi) ⟨true, fi, fp, fh⟩ (S.cp c).h.there (S.cp c).off second).1, setOff (put S c (alone (bodyOf its fi) ⟨true, fi, fp, fh⟩ (S.cp c).h.there (S.cp c).off second).2.1) c (alone (bodyOf its fi) ⟨true, fi, fp, fh⟩ (S.cp c).h.there (S.cp c).off second).2.2) := by simp only [Mc.lone, hwk]
  rw [e2]
  rw [hch] at AA
  clear e e2 hch hcl
  generalize alone (bodyOf its fi) ⟨true, fi, fp, fh⟩ (S.cp c).h.there (S.cp c).off second = r at *
  obtain ⟨rt, ⟨gt, gi, gp, gh⟩, ro⟩ := r
  dsimp only at AL ⊢
  have W1' : Hid (Calls Try.prog 102 #[.pointer (some ⟨b, 0, none⟩), .int .i64 c] w fun e w' => e = .returned (.agg #[.bool true, .int .i64 (fi : Int), .int .i64 (fp : Int), .int .i64 (fh : Int)]) ∧ Below w.heap.size w w') := hide W1
  have HM := hide h
  have HO := hide ho
  have HI := hide hi
  have HW := hide hwk
  clear h ho hi hwk W1 hok hpo'
  generalize hHT : (S.cp c).h.there = hd at *
  generalize hOF : (S.cp c).off = of at *
  have HHT := hide hHT
  have HOF := hide hOF
  clear hHT hOF
  cases of
  · go_enter Try.func83, Try.ntmps83
    go_wp2_with (first | (go_at_call 102; refine W1'.out.mono ?_; rintro e w1 ⟨rfl, hb1⟩; have HM1 := hide (HM.out.below hb1); have r0 : ∀ o, (w1.alloc o).cell? ⟨b, 0, none⟩ = some (.slice A.ai its.length A.ci) := (fun o => (HM1.out.alloc o).root.cell 0 (by omega)); have r1 : ∀ o, (w1.alloc o).cell? ⟨b, 1, none⟩ = some (.slice (some ⟨A.g1, 0, none⟩) n A.c1) := (fun o => (HM1.out.alloc o).root.cell 1 (by omega)); have p4 : ∀ o, (w1.alloc o).cell? ⟨A.g1, c * 9 + 4, none⟩ = some (.bool hd) := (fun o => by rw [← HHT.out]; exact (HM1.out.alloc o).cpAt c 4 hc (by omega)); have p8 : ∀ o, (w1.alloc o).cell? ⟨A.g1, c * 9 + 8, none⟩ = some (.bool false) := (fun o => by rw [← HOF.out]; exact (HM1.out.alloc o).cpAt c 8 hc (by omega)); obtain ⟨g, hg, q1, _⟩ := HM1.out.bodyAt fi hit; rw [hg] at r0; have q1' : ∀ o, (w1.alloc o).cell? ⟨g, fi * 2 + 1, none⟩ = some (.string (Wd.mkS (bodyOf its fi))) := (fun o => by obtain ⟨g', hg', q', _⟩ := (HM1.out.alloc o).bodyAt fi hit; rw [hg] at hg'; cases hg'; exact q'); clear q1 hg) | (refine wpList_store_row rfl 131 _ _ rfl _ _ rfl rfl 131 _ (heap_alloc_last _ _) Try.iFrame rfl (frA_one ⟨true, fi, fp, fh⟩) ?_; rw [World.setRow_alloc_new]))
    go_quiet (fail)
    have HMW := hide ((HM1.out.alloc (.cells #[.bool true, .int .i64 (fi : Int), .int .i64 (fp : Int), .int .i64 (fh : Int)] 131)).drewN nq)
    have HFW := hide ((Blk.newFr w1 ⟨true, fi, fp, fh⟩ 131).drewN nq)
    have HBW := hide (below_drewN (below_new hb1 (.cells #[.bool true, .int .i64 (fi : Int), .int .i64 (fp : Int), .int .i64 (fh : Int)] 131)) nq)
    clear r0 r1 p4 p8 q1'
    generalize (w1.alloc (.cells #[.bool true, .int .i64 (fi : Int), .int .i64 (fp : Int), .int .i64 (fh : Int)] 131)).drewN nq = W at *
    have a0 : W.cell? ⟨w1.heap.size, 0, none⟩ = some (.bool true) := HFW.out.cell 0 (by omega)
    have a1 : W.cell? ⟨w1.heap.size, 1, none⟩ = some (.int .i64 (fi : Int)) := HFW.out.cell 1 (by omega)
    have a2 : W.cell? ⟨w1.heap.size, 2, none⟩ = some (.int .i64 (fp : Int)) := HFW.out.cell 2 (by omega)
    have a3 : W.cell? ⟨w1.heap.size, 3, none⟩ = some (.int .i64 (fh : Int)) := HFW.out.cell 3 (by omega)
    have r1 : W.cell? ⟨b, 1, none⟩ = some (.slice (some ⟨A.g1, 0, none⟩) n A.c1) := HMW.out.root.cell 1 (by omega)
    have p8 : W.cell? ⟨A.g1, c * 9 + 8, none⟩ = some (.bool false) := by rw [← HOF.out]; exact HMW.out.cpAt c 8 hc (by omega)
    generalize w1.heap.size = G at *
    generalize Wd.mkS (bodyOf its fi) = sb at *
    go_wp2_with (first | (go_at_call 93; refine (AA.out _).mono ?_; rintro e w' ⟨rfl, hww⟩; obtain rfl := hww.symm; clear hww) | (go_at_call 117; refine (AC.out _ HMW.out).mono ?_; rintro e W2 ⟨rfl, hb5⟩))
    have HMX := hide (HMW.out.below hb5)
    have HFX := hide (HFW.out.below hb5)
    have HBX := hide (below_go HBW.out hb5)
    clear HMW HFW HBW a0 a1 a2 a3 r1 p8 hb5
    have a0 : W2.cell? ⟨G, 0, none⟩ = some (.bool true) := HFX.out.cell 0 (by omega)
    have a1 : W2.cell? ⟨G, 1, none⟩ = some (.int .i64 (fi : Int)) := HFX.out.cell 1 (by omega)
    have a2 : W2.cell? ⟨G, 2, none⟩ = some (.int .i64 (fp : Int)) := HFX.out.cell 2 (by omega)
    have a3 : W2.cell? ⟨G, 3, none⟩ = some (.int .i64 (fh : Int)) := HFX.out.cell 3 (by omega)
    have r1 : W2.cell? ⟨b, 1, none⟩ = some (.slice (some ⟨A.g1, 0, none⟩) n A.c1) := HMX.out.root.cell 1 (by omega)
    have p8 : W2.cell? ⟨A.g1, c * 9 + 8, none⟩ = some (.bool false) := by rw [← HOF.out]; exact HMX.out.cpAt c 8 hc (by omega)
    have a0' : ∀ o, (W2.alloc o).cell? ⟨G, 0, none⟩ = some (.bool true) := fun o => (HFX.out.alloc o).cell 0 (by omega)
    have a1' : ∀ o, (W2.alloc o).cell? ⟨G, 1, none⟩ = some (.int .i64 (fi : Int)) := fun o => (HFX.out.alloc o).cell 1 (by omega)
    have a2' : ∀ o, (W2.alloc o).cell? ⟨G, 2, none⟩ = some (.int .i64 (fp : Int)) := fun o => (HFX.out.alloc o).cell 2 (by omega)
    have a3' : ∀ o, (W2.alloc o).cell? ⟨G, 3, none⟩ = some (.int .i64 (fh : Int)) := fun o => (HFX.out.alloc o).cell 3 (by omega)
    have r1' : ∀ o, (W2.alloc o).cell? ⟨b, 1, none⟩ = some (.slice (some ⟨A.g1, 0, none⟩) n A.c1) := fun o => (HMX.out.alloc o).root.cell 1 (by omega)
    have p8' : ∀ o, (W2.alloc o).cell? ⟨A.g1, c * 9 + 8, none⟩ = some (.bool false) := fun o => by rw [← HOF.out]; exact (HMX.out.alloc o).cpAt c 8 hc (by omega)
    have hGl : G < W2.heap.size := HFX.out.lt
    have hbl : b < W2.heap.size := HMX.out.root.lt
    have hg1l : A.g1 < W2.heap.size := HMX.out.cpus.lt
    have hGn : W2.heap.size ≠ G := by omega
    have hbn : W2.heap.size ≠ b := by omega
    have hg1n : W2.heap.size ≠ A.g1 := by omega
    go_region_held3 (fun W' => W'.cell? ⟨G, 0, none⟩ = some (.bool true) ∧ W'.cell? ⟨G, 1, none⟩ = some (.int .i64 (fi : Int)) ∧ W'.cell? ⟨G, 2, none⟩ = some (.int .i64 (fp : Int)) ∧ W'.cell? ⟨G, 3, none⟩ = some (.int .i64 (fh : Int)) ∧ W'.cell? ⟨b, 1, none⟩ = some (.slice (some ⟨A.g1, 0, none⟩) n A.c1) ∧ W'.cell? ⟨A.g1, c * 9 + 8, none⟩ = some (.bool false)) (go_keep) (first | (go_at_call 118; refine (AL.out _).mono ?_; rintro e w2 ⟨rfl, hb2⟩; (first | (have g1 := hide (below_row (g := W2.heap.size) hb2 (heap_alloc_last W2 (.cells #[.bool false, .int .i64 0, .int .i64 0, .int .i64 0] 131))); have HB2 := hide (below_go (((Below.refl _ W2).alloc (Nat.le_refl _) (.cells #[.bool false, .int .i64 0, .int .i64 0, .int .i64 0] 131)).drew) hb2); have z0 : w2.cell? ⟨W2.heap.size, 0, none⟩ = some (.bool false) := row_cell g1.out rfl; have z1 : w2.cell? ⟨W2.heap.size, 1, none⟩ = some (.int .i64 0) := row_cell g1.out rfl; have z2 : w2.cell? ⟨W2.heap.size, 2, none⟩ = some (.int .i64 0) := row_cell g1.out rfl; have z3 : w2.cell? ⟨W2.heap.size, 3, none⟩ = some (.int .i64 0) := row_cell g1.out rfl; have y0 := frozen_of_row w2 W2.heap.size 0 _ _ g1.out; have y1 := frozen_of_row w2 W2.heap.size 1 _ _ g1.out; have y2 := frozen_of_row w2 W2.heap.size 2 _ _ g1.out; have y3 := frozen_of_row w2 W2.heap.size 3 _ _ g1.out) | (have HB2 := hide (below_go ((Below.refl _ W2).drew) hb2))); have k0 := (HB2.out.cell (p := ⟨G, 0, none⟩) hGl).trans a0; have k1 := (HB2.out.cell (p := ⟨G, 1, none⟩) hGl).trans a1; have k2 := (HB2.out.cell (p := ⟨G, 2, none⟩) hGl).trans a2; have k3 := (HB2.out.cell (p := ⟨G, 3, none⟩) hGl).trans a3; have k4 := (HB2.out.cell (p := ⟨b, 1, none⟩) hbl).trans r1; have k5 := (HB2.out.cell (p := ⟨A.g1, c * 9 + 8, none⟩) hg1l).trans p8))
    all_goals (go_wp2_with (first | (go_at_call 115; refine (put_any _ N b A its n S c ⟨gt, gi, gp, gh⟩ (HMX.out.below (by first | exact (below_new HB2.out _) | exact ((((HB2.out.setCell (p := ⟨W2.heap.size, 0, none⟩) (Nat.le_refl _) _).setCell (p := ⟨W2.heap.size, 1, none⟩) (Nat.le_refl _) _).setCell (p := ⟨W2.heap.size, 2, none⟩) (Nat.le_refl _) _).setCell (p := ⟨W2.heap.size, 3, none⟩) (Nat.le_refl _) _))) hc hn).mono ?_; rintro e w3 ⟨rfl, hm3, hk3⟩; have HM3 := hide hm3; have HK3 := hide ((Kp.of (below_go HBX.out (by first | exact (below_new HB2.out _) | exact ((((HB2.out.setCell (p := ⟨W2.heap.size, 0, none⟩) (Nat.le_refl _) _).setCell (p := ⟨W2.heap.size, 1, none⟩) (Nat.le_refl _) _).setCell (p := ⟨W2.heap.size, 2, none⟩) (Nat.le_refl _) _).setCell (p := ⟨W2.heap.size, 3, none⟩) (Nat.le_refl _) _)))).trans hk3); have s1 : w3.cell? ⟨b, 1, none⟩ = some (.slice (some ⟨A.g1, 0, none⟩) n A.c1) := hm3.root.cell 1 (by omega); obtain ⟨ov, s8⟩ : ∃ v, w3.cell? ⟨A.g1, c * 9 + 8, none⟩ = some v := ⟨_, hm3.cpAt c 8 hc (by omega)⟩; have s9 := hm3.cpFro c 8; clear hm3 hk3)))
    all_goals (go_ret; exact ⟨rfl, HM3.out.setO c ro, HK3.out.set1 _ _⟩)
  · go_enter Try.func83, Try.ntmps83
    go_wp2_with (first | (go_at_call 102; refine W1'.out.mono ?_; rintro e w1 ⟨rfl, hb1⟩; have HM1 := hide (HM.out.below hb1); have r0 : ∀ o, (w1.alloc o).cell? ⟨b, 0, none⟩ = some (.slice A.ai its.length A.ci) := (fun o => (HM1.out.alloc o).root.cell 0 (by omega)); have r1 : ∀ o, (w1.alloc o).cell? ⟨b, 1, none⟩ = some (.slice (some ⟨A.g1, 0, none⟩) n A.c1) := (fun o => (HM1.out.alloc o).root.cell 1 (by omega)); have p4 : ∀ o, (w1.alloc o).cell? ⟨A.g1, c * 9 + 4, none⟩ = some (.bool hd) := (fun o => by rw [← HHT.out]; exact (HM1.out.alloc o).cpAt c 4 hc (by omega)); have p8 : ∀ o, (w1.alloc o).cell? ⟨A.g1, c * 9 + 8, none⟩ = some (.bool true) := (fun o => by rw [← HOF.out]; exact (HM1.out.alloc o).cpAt c 8 hc (by omega)); obtain ⟨g, hg, q1, _⟩ := HM1.out.bodyAt fi hit; rw [hg] at r0; have q1' : ∀ o, (w1.alloc o).cell? ⟨g, fi * 2 + 1, none⟩ = some (.string (Wd.mkS (bodyOf its fi))) := (fun o => by obtain ⟨g', hg', q', _⟩ := (HM1.out.alloc o).bodyAt fi hit; rw [hg] at hg'; cases hg'; exact q'); clear q1 hg) | (refine wpList_store_row rfl 131 _ _ rfl _ _ rfl rfl 131 _ (heap_alloc_last _ _) Try.iFrame rfl (frA_one ⟨true, fi, fp, fh⟩) ?_; rw [World.setRow_alloc_new]))
    go_quiet (fail)
    have HMW := hide ((HM1.out.alloc (.cells #[.bool true, .int .i64 (fi : Int), .int .i64 (fp : Int), .int .i64 (fh : Int)] 131)).drewN nq)
    have HFW := hide ((Blk.newFr w1 ⟨true, fi, fp, fh⟩ 131).drewN nq)
    have HBW := hide (below_drewN (below_new hb1 (.cells #[.bool true, .int .i64 (fi : Int), .int .i64 (fp : Int), .int .i64 (fh : Int)] 131)) nq)
    clear r0 r1 p4 p8 q1'
    generalize (w1.alloc (.cells #[.bool true, .int .i64 (fi : Int), .int .i64 (fp : Int), .int .i64 (fh : Int)] 131)).drewN nq = W at *
    have a0 : W.cell? ⟨w1.heap.size, 0, none⟩ = some (.bool true) := HFW.out.cell 0 (by omega)
    have a1 : W.cell? ⟨w1.heap.size, 1, none⟩ = some (.int .i64 (fi : Int)) := HFW.out.cell 1 (by omega)
    have a2 : W.cell? ⟨w1.heap.size, 2, none⟩ = some (.int .i64 (fp : Int)) := HFW.out.cell 2 (by omega)
    have a3 : W.cell? ⟨w1.heap.size, 3, none⟩ = some (.int .i64 (fh : Int)) := HFW.out.cell 3 (by omega)
    have r1 : W.cell? ⟨b, 1, none⟩ = some (.slice (some ⟨A.g1, 0, none⟩) n A.c1) := HMW.out.root.cell 1 (by omega)
    have p8 : W.cell? ⟨A.g1, c * 9 + 8, none⟩ = some (.bool true) := by rw [← HOF.out]; exact HMW.out.cpAt c 8 hc (by omega)
    generalize w1.heap.size = G at *
    generalize Wd.mkS (bodyOf its fi) = sb at *
    go_wp2_with (first | (go_at_call 93; refine (AA.out _).mono ?_; rintro e w' ⟨rfl, hww⟩; obtain rfl := hww.symm; clear hww) | (go_at_call 117; refine (AC.out _ HMW.out).mono ?_; rintro e W2 ⟨rfl, hb5⟩))
    have HMX := hide (HMW.out.below hb5)
    have HFX := hide (HFW.out.below hb5)
    have HBX := hide (below_go HBW.out hb5)
    clear HMW HFW HBW a0 a1 a2 a3 r1 p8 hb5
    have a0 : W2.cell? ⟨G, 0, none⟩ = some (.bool true) := HFX.out.cell 0 (by omega)
    have a1 : W2.cell? ⟨G, 1, none⟩ = some (.int .i64 (fi : Int)) := HFX.out.cell 1 (by omega)
    have a2 : W2.cell? ⟨G, 2, none⟩ = some (.int .i64 (fp : Int)) := HFX.out.cell 2 (by omega)
    have a3 : W2.cell? ⟨G, 3, none⟩ = some (.int .i64 (fh : Int)) := HFX.out.cell 3 (by omega)
    have r1 : W2.cell? ⟨b, 1, none⟩ = some (.slice (some ⟨A.g1, 0, none⟩) n A.c1) := HMX.out.root.cell 1 (by omega)
    have p8 : W2.cell? ⟨A.g1, c * 9 + 8, none⟩ = some (.bool true) := by rw [← HOF.out]; exact HMX.out.cpAt c 8 hc (by omega)
    have a0' : ∀ o, (W2.alloc o).cell? ⟨G, 0, none⟩ = some (.bool true) := fun o => (HFX.out.alloc o).cell 0 (by omega)
    have a1' : ∀ o, (W2.alloc o).cell? ⟨G, 1, none⟩ = some (.int .i64 (fi : Int)) := fun o => (HFX.out.alloc o).cell 1 (by omega)
    have a2' : ∀ o, (W2.alloc o).cell? ⟨G, 2, none⟩ = some (.int .i64 (fp : Int)) := fun o => (HFX.out.alloc o).cell 2 (by omega)
    have a3' : ∀ o, (W2.alloc o).cell? ⟨G, 3, none⟩ = some (.int .i64 (fh : Int)) := fun o => (HFX.out.alloc o).cell 3 (by omega)
    have r1' : ∀ o, (W2.alloc o).cell? ⟨b, 1, none⟩ = some (.slice (some ⟨A.g1, 0, none⟩) n A.c1) := fun o => (HMX.out.alloc o).root.cell 1 (by omega)
    have p8' : ∀ o, (W2.alloc o).cell? ⟨A.g1, c * 9 + 8, none⟩ = some (.bool true) := fun o => by rw [← HOF.out]; exact (HMX.out.alloc o).cpAt c 8 hc (by omega)
    have hGl : G < W2.heap.size := HFX.out.lt
    have hbl : b < W2.heap.size := HMX.out.root.lt
    have hg1l : A.g1 < W2.heap.size := HMX.out.cpus.lt
    have hGn : W2.heap.size ≠ G := by omega
    have hbn : W2.heap.size ≠ b := by omega
    have hg1n : W2.heap.size ≠ A.g1 := by omega
    go_region_held3 (fun W' => W'.cell? ⟨G, 0, none⟩ = some (.bool true) ∧ W'.cell? ⟨G, 1, none⟩ = some (.int .i64 (fi : Int)) ∧ W'.cell? ⟨G, 2, none⟩ = some (.int .i64 (fp : Int)) ∧ W'.cell? ⟨G, 3, none⟩ = some (.int .i64 (fh : Int)) ∧ W'.cell? ⟨b, 1, none⟩ = some (.slice (some ⟨A.g1, 0, none⟩) n A.c1) ∧ W'.cell? ⟨A.g1, c * 9 + 8, none⟩ = some (.bool true)) (go_keep) (first | (go_at_call 118; refine (AL.out _).mono ?_; rintro e w2 ⟨rfl, hb2⟩; (first | (have g1 := hide (below_row (g := W2.heap.size) hb2 (heap_alloc_last W2 (.cells #[.bool false, .int .i64 0, .int .i64 0, .int .i64 0] 131))); have HB2 := hide (below_go (((Below.refl _ W2).alloc (Nat.le_refl _) (.cells #[.bool false, .int .i64 0, .int .i64 0, .int .i64 0] 131)).drew) hb2); have z0 : w2.cell? ⟨W2.heap.size, 0, none⟩ = some (.bool false) := row_cell g1.out rfl; have z1 : w2.cell? ⟨W2.heap.size, 1, none⟩ = some (.int .i64 0) := row_cell g1.out rfl; have z2 : w2.cell? ⟨W2.heap.size, 2, none⟩ = some (.int .i64 0) := row_cell g1.out rfl; have z3 : w2.cell? ⟨W2.heap.size, 3, none⟩ = some (.int .i64 0) := row_cell g1.out rfl; have y0 := frozen_of_row w2 W2.heap.size 0 _ _ g1.out; have y1 := frozen_of_row w2 W2.heap.size 1 _ _ g1.out; have y2 := frozen_of_row w2 W2.heap.size 2 _ _ g1.out; have y3 := frozen_of_row w2 W2.heap.size 3 _ _ g1.out) | (have HB2 := hide (below_go ((Below.refl _ W2).drew) hb2))); have k0 := (HB2.out.cell (p := ⟨G, 0, none⟩) hGl).trans a0; have k1 := (HB2.out.cell (p := ⟨G, 1, none⟩) hGl).trans a1; have k2 := (HB2.out.cell (p := ⟨G, 2, none⟩) hGl).trans a2; have k3 := (HB2.out.cell (p := ⟨G, 3, none⟩) hGl).trans a3; have k4 := (HB2.out.cell (p := ⟨b, 1, none⟩) hbl).trans r1; have k5 := (HB2.out.cell (p := ⟨A.g1, c * 9 + 8, none⟩) hg1l).trans p8))
    all_goals (go_wp2_with (first | (go_at_call 115; refine (put_any _ N b A its n S c ⟨gt, gi, gp, gh⟩ (HMX.out.below (by first | exact (below_new HB2.out _) | exact ((((HB2.out.setCell (p := ⟨W2.heap.size, 0, none⟩) (Nat.le_refl _) _).setCell (p := ⟨W2.heap.size, 1, none⟩) (Nat.le_refl _) _).setCell (p := ⟨W2.heap.size, 2, none⟩) (Nat.le_refl _) _).setCell (p := ⟨W2.heap.size, 3, none⟩) (Nat.le_refl _) _))) hc hn).mono ?_; rintro e w3 ⟨rfl, hm3, hk3⟩; have HM3 := hide hm3; have HK3 := hide ((Kp.of (below_go HBX.out (by first | exact (below_new HB2.out _) | exact ((((HB2.out.setCell (p := ⟨W2.heap.size, 0, none⟩) (Nat.le_refl _) _).setCell (p := ⟨W2.heap.size, 1, none⟩) (Nat.le_refl _) _).setCell (p := ⟨W2.heap.size, 2, none⟩) (Nat.le_refl _) _).setCell (p := ⟨W2.heap.size, 3, none⟩) (Nat.le_refl _) _)))).trans hk3); have s1 : w3.cell? ⟨b, 1, none⟩ = some (.slice (some ⟨A.g1, 0, none⟩) n A.c1) := hm3.root.cell 1 (by omega); obtain ⟨ov, s8⟩ : ∃ v, w3.cell? ⟨A.g1, c * 9 + 8, none⟩ = some v := ⟨_, hm3.cpAt c 8 hc (by omega)⟩; have s9 := hm3.cpFro c 8; clear hm3 hk3)))
    all_goals (go_ret; exact ⟨rfl, HM3.out.setO c ro, HK3.out.set1 _ _⟩)

end Go.Proofs.Ytecmfdkhcffpmaa
