/- MacH, MacF. -/
import Derived.Test.YtecmfdkhcffpmaaB06
/- Contracts of the document's machine: a thread leaves; a lock is taken. -/
namespace Go.Proofs.Ytecmfdkhcffpmaa
open Go.RowKit
set_option linter.unusedSimpArgs false
set_option linter.unusedVariables false
set_option maxHeartbeats 800000
open Mc

theorem DM.rdSet {w : World} {N b : Nat} {A : Ad} {its : List Wd.It} {n : Nat} {S : Ma} (h : DM w N b A its n S) (g : Nat) (hg : A.a2 = some ⟨g, 0, none⟩) (i : Nat) (v : Bool) : DM (w.setCell ⟨g, i, none⟩ (.bool v)) N b A its n (setRd S i v) := by
  obtain ⟨n1, n2, n3, n4⟩ := h.a2
  have e1 : A.g1 ≠ g := fun e => n2 (by rw [hg, e])
  have e3 : A.g3 ≠ g := fun e => n3 (by rw [hg, e])
  refine h.upd ((Kp.refl A w).set2 hg i _) (h.cpus.same (heap_setCell_other w ⟨g, i, none⟩ _ _ e1)) (fun g' hg' hl => ?_) (h.at_.same (heap_setCell_other w ⟨g, i, none⟩ _ _ e3))
  rw [hg] at hg'; cases hg'
  obtain ⟨g', k1, k2, _⟩ := h.ready hl
  rw [hg] at k1; cases k1
  refine (k2.set i (.bool v)).congr fun j _ => ?_
  unfold setRd; by_cases e : j = i <;> simp [e]
theorem DM.plSet {w : World} {N b : Nat} {A : Ad} {its : List Wd.It} {n : Nat} {S : Ma} (h : DM w N b A its n S) (i p : Nat) : DM (w.setCell ⟨A.g3, i, none⟩ (.int .i64 (p : Int))) N b A its n (setPl S i p) := by
  obtain ⟨n1, n2, n3, n4⟩ := h.a2
  have e1 : A.g1 ≠ A.g3 := h.ne.2.2.1
  refine h.upd ((Kp.refl A w).set3 i _) (h.cpus.same (heap_setCell_other w ⟨A.g3, i, none⟩ _ _ e1)) (fun g' hg' hl => ?_) ?_
  · obtain ⟨g'', k1, k2, _⟩ := h.ready hl
    rw [hg'] at k1; cases k1
    exact k2.same (heap_setCell_other w ⟨A.g3, i, none⟩ _ _ (fun e => n3 (by rw [hg', e])))
  · refine (h.at_.set i (.int .i64 (p : Int))).congr fun j _ => ?_
    unfold setPl; by_cases e : j = i <;> simp [e]

set_option maxRecDepth 100000 in
theorem leaves_any (w : World) (N b : Nat) (A : Ad) (its : List Wd.It) (n : Nat) (S : Ma) (c p : Nat) (h : DM w N b A its n S) (hc : c < n) (hn : n ≤ 3) (hi : (S.cp c).t.item < its.length) :
    Calls Try.prog 85 #[.pointer (some ⟨b, 0, none⟩), .int .i64 c, .int .i64 p] w fun e w' => e = .returned (.tuple #[]) ∧ DM w' N b A its n (leaves S c p) ∧ Kp A w w' := by
  obtain ⟨g, hg, hr, _⟩ := h.ready (by omega)
  have CA := h.caps
  unfold maxLen at CA
  obtain ⟨n1, n2, n3, n4⟩ := h.a2
  obtain ⟨m1, m2, m3, m4, m5, m6⟩ := h.ne
  have e1 : b ≠ g := fun e => n1 (by rw [hg, e])
  have e2 : A.g1 ≠ g := fun e => n2 (by rw [hg, e])
  have e3 : A.g3 ≠ g := fun e => n3 (by rw [hg, e])
  have r1 : w.cell? ⟨b, 1, none⟩ = some (.slice (some ⟨A.g1, 0, none⟩) n A.c1) := h.root.cell 1 (by omega)
  have r2 : w.cell? ⟨b, 2, none⟩ = some (.slice (some ⟨g, 0, none⟩) its.length A.c2) := by rw [h.root.cell 2 (by omega), ← hg]; rfl
  have r3 : w.cell? ⟨b, 3, none⟩ = some (.slice (some ⟨A.g3, 0, none⟩) its.length A.c3) := h.root.cell 3 (by omega)
  have q0 : w.cell? ⟨A.g1, c * 9, none⟩ = some (.bool (S.cp c).t.there) := h.cpAt c 0 hc (by omega)
  have q1 : w.cell? ⟨A.g1, c * 9 + 1, none⟩ = some (.int .i64 ((S.cp c).t.item : Int)) := h.cpAt c 1 hc (by omega)
  have q2 : w.cell? ⟨A.g1, c * 9 + 2, none⟩ = some (.int .i64 ((S.cp c).t.pos : Int)) := h.cpAt c 2 hc (by omega)
  have q3 : w.cell? ⟨A.g1, c * 9 + 3, none⟩ = some (.int .i64 ((S.cp c).t.held : Int)) := h.cpAt c 3 hc (by omega)
  have f0 : w.frozen? ⟨A.g1, c * 9, none⟩ = false := h.cpFro c 0
  have f1 : w.frozen? ⟨A.g1, c * 9 + 1, none⟩ = false := h.cpFro c 1
  have f2 : w.frozen? ⟨A.g1, c * 9 + 2, none⟩ = false := h.cpFro c 2
  have f3 : w.frozen? ⟨A.g1, c * 9 + 3, none⟩ = false := h.cpFro c 3
  have p0 : w.cell? ⟨g, (S.cp c).t.item, none⟩ = some (.bool (S.rd (S.cp c).t.item)) := hr.cell _ hi
  have p1 : w.cell? ⟨A.g3, (S.cp c).t.item, none⟩ = some (.int .i64 (S.pl (S.cp c).t.item : Int)) := h.at_.cell _ hi
  have p2 : w.frozen? ⟨g, (S.cp c).t.item, none⟩ = false := hr.frozen _
  have p3 : w.frozen? ⟨A.g3, (S.cp c).t.item, none⟩ = false := h.at_.frozen _
  have HM := hide (((h.rdSet g hg (S.cp c).t.item true).plSet (S.cp c).t.item p).setT c noFr)
  have HK := hide (((((Kp.refl A w).set2 hg (S.cp c).t.item (.bool true)).set3 (S.cp c).t.item (.int .i64 (p : Int))).sets1 (c * 9) (frV noFr)))
  have HL : Hid (leaves S c p = setCp (setPl (setRd S (S.cp c).t.item true) (S.cp c).t.item p) c { (S.cp c) with t := noFr }) := hide rfl
  clear h hr hg n1 n2 n3 n4
  generalize (S.cp c).t.item = i at *
  go_enter Try.func85, Try.ntmps85
  go_wp2
  go_end0
  exact ⟨rfl, by rw [HL.out]; exact HM.out, HK.out⟩
end Go.Proofs.Ytecmfdkhcffpmaa
/- Contracts of the document's machine: two at one cell. -/
namespace Go.Proofs.Ytecmfdkhcffpmaa
open Go.RowKit
set_option linter.unusedSimpArgs false
set_option linter.unusedVariables false
set_option maxHeartbeats 800000
open Mc

theorem clashFrom_step (its : List Wd.It) (S : Ma) (c : Nat) (x own : Int) (n d : Nat) (hd : d < n) : clashFrom its S c x own d (n - d) = if clashAt its S c x own d = true then true else clashFrom its S c x own (d + 1) (n - (d + 1)) := by
  rw [show n - d = (n - (d + 1)) + 1 by omega]; rfl
theorem clashFrom_no {its : List Wd.It} {S : Ma} {c : Nat} {x own : Int} {n d : Nat} (hd : d < n) (h : clashAt its S c x own d = false) : clashFrom its S c x own d (n - d) = clashFrom its S c x own (d + 1) (n - (d + 1)) := by
  rw [clashFrom_step its S c x own n d hd, h]; rfl
theorem clashFrom_yes {its : List Wd.It} {S : Ma} {c : Nat} {x own : Int} {n d : Nat} (hd : d < n) (h : clashAt its S c x own d = true) : clashFrom its S c x own d (n - d) = true := by
  rw [clashFrom_step its S c x own n d hd, h]; rfl
theorem clashAt_own (its : List Wd.It) (S : Ma) (c : Nat) (x own : Int) : clashAt its S c x own c = false := by simp [clashAt]
theorem clashAt_off {its : List Wd.It} {S : Ma} {c : Nat} {x own : Int} {d : Nat} (h1 : stands its (works S d) ≠ 114) (h2 : stands its (works S d) ≠ 119) : clashAt its S c x own d = false := by simp [clashAt, h1, h2]
theorem clashAt_x {its : List Wd.It} {S : Ma} {c : Nat} {x own : Int} {d : Nat} (h : x ≠ num (bodyOf its (works S d).item) (works S d).pos) : clashAt its S c x own d = false := by simp [clashAt, h]
theorem clashAt_rr {its : List Wd.It} {S : Ma} {c : Nat} {x own : Int} {d : Nat} (h1 : own ≠ 119) (h2 : stands its (works S d) ≠ 119) : clashAt its S c x own d = false := by simp [clashAt, h1, h2]
theorem clashAt_w {its : List Wd.It} {S : Ma} {c : Nat} {x own : Int} {d : Nat} (hd : d ≠ c) (hx : x = num (bodyOf its (works S d).item) (works S d).pos) (hs : stands its (works S d) = 114 ∨ stands its (works S d) = 119) (h : own = 119 ∨ stands its (works S d) = 119) : clashAt its S c x own d = true := by
  rcases hs with hs | hs <;> rcases h with h | h <;> simp_all [clashAt]

theorem atBody_any (its : List Wd.It) (ho : ItsOK its) (i p : Nat) (w : World) (hi : i < its.length) (hp : p ≤ 20000) :
    Calls Try.prog 93 #[.string (Wd.mkS (bodyOf its i)), .int .i64 p] w fun e w' => e = .returned (.int .u8 (atB (bodyOf its i) p)) ∧ w' = w := by
  have := at_any (Wd.mkS (bodyOf its i)) p w (by rw [Wd.mkS_size]; exact ho.body i hi) hp
  rwa [Wd.mkS_list] at this

set_option maxRecDepth 100000 in
theorem clash_any (w : World) (N b : Nat) (A : Ad) (its : List Wd.It) (n : Nat) (S : Ma) (c : Nat) (f : Fr) (h : DM w N b A its n S) (ho : ItsOK its) (hi : Inv its n S) (hn : n ≤ 3) (hc : c < n) (hfi : f.item < its.length) (hfp : f.pos ≤ 20000) (hrw : atB (bodyOf its f.item) f.pos = 114 ∨ atB (bodyOf its f.item) f.pos = 119) :
    Calls Try.prog 117 #[.pointer (some ⟨b, 0, none⟩), .int .i64 c, .agg #[.bool f.there, .int .i64 (f.item : Int), .int .i64 (f.pos : Int), .int .i64 (f.held : Int)]] w fun e w' => e = .returned (.bool (clash its S n c f)) ∧ Below w.heap.size w w' := by
  have CA := h.caps
  unfold maxLen at CA
  have HM := hide h
  have HI := hide hi
  have HO := hide ho
  have ar1 := hide (fun w => numberB_any its ho f.item f.pos w hfi hfp (by rcases hrw with e | e <;> simp [e]))
  have ar2 := hide (fun w => atBody_any its ho f.item f.pos w hfi hfp)
  have HC : Hid (clash its S n c f = clashFrom its S c (num (bodyOf its f.item) f.pos) (atB (bodyOf its f.item) f.pos) 0 n) := hide rfl
  have bown := atB_bd (bodyOf its f.item) f.pos
  have r0 : ∀ o, (w.alloc o).cell? ⟨b, 0, none⟩ = some (.slice A.ai its.length A.ci) := fun o => (h.alloc o).root.cell 0 (by omega)
  obtain ⟨g, hg, _, _⟩ := h.bodyAt f.item hfi
  have q1' : ∀ o, (w.alloc o).cell? ⟨g, f.item * 2 + 1, none⟩ = some (.string (Wd.mkS (bodyOf its f.item))) := by
    intro o
    obtain ⟨g', hg', q', _⟩ := (h.alloc o).bodyAt f.item hfi
    rw [hg] at hg'; cases hg'; exact q'
  rw [hg] at r0
  have HG := hide hg
  clear h hi ho hrw hg
  generalize clash its S n c f = R at *
  generalize num (bodyOf its f.item) f.pos = x at *
  generalize atB (bodyOf its f.item) f.pos = own at *
  generalize Wd.mkS (bodyOf its f.item) = sb0 at *
  generalize f.item = fi at *
  generalize f.pos = fp at *
  go_enter Try.func117, Try.ntmps117
  go_wp2_with fail
  go_quiet (fail)
  go_wp2_with (first | (go_at_call 94; refine (ar1.out _).mono ?_; rintro e w' ⟨rfl, rfl⟩) | (go_at_call 93; refine (ar2.out _).mono ?_; rintro e w' ⟨rfl, rfl⟩))
  go_loopw [10] (fun a wr => ∃ d : Nat, d ≤ n ∧ a = .int .i64 d ∧ R = clashFrom its S c x own d (n - d) ∧ Below w.heap.size w wr) (fun a _ => n - (intOf a).toNat)
  case atStart => exact ⟨0, by omega, rfl, HC.out, below_drewN ((Below.refl _ _).alloc (Nat.le_refl _) _) _⟩
  case round =>
    obtain ⟨d, hd, rfl, hp, hbe⟩ := hrel
    have HP := hide hp
    have HB := hide hbe
    clear hp hbe r0 q1'
    have HMr := hide (HM.out.below HB.out)
    have r1 : wr.cell? ⟨b, 1, none⟩ = some (.slice (some ⟨A.g1, 0, none⟩) n A.c1) := HMr.out.root.cell 1 (by omega)
    by_cases hlt : d < n
    · have W1 := hide (worksA_any wr N b A its n S d HMr.out hlt hn)
      have hok := hide (works_ok HI.out d hlt)
      have NO := hide (fun h => clashFrom_no (its := its) (S := S) (c := c) (x := x) (own := own) hlt h)
      have YES := hide (fun h => clashFrom_yes (its := its) (S := S) (c := c) (x := x) (own := own) hlt h)
      have CO := hide (clashAt_off (its := its) (S := S) (c := c) (x := x) (own := own) (d := d))
      have CX := hide (clashAt_x (its := its) (S := S) (c := c) (x := x) (own := own) (d := d))
      have CR := hide (clashAt_rr (its := its) (S := S) (c := c) (x := x) (own := own) (d := d))
      have CW := hide (clashAt_w (its := its) (S := S) (c := c) (x := x) (own := own) (d := d))
      generalize works S d = f at *
      have hf : Hid (f.there = true → f.item < its.length ∧ f.pos ≤ 20000) := hide fun h => ⟨(hok.out h).1, by have := hok.out h; have := HO.out.body _ this.1; omega⟩
      by_cases hdc : d = c
      · subst hdc
        have HR := hide (NO.out (clashAt_own its S d x own))
        have t1 : ((d : Int) == (d : Int)) = true := by simp
        go_wp2_with (first | (go_at_call 102; refine W1.out.mono ?_; rintro e w1 ⟨rfl, hb1⟩; have HM1 := hide (HMr.out.below hb1)) | (refine wpList_store_row rfl 131 _ _ rfl _ _ rfl rfl 131 _ (heap_alloc_last _ _) Try.iFrame rfl (frA_one _) ?_; rw [World.setRow_alloc_new]) | (refine wpList_load_row rfl 131 _ rfl _ rfl 131 _ (0, 0) _ (heap_alloc_last _ _) Try.underlying131 rfl Try.iFrame ?_) | (go_at_call 145; refine (stands_any _ N b A its n S f (HM1.out.alloc _) HO.out hf.out).mono ?_; rintro e w2 ⟨rfl, hb2⟩; have HM2 := hide ((HM1.out.alloc _).below hb2); have HF2 := hide ((Blk.newFr w1 f _).below hb2)))
        go_round
        case rel => exact ⟨d + 1, by omega, by go_num, by rw [HP.out, HR.out], below_go (below_new (below_go HB.out hb1) _) hb2⟩
        case measure => simp [intOf] <;> omega
      have t1 : ((d : Int) == (c : Int)) = false := by simp; omega
      by_cases hrw : stands its f = 114 ∨ stands its f = 119
      · have hth : f.there = true := by rcases hrw with e | e <;> exact stands_there e (by decide)
        have hat : atB (bodyOf its f.item) f.pos = 114 ∨ atB (bodyOf its f.item) f.pos = 119 := by simpa [stands, hth] using hrw
        have hit := (hf.out hth).1
        have hpo := (hf.out hth).2
        have A3 := hide (fun w => numberB_any its HO.out f.item f.pos w hit hpo (by rcases hat with e | e <;> simp [e]))
        clear hat hth CO
        by_cases hx : x = num (bodyOf its f.item) f.pos
        · have tx : (x == num (bodyOf its f.item) f.pos) = true := by simp [← hx]
          by_cases h114 : stands its f = 114
          · have t2 : (stands its f != 114) = false := by simp [h114]
            have t5 : (stands its f == 119) = false := by simp [h114]
            by_cases hown : own = 119
            · have t4 : (own == 119) = true := by simp [hown]
              have HR := hide (YES.out (CW.out hdc hx hrw (Or.inl hown)))
              clear hx h114 hown hrw
              clear NO YES CX CR CW
              go_wp2_with (first | (go_at_call 102; refine W1.out.mono ?_; rintro e w1 ⟨rfl, hb1⟩; have HM1 := hide (HMr.out.below hb1)) | (refine wpList_store_row rfl 131 _ _ rfl _ _ rfl rfl 131 _ (heap_alloc_last _ _) Try.iFrame rfl (frA_one _) ?_; rw [World.setRow_alloc_new]) | (refine wpList_load_row rfl 131 _ rfl _ rfl 131 _ (0, 0) _ (heap_alloc_last _ _) Try.underlying131 rfl Try.iFrame ?_) | (go_at_call 145; refine (stands_any _ N b A its n S f (HM1.out.alloc _) HO.out hf.out).mono ?_; rintro e w2 ⟨rfl, hb2⟩; have HM2 := hide ((HM1.out.alloc _).below hb2); have HF2 := hide ((Blk.newFr w1 f _).below hb2)))
              obtain ⟨g2, hg2, p1, _⟩ := HM2.out.bodyAt f.item hit
              have p0 : w2.cell? ⟨b, 0, none⟩ = some (.slice A.ai its.length A.ci) := HM2.out.root.cell 0 (by omega)
              rw [hg2] at p0
              have p2 : w2.cell? ⟨w1.heap.size, 1, none⟩ = some (.int .i64 (f.item : Int)) := HF2.out.cell 1 (by omega)
              have p3 : w2.cell? ⟨w1.heap.size, 2, none⟩ = some (.int .i64 (f.pos : Int)) := HF2.out.cell 2 (by omega)
              have HB2 := hide (below_go (below_new (below_go HB.out hb1) _) hb2)
              clear hb2 HF2 hg2
              generalize f.item = fi2 at *
              generalize f.pos = fp2 at *
              generalize Wd.mkS (bodyOf its fi2) = sb at *
              generalize num (bodyOf its fi2) fp2 = nm at *
              go_quiet (first | (go_at_call 94; exact Calls.quiet_of_same (A3.out _)))
              go_wp2
              all_goals (go_ret; exact ⟨ret_bool (by rw [HP.out, HR.out]), below_drewN HB2.out _⟩)
            · have t4 : (own == 119) = false := by simp [hown]
              have HR := hide (NO.out (CR.out hown (by rw [h114]; decide)))
              clear hx h114 hown hrw
              clear NO YES CX CR CW
              go_wp2_with (first | (go_at_call 102; refine W1.out.mono ?_; rintro e w1 ⟨rfl, hb1⟩; have HM1 := hide (HMr.out.below hb1)) | (refine wpList_store_row rfl 131 _ _ rfl _ _ rfl rfl 131 _ (heap_alloc_last _ _) Try.iFrame rfl (frA_one _) ?_; rw [World.setRow_alloc_new]) | (refine wpList_load_row rfl 131 _ rfl _ rfl 131 _ (0, 0) _ (heap_alloc_last _ _) Try.underlying131 rfl Try.iFrame ?_) | (go_at_call 145; refine (stands_any _ N b A its n S f (HM1.out.alloc _) HO.out hf.out).mono ?_; rintro e w2 ⟨rfl, hb2⟩; have HM2 := hide ((HM1.out.alloc _).below hb2); have HF2 := hide ((Blk.newFr w1 f _).below hb2)))
              obtain ⟨g2, hg2, p1, _⟩ := HM2.out.bodyAt f.item hit
              have p0 : w2.cell? ⟨b, 0, none⟩ = some (.slice A.ai its.length A.ci) := HM2.out.root.cell 0 (by omega)
              rw [hg2] at p0
              have p2 : w2.cell? ⟨w1.heap.size, 1, none⟩ = some (.int .i64 (f.item : Int)) := HF2.out.cell 1 (by omega)
              have p3 : w2.cell? ⟨w1.heap.size, 2, none⟩ = some (.int .i64 (f.pos : Int)) := HF2.out.cell 2 (by omega)
              have HB2 := hide (below_go (below_new (below_go HB.out hb1) _) hb2)
              clear hb2 HF2 hg2
              generalize f.item = fi2 at *
              generalize f.pos = fp2 at *
              generalize Wd.mkS (bodyOf its fi2) = sb at *
              generalize num (bodyOf its fi2) fp2 = nm at *
              go_quiet (first | (go_at_call 94; exact Calls.quiet_of_same (A3.out _)))
              go_wp2
              go_round
              case rel => exact ⟨d + 1, by omega, by go_num, by rw [HP.out, HR.out], below_drewN HB2.out _⟩
              case measure => simp [intOf] <;> omega
          · have h119 : stands its f = 119 := by rcases hrw with e | e; exact absurd e h114; exact e
            have t2 : (stands its f != 114) = true := by simp [h114]
            have t3 : (stands its f != 119) = false := by simp [h119]
            have t5 : (stands its f == 119) = true := by simp [h119]
            have HR := hide (YES.out (CW.out hdc hx hrw (Or.inr h119)))
            clear hx h114 h119 hrw
            clear NO YES CX CR CW
            go_wp2_with (first | (go_at_call 102; refine W1.out.mono ?_; rintro e w1 ⟨rfl, hb1⟩; have HM1 := hide (HMr.out.below hb1)) | (refine wpList_store_row rfl 131 _ _ rfl _ _ rfl rfl 131 _ (heap_alloc_last _ _) Try.iFrame rfl (frA_one _) ?_; rw [World.setRow_alloc_new]) | (refine wpList_load_row rfl 131 _ rfl _ rfl 131 _ (0, 0) _ (heap_alloc_last _ _) Try.underlying131 rfl Try.iFrame ?_) | (go_at_call 145; refine (stands_any _ N b A its n S f (HM1.out.alloc _) HO.out hf.out).mono ?_; rintro e w2 ⟨rfl, hb2⟩; have HM2 := hide ((HM1.out.alloc _).below hb2); have HF2 := hide ((Blk.newFr w1 f _).below hb2)))
            obtain ⟨g2, hg2, p1, _⟩ := HM2.out.bodyAt f.item hit
            have p0 : w2.cell? ⟨b, 0, none⟩ = some (.slice A.ai its.length A.ci) := HM2.out.root.cell 0 (by omega)
            rw [hg2] at p0
            have p2 : w2.cell? ⟨w1.heap.size, 1, none⟩ = some (.int .i64 (f.item : Int)) := HF2.out.cell 1 (by omega)
            have p3 : w2.cell? ⟨w1.heap.size, 2, none⟩ = some (.int .i64 (f.pos : Int)) := HF2.out.cell 2 (by omega)
            have HB2 := hide (below_go (below_new (below_go HB.out hb1) _) hb2)
            clear hb2 HF2 hg2
            generalize f.item = fi2 at *
            generalize f.pos = fp2 at *
            generalize Wd.mkS (bodyOf its fi2) = sb at *
            generalize num (bodyOf its fi2) fp2 = nm at *
            go_quiet (first | (go_at_call 94; exact Calls.quiet_of_same (A3.out _)))
            go_wp2
            all_goals (go_ret; exact ⟨ret_bool (by rw [HP.out, HR.out]), below_drewN HB2.out _⟩)
        · have tx : (x == num (bodyOf its f.item) f.pos) = false := by simp [hx]
          have HR := hide (NO.out (CX.out hx))
          by_cases h114 : stands its f = 114
          · have t2 : (stands its f != 114) = false := by simp [h114]
            clear hx h114 hrw
            clear NO YES CX CR CW
            go_wp2_with (first | (go_at_call 102; refine W1.out.mono ?_; rintro e w1 ⟨rfl, hb1⟩; have HM1 := hide (HMr.out.below hb1)) | (refine wpList_store_row rfl 131 _ _ rfl _ _ rfl rfl 131 _ (heap_alloc_last _ _) Try.iFrame rfl (frA_one _) ?_; rw [World.setRow_alloc_new]) | (refine wpList_load_row rfl 131 _ rfl _ rfl 131 _ (0, 0) _ (heap_alloc_last _ _) Try.underlying131 rfl Try.iFrame ?_) | (go_at_call 145; refine (stands_any _ N b A its n S f (HM1.out.alloc _) HO.out hf.out).mono ?_; rintro e w2 ⟨rfl, hb2⟩; have HM2 := hide ((HM1.out.alloc _).below hb2); have HF2 := hide ((Blk.newFr w1 f _).below hb2)))
            obtain ⟨g2, hg2, p1, _⟩ := HM2.out.bodyAt f.item hit
            have p0 : w2.cell? ⟨b, 0, none⟩ = some (.slice A.ai its.length A.ci) := HM2.out.root.cell 0 (by omega)
            rw [hg2] at p0
            have p2 : w2.cell? ⟨w1.heap.size, 1, none⟩ = some (.int .i64 (f.item : Int)) := HF2.out.cell 1 (by omega)
            have p3 : w2.cell? ⟨w1.heap.size, 2, none⟩ = some (.int .i64 (f.pos : Int)) := HF2.out.cell 2 (by omega)
            have HB2 := hide (below_go (below_new (below_go HB.out hb1) _) hb2)
            clear hb2 HF2 hg2
            generalize f.item = fi2 at *
            generalize f.pos = fp2 at *
            generalize Wd.mkS (bodyOf its fi2) = sb at *
            generalize num (bodyOf its fi2) fp2 = nm at *
            go_quiet (first | (go_at_call 94; exact Calls.quiet_of_same (A3.out _)))
            go_wp2
            go_round
            case rel => exact ⟨d + 1, by omega, by go_num, by rw [HP.out, HR.out], below_drewN HB2.out _⟩
            case measure => simp [intOf] <;> omega
          · have h119 : stands its f = 119 := by rcases hrw with e | e; exact absurd e h114; exact e
            have t2 : (stands its f != 114) = true := by simp [h114]
            have t3 : (stands its f != 119) = false := by simp [h119]
            clear hx h114 h119 hrw
            clear NO YES CX CR CW
            go_wp2_with (first | (go_at_call 102; refine W1.out.mono ?_; rintro e w1 ⟨rfl, hb1⟩; have HM1 := hide (HMr.out.below hb1)) | (refine wpList_store_row rfl 131 _ _ rfl _ _ rfl rfl 131 _ (heap_alloc_last _ _) Try.iFrame rfl (frA_one _) ?_; rw [World.setRow_alloc_new]) | (refine wpList_load_row rfl 131 _ rfl _ rfl 131 _ (0, 0) _ (heap_alloc_last _ _) Try.underlying131 rfl Try.iFrame ?_) | (go_at_call 145; refine (stands_any _ N b A its n S f (HM1.out.alloc _) HO.out hf.out).mono ?_; rintro e w2 ⟨rfl, hb2⟩; have HM2 := hide ((HM1.out.alloc _).below hb2); have HF2 := hide ((Blk.newFr w1 f _).below hb2)))
            obtain ⟨g2, hg2, p1, _⟩ := HM2.out.bodyAt f.item hit
            have p0 : w2.cell? ⟨b, 0, none⟩ = some (.slice A.ai its.length A.ci) := HM2.out.root.cell 0 (by omega)
            rw [hg2] at p0
            have p2 : w2.cell? ⟨w1.heap.size, 1, none⟩ = some (.int .i64 (f.item : Int)) := HF2.out.cell 1 (by omega)
            have p3 : w2.cell? ⟨w1.heap.size, 2, none⟩ = some (.int .i64 (f.pos : Int)) := HF2.out.cell 2 (by omega)
            have HB2 := hide (below_go (below_new (below_go HB.out hb1) _) hb2)
            clear hb2 HF2 hg2
            generalize f.item = fi2 at *
            generalize f.pos = fp2 at *
            generalize Wd.mkS (bodyOf its fi2) = sb at *
            generalize num (bodyOf its fi2) fp2 = nm at *
            go_quiet (first | (go_at_call 94; exact Calls.quiet_of_same (A3.out _)))
            go_wp2
            go_round
            case rel => exact ⟨d + 1, by omega, by go_num, by rw [HP.out, HR.out], below_drewN HB2.out _⟩
            case measure => simp [intOf] <;> omega
      · rw [not_or] at hrw
        have t2 : (stands its f != 114) = true := by simp [hrw.1]
        have t3 : (stands its f != 119) = true := by simp [hrw.2]
        have HR := hide (NO.out (CO.out hrw.1 hrw.2))
        clear hrw
        go_wp2_with (first | (go_at_call 102; refine W1.out.mono ?_; rintro e w1 ⟨rfl, hb1⟩; have HM1 := hide (HMr.out.below hb1)) | (refine wpList_store_row rfl 131 _ _ rfl _ _ rfl rfl 131 _ (heap_alloc_last _ _) Try.iFrame rfl (frA_one _) ?_; rw [World.setRow_alloc_new]) | (refine wpList_load_row rfl 131 _ rfl _ rfl 131 _ (0, 0) _ (heap_alloc_last _ _) Try.underlying131 rfl Try.iFrame ?_) | (go_at_call 145; refine (stands_any _ N b A its n S f (HM1.out.alloc _) HO.out hf.out).mono ?_; rintro e w2 ⟨rfl, hb2⟩; have HM2 := hide ((HM1.out.alloc _).below hb2); have HF2 := hide ((Blk.newFr w1 f _).below hb2)))
        go_round
        case rel => exact ⟨d + 1, by omega, by go_num, by rw [HP.out, HR.out], below_go (below_new (below_go HB.out hb1) _) hb2⟩
        case measure => simp [intOf] <;> omega
    · go_wp2
      go_ret
      exact ⟨ret_bool (by rw [HP.out, show n - d = 0 by omega]; rfl), HB.out⟩
end Go.Proofs.Ytecmfdkhcffpmaa
