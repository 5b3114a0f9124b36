/- ProgO. -/
import Derived.Test.YtecmfdkhcffpmabB31
/- Contracts of the program's machine: a thread begins, is put aside; a command. -/
namespace Go.Proofs.Ytecmfdkhcffpmab
open Go.RowKit
set_option linter.unusedSimpArgs false
set_option linter.unusedVariables false
set_option maxHeartbeats 8000000
open Mc

theorem Try.iItem : (Try.prog.info? 135).map (·.size) = some 6 := by kernel_rfl
theorem Try.uItemR : ∃ d, Try.prog.underlying 135 = some d ∧ d.isRow = true := ⟨_, Try.underlying135, rfl⟩
theorem itemRow {w : World} {b : Nat} {ai : Option Addr} {ci : Nat} {lg : Nat → Nat} {its : List Wd.It} {S : Ma} (h : PM w b ai ci lg its S) {n : Nat} (hn : n < its.length) : ∃ g, ai = some ⟨g, 0, none⟩ ∧ g ≠ b ∧ w.rangeAt g (n * 6) [.bool (isH its n), .bool (isH its n), .string (Wd.mkS (bodyOf its n)), .slice (some ⟨lg n, 0, none⟩) (bodyOf its n).length (bodyOf its n).length, .bool (S.rd n), .int .i64 (S.pl n : Int)] := by
  obtain ⟨g, e1, e2, e3⟩ := h.item hn
  have hp := piF_at its lg S n
  refine ⟨g, e1, e3, fun j v hj => ?_⟩
  have hl : j < 6 := (List.getElem?_eq_some_iff.1 hj).1
  rw [e2.cell _ (by omega), ← hj]
  rcases j with _ | _ | _ | _ | _ | _ | j
  · rw [Nat.add_zero, hp.1]; rfl
  · rw [hp.2.1]; rfl
  · rw [hp.2.2.1]; rfl
  · rw [hp.2.2.2.1]; rfl
  · rw [hp.2.2.2.2.1]; rfl
  · rw [hp.2.2.2.2.2]; rfl
  · omega
set_option maxRecDepth 100000 in
theorem start_out (w : World) (b : Nat) (ai : Option Addr) (ci : Nat) (lg : Nat → Nat) (its : List Wd.It) (S : Ma) (c n : Nat) (h : PM w b ai ci lg its S) (hn : ¬ n < its.length) (hn7 : n ≤ 255) :
    Calls Try.prog 87 #[.pointer (some ⟨b, 0, none⟩), .int .i64 c, .int .i64 n] w fun e w' => e = .returned (.int .u8 95) ∧ PM w' b ai ci lg its S ∧ KP b ai w w' := by
  have CA := h.caps
  unfold maxLen at CA
  have HM := hide h
  have r0 := h.slot
  clear h
  go_enter Try.func87, Try.ntmps87
  go_wp2
  go_ret
  exact ⟨rfl, HM.out, KP.refl _ _ _⟩
set_option maxRecDepth 100000 in
theorem start_handler (w : World) (b : Nat) (ai : Option Addr) (ci : Nat) (lg : Nat → Nat) (its : List Wd.It) (S : Ma) (c n : Nat) (h : PM w b ai ci lg its S) (hn : n < its.length) (hk : isH its n = true) (L : Int) (S' : Ma) (hin : Calls Try.prog 102 #[.pointer (some ⟨b, 0, none⟩), .int .i64 c, .int .i64 n] w fun e w' => e = .returned (.int .u8 L) ∧ PM w' b ai ci lg its S' ∧ KP b ai w w') :
    Calls Try.prog 87 #[.pointer (some ⟨b, 0, none⟩), .int .i64 c, .int .i64 n] w fun e w' => e = .returned (.int .u8 L) ∧ PM w' b ai ci lg its S' ∧ KP b ai w w' := by
  have CA := h.caps
  unfold maxLen at CA
  obtain ⟨g, hg, hgb, hr⟩ := itemRow h hn
  have r0 := h.slot
  rw [hg] at r0
  have i0 : w.cell? ⟨g, n * 6, none⟩ = some (.bool true) := by have := hr 0 _ rfl; rwa [hk] at this
  have AI := hide hin
  clear h hin hg hr hk
  go_enter Try.func87, Try.ntmps87
  go_wp2_with (first | (go_at_call 102; refine (AI.out).mono ?_; rintro e w1 ⟨rfl, hm1, hk1⟩; have HM1 := hide hm1; have HK1 := hide hk1; clear hm1 hk1))
  go_ret
  exact ⟨rfl, HM1.out, HK1.out⟩
set_option maxRecDepth 100000 in
theorem start_no (w : World) (b : Nat) (ai : Option Addr) (ci : Nat) (lg : Nat → Nat) (its : List Wd.It) (S : Ma) (c n : Nat) (h : PM w b ai ci lg its S) (hc : c < 3) (hn : n < its.length) (hk : isH its n = false) (hh : (S.cp c).t.there = true ∨ (S.cp c).h.there = true ∨ S.rd n = false) :
    Calls Try.prog 87 #[.pointer (some ⟨b, 0, none⟩), .int .i64 c, .int .i64 n] w fun e w' => e = .returned (.int .u8 95) ∧ PM w' b ai ci lg its S ∧ KP b ai w w' := by
  have CA := h.caps
  unfold maxLen at CA
  have HM := hide h
  have HRC := hide (rangeC h c hc)
  obtain ⟨g, hg, hgb, hir⟩ := itemRow h hn
  rw [hk] at hir
  have hgl : g < w.heap.size := h.pb.ai (by omega) g hg
  have hbl : b < w.heap.size := h.pb.b
  have r0 : w.cell? ⟨b, 0, none⟩ = some (.slice (some ⟨g, 0, none⟩) its.length ci) := by rw [← hg]; exact h.slot
  have i0 : w.cell? ⟨g, n * 6, none⟩ = some (.bool false) := hir 0 _ rfl
  have HIR : Hid (∀ W, Below w.heap.size w W → W.rangeAt g (n * 6) [.bool false, .bool false, .string (Wd.mkS (bodyOf its n)), .slice (some ⟨lg n, 0, none⟩) (bodyOf its n).length (bodyOf its n).length, .bool (S.rd n), .int .i64 (S.pl n : Int)]) := hide fun W hW j v hj => (hW.cell (p := ⟨g, n * 6 + j, none⟩) hgl).trans (hir j v hj)
  obtain ⟨ui, hui, hdi⟩ := Try.uItemR
  have HUI := hide hui
  have HDI := hide hdi
  clear hui hdi
  obtain ⟨ud, hu, hdd⟩ := Try.uCodeR
  have HU := hide hu
  have HD := hide hdd
  clear hu hdd
  obtain ⟨up, hup, hdp⟩ := Try.uProcR
  have HUP := hide hup
  have HDP := hide hdp
  clear hup hdp
  clear h hg hir hk
  cases h1 : (S.cp c).t.there <;> cases h2 : (S.cp c).h.there <;> cases h3 : S.rd n
  all_goals first
    | (exfalso; simp [h1, h2, h3] at hh; done)
    | (
      have HH := hide (And.intro h1 (And.intro h2 h3))
      clear h1 h2 h3 hh
      go_enter Try.func87, Try.ntmps87
      go_wp2_with (first | (refine wpList_store_row rfl 135 _ _ rfl w1.heap.size #[.bool false, .bool false, .string (Wd.mkS (bodyOf its n)), .slice (some ⟨lg n, 0, none⟩) (bodyOf its n).length (bodyOf its n).length, .bool (S.rd n), .int .i64 (S.pl n : Int)] rfl rfl 135 #[.bool false, .bool false, .string ⟨#[]⟩, .slice none 0 0, .bool false, .int .i64 0] ?_ Try.iItem rfl (by simp [Value.oneCell']) ?_; (exact (Row.new w1 #[.bool false, .bool false, .string ⟨#[]⟩, .slice none 0 0, .bool false, .int .i64 0] 135).raw); rw [World.setRow_alloc_new]; have HR2 := hide (Row.new w1 #[.bool false, .bool false, .string (Wd.mkS (bodyOf its n)), .slice (some ⟨lg n, 0, none⟩) (bodyOf its n).length (bodyOf its n).length, .bool (S.rd n), .int .i64 (S.pl n : Int)] 135); have HB2 := hide (below_new HB1.out (.cells #[.bool false, .bool false, .string (Wd.mkS (bodyOf its n)), .slice (some ⟨lg n, 0, none⟩) (bodyOf its n).length (bodyOf its n).length, .bool (S.rd n), .int .i64 (S.pl n : Int)] 135)); have HP2 := hide (HR1.out.alloc (.cells #[.bool false, .bool false, .string (Wd.mkS (bodyOf its n)), .slice (some ⟨lg n, 0, none⟩) (bodyOf its n).length (bodyOf its n).length, .bool (S.rd n), .int .i64 (S.pl n : Int)] 135)); generalize w1.alloc (.cells #[.bool false, .bool false, .string (Wd.mkS (bodyOf its n)), .slice (some ⟨lg n, 0, none⟩) (bodyOf its n).length (bodyOf its n).length, .bool (S.rd n), .int .i64 (S.pl n : Int)] 135) = w2 at *; have s4 := HR2.out.cell 4 (v := .bool (S.rd n)) rfl; rw [HH.out.2.2] at s4; have s5 := HR2.out.cell 5 (v := .int .i64 (S.pl n : Int)) rfl; have q2 := pcV_cells HP2.out; rw [HH.out.1, HH.out.2.1] at q2; have q20 := q2.1; have q213 := q2.2.2.2.2; clear q2) | (refine wpList_load_mid rfl 135 _ rfl _ _ rfl [.bool false, .bool false, .string (Wd.mkS (bodyOf its n)), .slice (some ⟨lg n, 0, none⟩) (bodyOf its n).length (bodyOf its n).length, .bool (S.rd n), .int .i64 (S.pl n : Int)] ui ?_ HUI.out HDI.out Try.iItem ?_; (exact HIR.out _ HB1.out)) | (refine wpList_store_row rfl 104 _ _ rfl w.heap.size (pcV its lg (S.cp c)).toArray rfl rfl 104 #[.bool false, .int .i64 0, .bool false, .string ⟨#[]⟩, .slice none 0 0, .int .i64 0, .bool false, .bool false, .bool false, .bool false, .bool false, .bool false, .bool false, .bool false, .int .i64 0, .bool false, .string ⟨#[]⟩, .slice none 0 0, .int .i64 0, .bool false, .bool false, .bool false, .bool false, .bool false, .bool false, .bool false] ?_ (Try.iProcA _ _ _) rfl (pcV_one _ _ _) ?_; (exact (Row.new w #[.bool false, .int .i64 0, .bool false, .string ⟨#[]⟩, .slice none 0 0, .int .i64 0, .bool false, .bool false, .bool false, .bool false, .bool false, .bool false, .bool false, .bool false, .int .i64 0, .bool false, .string ⟨#[]⟩, .slice none 0 0, .int .i64 0, .bool false, .bool false, .bool false, .bool false, .bool false, .bool false, .bool false] 104).raw); rw [World.setRow_alloc_new]; have HR1 := hide (Row.new w (pcV its lg (S.cp c)).toArray 104); have HB1 := hide (below_one w (.cells (pcV its lg (S.cp c)).toArray 104)); generalize w.alloc (.cells (pcV its lg (S.cp c)).toArray 104) = w1 at *; have q1 := pcV_cells HR1.out; rw [HH.out.1, HH.out.2.1] at q1; have q10 := q1.1; have q11 := q1.2.1; have q15 := q1.2.2.1; have q112 := q1.2.2.2.1; have q113 := q1.2.2.2.2; clear q1; have r1 : w1.cell? ⟨b, 0, none⟩ = some (.slice (some ⟨g, 0, none⟩) its.length ci) := (HB1.out.cell (p := ⟨b, 0, none⟩) hbl).trans r0) | (refine wpList_load_mid rfl 104 _ rfl _ _ rfl (pcV its lg (S.cp c)) up ?_ HUP.out HDP.out (Try.iProcV _ _ _) ?_; (exact HRC.out)))
      go_ret
      exact ⟨rfl, HM.out.below HB2.out, KP.of HB2.out⟩)
theorem Row.range3 {w : World} {g : Nat} {t : TypeId} {a0 a1 a2 a3 a4 a5 : Value} (h : Row w g #[a0, a1, a2, a3, a4, a5] t) : w.rangeAt g 1 [a1, a2, a3] := by
  refine h.range 1 _ fun j v hj => ?_
  have hl : j < 3 := (List.getElem?_eq_some_iff.1 hj).1
  rw [← hj]
  rcases j with _ | _ | _ | j <;> first | rfl | omega
set_option maxRecDepth 100000 in
theorem start_yes (w : World) (b : Nat) (ai : Option Addr) (ci : Nat) (lg : Nat → Nat) (its : List Wd.It) (S : Ma) (c n : Nat) (h : PM w b ai ci lg its S) (hc : c < 3) (hn : n < its.length) (hk : isH its n = false) (h1 : (S.cp c).t.there = false) (h2 : (S.cp c).h.there = false) (h3 : S.rd n = true) :
    Calls Try.prog 87 #[.pointer (some ⟨b, 0, none⟩), .int .i64 c, .int .i64 n] w fun e w' => e = .returned (.int .u8 116) ∧ PM w' b ai ci lg its (setRd (setCp S c { (S.cp c) with t := ⟨true, n, S.pl n, 0⟩, off := false }) n false) ∧ KP b ai w w' := by
  have CA := h.caps
  unfold maxLen at CA
  have HM := hide h
  have HRC := hide (rangeC h c hc)
  obtain ⟨g, hg, hgb, hir⟩ := itemRow h hn
  rw [hk] at hir
  have hgl : g < w.heap.size := h.pb.ai (by omega) g hg
  have hbl : b < w.heap.size := h.pb.b
  have r0 : w.cell? ⟨b, 0, none⟩ = some (.slice (some ⟨g, 0, none⟩) its.length ci) := by rw [← hg]; exact h.slot
  have i0 : w.cell? ⟨g, n * 6, none⟩ = some (.bool false) := hir 0 _ rfl
  have HIR : Hid (∀ W, Below w.heap.size w W → W.rangeAt g (n * 6) [.bool false, .bool false, .string (Wd.mkS (bodyOf its n)), .slice (some ⟨lg n, 0, none⟩) (bodyOf its n).length (bodyOf its n).length, .bool (S.rd n), .int .i64 (S.pl n : Int)]) := hide fun W hW j v hj => (hW.cell (p := ⟨g, n * 6 + j, none⟩) hgl).trans (hir j v hj)
  obtain ⟨ui, hui, hdi⟩ := Try.uItemR
  have HUI := hide hui
  have HDI := hide hdi
  clear hui hdi
  obtain ⟨ud, hu, hdd⟩ := Try.uCodeR
  have HU := hide hu
  have HD := hide hdd
  clear hu hdd
  obtain ⟨up, hup, hdp⟩ := Try.uProcR
  have HUP := hide hup
  have HDP := hide hdp
  clear hup hdp
  have ABE := hide (fun W => codeBeginX false (Wd.mkS (bodyOf its n)) (some ⟨lg n, 0, none⟩) (bodyOf its n).length (bodyOf its n).length W)
  have HH := hide (And.intro h1 (And.intro h2 h3))
  have HVAL : Hid (fpV its lg ⟨true, n, S.pl n, 0⟩ false = [.bool true, .int .i64 n, .bool false, .string (Wd.mkS (bodyOf its n)), .slice (some ⟨lg n, 0, none⟩) (bodyOf its n).length (bodyOf its n).length, .int .i64 (S.pl n : Int), .bool false, .bool false, .bool false, .bool false, .bool false, .bool false, .bool false]) := by apply hide; simp [fpV, fb, fl, hk]
  have hci0 : (0 : Int) ≤ (c : Int) := by omega
  have hci3 : (c : Int) < 3 := by omega
  have HG := hide hg
  clear h hg hir hk h1 h2 h3
  go_enter Try.func87, Try.ntmps87
  go_wp2_with (first | (refine wpList_store_row rfl 100 _ _ rfl w3.heap.size #[.int .i64 0, .bool false, .bool false, .bool false, .bool false, .bool false, .bool false, .bool false] rfl rfl 100 #[.int .i64 0, .bool false, .bool false, .bool false, .bool false, .bool false, .bool false, .bool false] ?_ Try.iState rfl (by simp [Value.oneCell']) ?_; (exact (Row.new w3 #[.int .i64 0, .bool false, .bool false, .bool false, .bool false, .bool false, .bool false, .bool false] 100).raw); rw [World.setRow_alloc_new]; have HS4 := hide (Row.new w3 #[.int .i64 0, .bool false, .bool false, .bool false, .bool false, .bool false, .bool false, .bool false] 100); have HB4 := hide (below_new HB3.out (.cells #[.int .i64 0, .bool false, .bool false, .bool false, .bool false, .bool false, .bool false, .bool false] 100)); have HR4 := hide (HR3.out.alloc (.cells #[.int .i64 0, .bool false, .bool false, .bool false, .bool false, .bool false, .bool false, .bool false] 100)); generalize w3.alloc (.cells #[.int .i64 0, .bool false, .bool false, .bool false, .bool false, .bool false, .bool false, .bool false] 100) = w4 at *; have s5 := HR4.out.cell 5 (v := .int .i64 (S.pl n : Int)) rfl; have f5 := HS4.out.frozen 0; have f6 := HS4.out.cell 0 (v := .int .i64 0) rfl) | (go_at_call 88; refine (ABE.out _).mono ?_; rintro e w3 ⟨rfl, hb3⟩; have HR3 := hide (HR2.out.below hb3); have HB3 := hide (below_go HB2.out hb3); clear hb3) | (refine wpList_load_mid rfl 97 _ rfl _ _ rfl [.bool false, .string (Wd.mkS (bodyOf its n)), .slice (some ⟨lg n, 0, none⟩) (bodyOf its n).length (bodyOf its n).length] ud ?_ HU.out HD.out Try.iCode ?_; (exact HR2.out.range3)) | (refine wpList_store_row rfl 135 _ _ rfl w1.heap.size #[.bool false, .bool false, .string (Wd.mkS (bodyOf its n)), .slice (some ⟨lg n, 0, none⟩) (bodyOf its n).length (bodyOf its n).length, .bool (S.rd n), .int .i64 (S.pl n : Int)] rfl rfl 135 #[.bool false, .bool false, .string ⟨#[]⟩, .slice none 0 0, .bool false, .int .i64 0] ?_ Try.iItem rfl (by simp [Value.oneCell']) ?_; (exact (Row.new w1 #[.bool false, .bool false, .string ⟨#[]⟩, .slice none 0 0, .bool false, .int .i64 0] 135).raw); rw [World.setRow_alloc_new]; have HR2 := hide (Row.new w1 #[.bool false, .bool false, .string (Wd.mkS (bodyOf its n)), .slice (some ⟨lg n, 0, none⟩) (bodyOf its n).length (bodyOf its n).length, .bool (S.rd n), .int .i64 (S.pl n : Int)] 135); have HB2 := hide (below_new HB1.out (.cells #[.bool false, .bool false, .string (Wd.mkS (bodyOf its n)), .slice (some ⟨lg n, 0, none⟩) (bodyOf its n).length (bodyOf its n).length, .bool (S.rd n), .int .i64 (S.pl n : Int)] 135)); have HP2 := hide (HR1.out.alloc (.cells #[.bool false, .bool false, .string (Wd.mkS (bodyOf its n)), .slice (some ⟨lg n, 0, none⟩) (bodyOf its n).length (bodyOf its n).length, .bool (S.rd n), .int .i64 (S.pl n : Int)] 135)); generalize w1.alloc (.cells #[.bool false, .bool false, .string (Wd.mkS (bodyOf its n)), .slice (some ⟨lg n, 0, none⟩) (bodyOf its n).length (bodyOf its n).length, .bool (S.rd n), .int .i64 (S.pl n : Int)] 135) = w2 at *; have s4 := HR2.out.cell 4 (v := .bool (S.rd n)) rfl; rw [HH.out.2.2] at s4; have s5 := HR2.out.cell 5 (v := .int .i64 (S.pl n : Int)) rfl; have q2 := pcV_cells HP2.out; rw [HH.out.1, HH.out.2.1] at q2; have q20 := q2.1; have q213 := q2.2.2.2.2; clear q2) | (refine wpList_load_mid rfl 135 _ rfl _ _ rfl [.bool false, .bool false, .string (Wd.mkS (bodyOf its n)), .slice (some ⟨lg n, 0, none⟩) (bodyOf its n).length (bodyOf its n).length, .bool (S.rd n), .int .i64 (S.pl n : Int)] ui ?_ HUI.out HDI.out Try.iItem ?_; (exact HIR.out _ HB1.out)) | (refine wpList_store_row rfl 104 _ _ rfl w.heap.size (pcV its lg (S.cp c)).toArray rfl rfl 104 #[.bool false, .int .i64 0, .bool false, .string ⟨#[]⟩, .slice none 0 0, .int .i64 0, .bool false, .bool false, .bool false, .bool false, .bool false, .bool false, .bool false, .bool false, .int .i64 0, .bool false, .string ⟨#[]⟩, .slice none 0 0, .int .i64 0, .bool false, .bool false, .bool false, .bool false, .bool false, .bool false, .bool false] ?_ (Try.iProcA _ _ _) rfl (pcV_one _ _ _) ?_; (exact (Row.new w #[.bool false, .int .i64 0, .bool false, .string ⟨#[]⟩, .slice none 0 0, .int .i64 0, .bool false, .bool false, .bool false, .bool false, .bool false, .bool false, .bool false, .bool false, .int .i64 0, .bool false, .string ⟨#[]⟩, .slice none 0 0, .int .i64 0, .bool false, .bool false, .bool false, .bool false, .bool false, .bool false, .bool false] 104).raw); rw [World.setRow_alloc_new]; have HR1 := hide (Row.new w (pcV its lg (S.cp c)).toArray 104); have HB1 := hide (below_one w (.cells (pcV its lg (S.cp c)).toArray 104)); generalize w.alloc (.cells (pcV its lg (S.cp c)).toArray 104) = w1 at *; have q1 := pcV_cells HR1.out; rw [HH.out.1, HH.out.2.1] at q1; have q10 := q1.1; have q11 := q1.2.1; have q15 := q1.2.2.1; have q112 := q1.2.2.2.1; have q113 := q1.2.2.2.2; clear q1; have r1 : w1.cell? ⟨b, 0, none⟩ = some (.slice (some ⟨g, 0, none⟩) its.length ci) := (HB1.out.cell (p := ⟨b, 0, none⟩) hbl).trans r0) | (refine wpList_load_mid rfl 104 _ rfl _ _ rfl (pcV its lg (S.cp c)) up ?_ HUP.out HDP.out (Try.iProcV _ _ _) ?_; (exact HRC.out)))
  have HS5 := hide (HS4.out.s80 (.int .i64 (S.pl n : Int)))
  have hg3 : w1.heap.size < w3.heap.size := HR3.out.lt
  have hg1 : w.heap.size ≤ w1.heap.size := HB1.out.size
  have HR5 := hide (HR4.out.setO (g := w3.heap.size) (by omega) 0 (.int .i64 (S.pl n : Int)))
  have HB5 := hide (HB4.out.setCell (p := ⟨w3.heap.size, 0, none⟩) (show w.heap.size ≤ w3.heap.size by omega) (.int .i64 (S.pl n : Int)))
  clear q10 q11 q15 q112 q113 r1 q20 q213 s4 s5 f5 f6
  generalize w4.setCell ⟨w3.heap.size, 0, none⟩ (.int .i64 (S.pl n : Int)) = w5 at *
  have HM5 := hide (HM.out.below HB5.out)
  have y0 : w5.cell? ⟨w1.heap.size, 1, none⟩ = some (.bool false) := HR5.out.cell 1 rfl
  have y1 : w5.cell? ⟨w1.heap.size, 2, none⟩ = some (.string (Wd.mkS (bodyOf its n))) := HR5.out.cell 2 rfl
  have y2 : w5.cell? ⟨w1.heap.size, 3, none⟩ = some (.slice (some ⟨lg n, 0, none⟩) (bodyOf its n).length (bodyOf its n).length) := HR5.out.cell 3 rfl
  have z0 : w5.cell? ⟨w3.heap.size, 0, none⟩ = some (.int .i64 (S.pl n : Int)) := HS5.out.cell 0 rfl
  have z1 : w5.cell? ⟨w3.heap.size, 1, none⟩ = some (.bool false) := HS5.out.cell 1 rfl
  have z2 : w5.cell? ⟨w3.heap.size, 2, none⟩ = some (.bool false) := HS5.out.cell 2 rfl
  have z3 : w5.cell? ⟨w3.heap.size, 3, none⟩ = some (.bool false) := HS5.out.cell 3 rfl
  have z4 : w5.cell? ⟨w3.heap.size, 4, none⟩ = some (.bool false) := HS5.out.cell 4 rfl
  have z5 : w5.cell? ⟨w3.heap.size, 5, none⟩ = some (.bool false) := HS5.out.cell 5 rfl
  have z6 : w5.cell? ⟨w3.heap.size, 6, none⟩ = some (.bool false) := HS5.out.cell 6 rfl
  have z7 : w5.cell? ⟨w3.heap.size, 7, none⟩ = some (.bool false) := HS5.out.cell 7 rfl
  obtain ⟨c0, d0⟩ : ∃ v, w5.cell? ⟨b, 1 + c * 26, none⟩ = some v := ⟨_, HM5.out.root.cell (1 + c * 26) (by omega)⟩
  have ef0 : w5.frozen? ⟨b, 1 + c * 26, none⟩ = false := HM5.out.root.frozen _
  obtain ⟨c1, d1⟩ : ∃ v, w5.cell? ⟨b, 1 + c * 26 + 1, none⟩ = some v := ⟨_, HM5.out.root.cell (1 + c * 26 + 1) (by omega)⟩
  have ef1 : w5.frozen? ⟨b, 1 + c * 26 + 1, none⟩ = false := HM5.out.root.frozen _
  obtain ⟨c2, d2⟩ : ∃ v, w5.cell? ⟨b, 1 + c * 26 + 2, none⟩ = some v := ⟨_, HM5.out.root.cell (1 + c * 26 + 2) (by omega)⟩
  have ef2 : w5.frozen? ⟨b, 1 + c * 26 + 2, none⟩ = false := HM5.out.root.frozen _
  obtain ⟨c3, d3⟩ : ∃ v, w5.cell? ⟨b, 1 + c * 26 + 3, none⟩ = some v := ⟨_, HM5.out.root.cell (1 + c * 26 + 3) (by omega)⟩
  have ef3 : w5.frozen? ⟨b, 1 + c * 26 + 3, none⟩ = false := HM5.out.root.frozen _
  obtain ⟨c4, d4⟩ : ∃ v, w5.cell? ⟨b, 1 + c * 26 + 4, none⟩ = some v := ⟨_, HM5.out.root.cell (1 + c * 26 + 4) (by omega)⟩
  have ef4 : w5.frozen? ⟨b, 1 + c * 26 + 4, none⟩ = false := HM5.out.root.frozen _
  obtain ⟨c5, d5⟩ : ∃ v, w5.cell? ⟨b, 1 + c * 26 + 5, none⟩ = some v := ⟨_, HM5.out.root.cell (1 + c * 26 + 5) (by omega)⟩
  have ef5 : w5.frozen? ⟨b, 1 + c * 26 + 5, none⟩ = false := HM5.out.root.frozen _
  obtain ⟨c6, d6⟩ : ∃ v, w5.cell? ⟨b, 1 + c * 26 + 6, none⟩ = some v := ⟨_, HM5.out.root.cell (1 + c * 26 + 6) (by omega)⟩
  have ef6 : w5.frozen? ⟨b, 1 + c * 26 + 6, none⟩ = false := HM5.out.root.frozen _
  obtain ⟨c7, d7⟩ : ∃ v, w5.cell? ⟨b, 1 + c * 26 + 7, none⟩ = some v := ⟨_, HM5.out.root.cell (1 + c * 26 + 7) (by omega)⟩
  have ef7 : w5.frozen? ⟨b, 1 + c * 26 + 7, none⟩ = false := HM5.out.root.frozen _
  obtain ⟨c8, d8⟩ : ∃ v, w5.cell? ⟨b, 1 + c * 26 + 8, none⟩ = some v := ⟨_, HM5.out.root.cell (1 + c * 26 + 8) (by omega)⟩
  have ef8 : w5.frozen? ⟨b, 1 + c * 26 + 8, none⟩ = false := HM5.out.root.frozen _
  obtain ⟨c9, d9⟩ : ∃ v, w5.cell? ⟨b, 1 + c * 26 + 9, none⟩ = some v := ⟨_, HM5.out.root.cell (1 + c * 26 + 9) (by omega)⟩
  have ef9 : w5.frozen? ⟨b, 1 + c * 26 + 9, none⟩ = false := HM5.out.root.frozen _
  obtain ⟨c10, d10⟩ : ∃ v, w5.cell? ⟨b, 1 + c * 26 + 10, none⟩ = some v := ⟨_, HM5.out.root.cell (1 + c * 26 + 10) (by omega)⟩
  have ef10 : w5.frozen? ⟨b, 1 + c * 26 + 10, none⟩ = false := HM5.out.root.frozen _
  obtain ⟨c11, d11⟩ : ∃ v, w5.cell? ⟨b, 1 + c * 26 + 11, none⟩ = some v := ⟨_, HM5.out.root.cell (1 + c * 26 + 11) (by omega)⟩
  have ef11 : w5.frozen? ⟨b, 1 + c * 26 + 11, none⟩ = false := HM5.out.root.frozen _
  obtain ⟨c12, d12⟩ : ∃ v, w5.cell? ⟨b, 1 + c * 26 + 12, none⟩ = some v := ⟨_, HM5.out.root.cell (1 + c * 26 + 12) (by omega)⟩
  have ef12 : w5.frozen? ⟨b, 1 + c * 26 + 12, none⟩ = false := HM5.out.root.frozen _
  have hne1 : w1.heap.size ≠ b := by omega
  have hne3 : w3.heap.size ≠ b := by omega
  have KEEP : Hid (∀ W', W' = (((((((((((((w5.setCell ⟨b, 1 + c * 26, none⟩ (.bool true)).setCell ⟨b, 1 + c * 26 + 1, none⟩ (.int .i64 n)).setCell ⟨b, 1 + c * 26 + 2, none⟩ (.bool false)).setCell ⟨b, 1 + c * 26 + 3, none⟩ (.string (Wd.mkS (bodyOf its n)))).setCell ⟨b, 1 + c * 26 + 4, none⟩ (.slice (some ⟨lg n, 0, none⟩) (bodyOf its n).length (bodyOf its n).length)).setCell ⟨b, 1 + c * 26 + 5, none⟩ (.int .i64 (S.pl n : Int))).setCell ⟨b, 1 + c * 26 + 6, none⟩ (.bool false)).setCell ⟨b, 1 + c * 26 + 7, none⟩ (.bool false)).setCell ⟨b, 1 + c * 26 + 8, none⟩ (.bool false)).setCell ⟨b, 1 + c * 26 + 9, none⟩ (.bool false)).setCell ⟨b, 1 + c * 26 + 10, none⟩ (.bool false)).setCell ⟨b, 1 + c * 26 + 11, none⟩ (.bool false)).setCell ⟨b, 1 + c * 26 + 12, none⟩ (.bool false)).drew → W'.cell? ⟨w1.heap.size, 1, none⟩ = some (.bool false) ∧ W'.cell? ⟨w1.heap.size, 2, none⟩ = some (.string (Wd.mkS (bodyOf its n))) ∧ W'.cell? ⟨w1.heap.size, 3, none⟩ = some (.slice (some ⟨lg n, 0, none⟩) (bodyOf its n).length (bodyOf its n).length) ∧ W'.cell? ⟨w3.heap.size, 0, none⟩ = some (.int .i64 (S.pl n : Int)) ∧ W'.cell? ⟨w3.heap.size, 1, none⟩ = some (.bool false) ∧ W'.cell? ⟨w3.heap.size, 2, none⟩ = some (.bool false) ∧ W'.cell? ⟨w3.heap.size, 3, none⟩ = some (.bool false) ∧ W'.cell? ⟨w3.heap.size, 4, none⟩ = some (.bool false) ∧ W'.cell? ⟨w3.heap.size, 5, none⟩ = some (.bool false) ∧ W'.cell? ⟨w3.heap.size, 6, none⟩ = some (.bool false) ∧ W'.cell? ⟨w3.heap.size, 7, none⟩ = some (.bool false)) := by
    apply hide
    rintro _ rfl
    have k1 := (((((((((((((HR5.out.setO hne1 (1 + c * 26) (.bool true)).setO hne1 (1 + c * 26 + 1) (.int .i64 n)).setO hne1 (1 + c * 26 + 2) (.bool false)).setO hne1 (1 + c * 26 + 3) (.string (Wd.mkS (bodyOf its n)))).setO hne1 (1 + c * 26 + 4) (.slice (some ⟨lg n, 0, none⟩) (bodyOf its n).length (bodyOf its n).length)).setO hne1 (1 + c * 26 + 5) (.int .i64 (S.pl n : Int))).setO hne1 (1 + c * 26 + 6) (.bool false)).setO hne1 (1 + c * 26 + 7) (.bool false)).setO hne1 (1 + c * 26 + 8) (.bool false)).setO hne1 (1 + c * 26 + 9) (.bool false)).setO hne1 (1 + c * 26 + 10) (.bool false)).setO hne1 (1 + c * 26 + 11) (.bool false)).setO hne1 (1 + c * 26 + 12) (.bool false)).below ((Below.refl _ _).drew)
    have k2 := (((((((((((((HS5.out.setO hne3 (1 + c * 26) (.bool true)).setO hne3 (1 + c * 26 + 1) (.int .i64 n)).setO hne3 (1 + c * 26 + 2) (.bool false)).setO hne3 (1 + c * 26 + 3) (.string (Wd.mkS (bodyOf its n)))).setO hne3 (1 + c * 26 + 4) (.slice (some ⟨lg n, 0, none⟩) (bodyOf its n).length (bodyOf its n).length)).setO hne3 (1 + c * 26 + 5) (.int .i64 (S.pl n : Int))).setO hne3 (1 + c * 26 + 6) (.bool false)).setO hne3 (1 + c * 26 + 7) (.bool false)).setO hne3 (1 + c * 26 + 8) (.bool false)).setO hne3 (1 + c * 26 + 9) (.bool false)).setO hne3 (1 + c * 26 + 10) (.bool false)).setO hne3 (1 + c * 26 + 11) (.bool false)).setO hne3 (1 + c * 26 + 12) (.bool false)).below ((Below.refl _ _).drew)
    exact ⟨k1.cell 1 rfl, k1.cell 2 rfl, k1.cell 3 rfl, k2.cell 0 rfl, k2.cell 1 rfl, k2.cell 2 rfl, k2.cell 3 rfl, k2.cell 4 rfl, k2.cell 5 rfl, k2.cell 6 rfl, k2.cell 7 rfl⟩
  go_region_held3 (fun W' => W'.cell? ⟨w1.heap.size, 1, none⟩ = some (.bool false) ∧ W'.cell? ⟨w1.heap.size, 2, none⟩ = some (.string (Wd.mkS (bodyOf its n))) ∧ W'.cell? ⟨w1.heap.size, 3, none⟩ = some (.slice (some ⟨lg n, 0, none⟩) (bodyOf its n).length (bodyOf its n).length) ∧ W'.cell? ⟨w3.heap.size, 0, none⟩ = some (.int .i64 (S.pl n : Int)) ∧ W'.cell? ⟨w3.heap.size, 1, none⟩ = some (.bool false) ∧ W'.cell? ⟨w3.heap.size, 2, none⟩ = some (.bool false) ∧ W'.cell? ⟨w3.heap.size, 3, none⟩ = some (.bool false) ∧ W'.cell? ⟨w3.heap.size, 4, none⟩ = some (.bool false) ∧ W'.cell? ⟨w3.heap.size, 5, none⟩ = some (.bool false) ∧ W'.cell? ⟨w3.heap.size, 6, none⟩ = some (.bool false) ∧ W'.cell? ⟨w3.heap.size, 7, none⟩ = some (.bool false)) (first | exact KEEP.out _ (by with_reducible rfl) | go_keep) (fail)
  all_goals (
    have HM6 : Hid (PM (w5.setCells b (1 + c * 26) [.bool true, .int .i64 n, .bool false, .string (Wd.mkS (bodyOf its n)), .slice (some ⟨lg n, 0, none⟩) (bodyOf its n).length (bodyOf its n).length, .int .i64 (S.pl n : Int), .bool false, .bool false, .bool false, .bool false, .bool false, .bool false, .bool false]) b ai ci lg its (setCp S c { (S.cp c) with t := ⟨true, n, S.pl n, 0⟩, off := false })) := by
      apply hide
      have := HM5.out.setT c hc ⟨true, n, S.pl n, 0⟩ false
      rwa [HVAL.out] at this
    have HK6 := hide ((KP.of (b := b) (ai := ai) HB5.out).sets (1 + c * 26) [.bool true, .int .i64 n, .bool false, .string (Wd.mkS (bodyOf its n)), .slice (some ⟨lg n, 0, none⟩) (bodyOf its n).length (bodyOf its n).length, .int .i64 (S.pl n : Int), .bool false, .bool false, .bool false, .bool false, .bool false, .bool false, .bool false])
    have HM7 := hide (HM6.out.setRd HG.out n false).drew
    have HK7 := hide (HK6.out.seti HG.out (n * 6 + 4) (.bool false)).drew
    obtain ⟨g', e1, e2, e3⟩ := HM5.out.item hn
    have hgg : g' = g := by rw [HG.out] at e1; cases e1; rfl
    subst hgg
    have i4 : w5.cell? ⟨g', n * 6 + 4, none⟩ = some (.bool (S.rd n)) := by rw [e2.cell _ (by omega), (piF_at its lg S n).2.2.2.2.1]
    have i5 : w5.frozen? ⟨g', n * 6 + 4, none⟩ = false := e2.frozen _
    have r5 : w5.cell? ⟨b, 0, none⟩ = some (.slice (some ⟨g', 0, none⟩) its.length ci) := by rw [HM5.out.slot, HG.out]
    clear e1 e2 d0 ef0 d1 ef1 d2 ef2 d3 ef3 d4 ef4 d5 ef5 d6 ef6 d7 ef7 d8 ef8 d9 ef9 d10 ef10 d11 ef11 d12 ef12 y0 y1 y2 z0 z1 z2 z3 z4 z5 z6 z7
    go_wp2
    go_ret
    exact ⟨rfl, HM7.out, HK7.out⟩)
end Go.Proofs.Ytecmfdkhcffpmab
