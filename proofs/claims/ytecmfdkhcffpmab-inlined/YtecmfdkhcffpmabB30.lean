/- ProgM. -/
import Derived.Test.YtecmfdkhcffpmabB29
/- Contracts of the program's machine: a step, whole. -/
namespace Go.Proofs.Ytecmfdkhcffpmab
open Go.RowKit
set_option linter.unusedSimpArgs false
set_option linter.unusedVariables false
set_option maxHeartbeats 8000000
open Mc

theorem heap_setRow_other (w : World) (g k : Nat) (cs : Array Value) (h : k ≠ g) : (w.setRow g cs).heap[k]? = w.heap[k]? := setRow_other w g k cs h
theorem fl_there {its : List Wd.It} {lg : Nat → Nat} {f : Fr} (h : f.there = true) : fl its lg f = some ⟨lg f.item, 0, none⟩ := by simp [fl, h]
theorem fpV_vals (its : List Wd.It) (lg : Nat → Nat) (f : Fr) (o : Bool) : ∃ v0 v1 v2 v3 v4 v5 v6 v7 v8 v9 v10 v11 v12 : Value, fpV its lg f o = [v0, v1, v2, v3, v4, v5, v6, v7, v8, v9, v10, v11, v12] := ⟨_, _, _, _, _, _, _, _, _, _, _, _, _, rfl⟩
theorem PM.drew {w : World} {b : Nat} {ai : Option Addr} {ci : Nat} {lg : Nat → Nat} {its : List Wd.It} {S : Ma} (h : PM w b ai ci lg its S) : PM w.drew b ai ci lg its S := h.below ((Below.refl _ _).drew)
theorem PM.there {w : World} {b : Nat} {ai : Option Addr} {ci : Nat} {lg : Nat → Nat} {its : List Wd.It} {S : Ma} (h : PM w b ai ci lg its S) (c : Nat) (hc : c < 3) : w.there b (1 + c * 26) 26 := h.root.there _ _ (by omega)
theorem PM.hth {w : World} {b : Nat} {ai : Option Addr} {ci : Nat} {lg : Nat → Nat} {its : List Wd.It} {S : Ma} (h : PM w b ai ci lg its S) (c : Nat) (hc : c < 3) : w.cell? ⟨b, 1 + c * 26 + 13, none⟩ = some (.bool (S.cp c).h.there) := rangeH h c hc 0 _ rfl
theorem psetW_any (w : World) (b : Nat) (ai : Option Addr) (ci : Nat) (lg : Nat → Nat) (its : List Wd.It) (S : Ma) (c : Nat) (f : Fr) (o : Bool) (h : PM w b ai ci lg its S) (hc : c < 3) (hh : (S.cp c).h.there = true → o = f.there) :
    Calls Try.prog 100 #[.pointer (some ⟨b, 1 + c * 26, none⟩), .agg (frmA its lg f o)] w fun e w' => e = .returned (.tuple #[]) ∧ PM w' b ai ci lg its (layP S c f o) ∧ KP b ai w w' := by
  refine (setWorkingL w b (1 + c * 26) (fpV its lg f o) (S.cp c).h.there (h.there c hc) rfl (fpV_one _ _ _ _) (h.hth c hc)).mono ?_
  rintro e w' ⟨rfl, rfl⟩
  exact ⟨rfl, (h.alloc _).lay c hc f o hh, ((KP.refl b ai w).alloc _).sets _ _⟩
set_option maxRecDepth 100000 in
theorem pstep_none (w : World) (b : Nat) (ai : Option Addr) (ci : Nat) (lg : Nat → Nat) (its : List Wd.It) (S : Ma) (c : Nat) (comma : Bool) (h : PM w b ai ci lg its S) (hc : c < 3) (hth : (works S c).there = false) :
    Calls Try.prog 85 #[.pointer (some ⟨b, 0, none⟩), .int .i64 c, .bool comma] w fun e w' => e = .returned (.int .u8 95) ∧ PM w' b ai ci lg its S ∧ KP b ai w w' := by
  have AW := hide (pworking_any w b ai ci lg its S c h hc)
  have HM := hide h
  have HT := hide hth
  clear h hth
  generalize works S c = f at *
  generalize frOff S c = o at *
  go_enter Try.func85, Try.ntmps85
  go_wp2_with (first | (refine wpList_store_row rfl 102 _ _ rfl w1.heap.size (frmA its lg f o) rfl rfl 102 #[.bool false, .int .i64 0, .bool false, .string ⟨#[]⟩, .slice none 0 0, .int .i64 0, .bool false, .bool false, .bool false, .bool false, .bool false, .bool false, .bool false] ?_ (Try.iFrmA _ _ _ _) rfl (frmA_one _ _ _ _) ?_; (exact (Row.new w1 #[.bool false, .int .i64 0, .bool false, .string ⟨#[]⟩, .slice none 0 0, .int .i64 0, .bool false, .bool false, .bool false, .bool false, .bool false, .bool false, .bool false] 102).raw); rw [World.setRow_alloc_new]; have HR2 := hide (Row.new w1 (frmA its lg f o) 102); have HB2 := hide (below_new hb1 (.cells (frmA its lg f o) 102)); generalize w1.alloc (.cells (frmA its lg f o) 102) = w2 at *; have p2 := frm_there HR2.out; rw [HT.out] at p2) | (go_at_call 97; refine (AW.out).mono ?_; rintro e w1 ⟨rfl, hb1⟩))
  go_ret
  exact ⟨rfl, HM.out.below HB2.out, KP.of HB2.out⟩
set_option maxRecDepth 100000 in
theorem pstep_hind (w : World) (b : Nat) (ai : Option Addr) (ci : Nat) (lg : Nat → Nat) (its : List Wd.It) (S : Ma) (c : Nat) (comma : Bool) (h : PM w b ai ci lg its S) (ho : ItsOK its) (hi : Inv its 3 S) (hc : c < 3) (hth : (works S c).there = true) (H : Int) (hH : hindP its S c (works S c) = H) (hne : H ≠ 0) :
    Calls Try.prog 85 #[.pointer (some ⟨b, 0, none⟩), .int .i64 c, .bool comma] w fun e w' => e = .returned (.int .u8 H) ∧ PM w' b ai ci lg its S ∧ KP b ai w w' := by
  have AW := hide (pworking_any w b ai ci lg its S c h hc)
  have hfr := works_fr hi c hc
  have AH := hide (fun W (hW : Below w.heap.size w W) => hindrance_any W b ai ci lg its S c (works S c) (frOff S c) (S.cp c).h.there (h.below hW) ho hi hc hfr)
  rw [hindI_eq ho hi c hfr hth] at AH
  have HM := hide h
  have HT := hide hth
  have hpos : 0 < its.length := by have := hfr.item hth; omega
  have HPB := hide h.pb
  have hci0 : (0 : Int) ≤ (c : Int) := by omega
  have hci3 : (c : Int) < 3 := by omega
  rw [hH] at AH
  have t1 : (H != 0) = true := by simp [hne]
  clear h hth hfr hi ho hH hne
  generalize works S c = f at *
  generalize frOff S c = o at *
  go_enter Try.func85, Try.ntmps85
  go_wp2_with (first | (go_at_call 98; refine (AH.out _ HB2.out).mono ?_; rintro e w3 ⟨rfl, hb3⟩; have HR3 := hide (HR2.out.below hb3); have HB3 := hide (below_go HB2.out hb3); clear hb3) | (refine wpList_load_row rfl 102 _ rfl _ rfl 102 (frmA its lg f o) (0, 0) _ ?_ Try.underlying102 rfl (Try.iFrmA _ _ _ _) ?_; (exact HR2.out.raw)) | (refine wpList_store_row rfl 102 _ _ rfl w1.heap.size (frmA its lg f o) rfl rfl 102 #[.bool false, .int .i64 0, .bool false, .string ⟨#[]⟩, .slice none 0 0, .int .i64 0, .bool false, .bool false, .bool false, .bool false, .bool false, .bool false, .bool false] ?_ (Try.iFrmA _ _ _ _) rfl (frmA_one _ _ _ _) ?_; (exact (Row.new w1 #[.bool false, .int .i64 0, .bool false, .string ⟨#[]⟩, .slice none 0 0, .int .i64 0, .bool false, .bool false, .bool false, .bool false, .bool false, .bool false, .bool false] 102).raw); rw [World.setRow_alloc_new]; have HR2 := hide (Row.new w1 (frmA its lg f o) 102); have HB2 := hide (below_new hb1 (.cells (frmA its lg f o) 102)); have hg : w.heap.size ≤ w1.heap.size := hb1.size; generalize w1.alloc (.cells (frmA its lg f o) 102) = w2 at *; have p2 := frm_there HR2.out; rw [HT.out] at p2; clear hb1) | (go_at_call 97; refine (AW.out).mono ?_; rintro e w1 ⟨rfl, hb1⟩))
  go_ret
  exact ⟨rfl, HM.out.below HB3.out, KP.of HB3.out⟩
set_option maxRecDepth 100000 in
theorem pstep_go (w : World) (b : Nat) (ai : Option Addr) (ci : Nat) (lg : Nat → Nat) (its : List Wd.It) (S : Ma) (c : Nat) (comma : Bool) (h : PM w b ai ci lg its S) (ho : ItsOK its) (hi : Inv its 3 S) (hfi : Fine its) (hs : Ats its 3 S) (hc : c < 3) (hth : (works S c).there = true) (hH : hindP its S c (works S c) = 0) (np nh : Nat) (no : Bool) (L : Int) (hst : stepS (isH its (works S c).item) (bodyOf its (works S c).item) (works S c).pos (works S c).held (frOff S c) comma = ((np, nh, no), L)) (hL : L ≠ 122 ∧ L ≠ 101) (hno : (S.cp c).h.there = true → no = true) :
    Calls Try.prog 85 #[.pointer (some ⟨b, 0, none⟩), .int .i64 c, .bool comma] w fun e w' => e = .returned (.int .u8 L) ∧ PM w' b ai ci lg its (layP S c { works S c with pos := np, held := nh } no) ∧ KP b ai w w' := by
  have AW := hide (pworking_any w b ai ci lg its S c h hc)
  have hfr := works_fr hi c hc
  have AH := hide (fun W (hW : Below w.heap.size w W) => hindrance_any W b ai ci lg its S c (works S c) (frOff S c) (S.cp c).h.there (h.below hW) ho hi hc hfr)
  rw [hindI_eq ho hi c hfr hth] at AH
  have HM := hide h
  have HT := hide hth
  have hpos : 0 < its.length := by have := hfr.item hth; omega
  have HPB := hide h.pb
  have hci0 : (0 : Int) ≤ (c : Int) := by omega
  have hci3 : (c : Int) < 3 := by omega
  rw [hH] at AH
  have hk := sits_stands hfi (hs.works c hc) hth (hfr.item hth)
  have AS : Hid (∀ W, Below w.heap.size w W → Calls Try.prog 90 #[.agg #[.bool ((works S c).there && isH its (works S c).item), .string (Wd.mkS (fb its (works S c))), .slice (fl its lg (works S c)) (fb its (works S c)).length (fb its (works S c)).length], .agg (stA (works S c).pos (works S c).held (frOff S c)), .bool comma] W fun e w' => e = .returned (.tuple #[.agg (stA np nh no), .int .u8 L]) ∧ Below W.heap.size W w') := by
    apply hide
    intro W hW
    have hb := ho.body _ (hfr.item hth)
    have hp := hfr.pos hth
    have := codeStep_any (isH its (works S c).item) (Wd.mkS (bodyOf its (works S c).item)) (lg (works S c).item) (works S c).pos (works S c).held (frOff S c) comma W (by rw [Wd.mkS_size]; exact hb) (by omega) hfr.held (ho.pair _ (hfr.item hth)) hk (by rw [Wd.mkS_size]; exact ((h.leads _ (hfr.item hth)).1.below hW))
    rw [Wd.mkS_size, Wd.mkS_list, hst] at this
    rw [fb_there hth, fl_there hth, hth, Bool.true_and]
    exact this
  have t1 : (L == 122) = false := by simp [hL.1]
  have t2 : (L == 101) = false := by simp [hL.2]
  have ASW := hide (fun W (hW : PM W b ai ci lg its S) => psetW_any W b ai ci lg its S c { works S c with pos := np, held := nh } no hW hc (fun e => by rw [hno e]; exact hth.symm))
  clear h hth hfr hi ho hH hk hfi hs hst hL hno
  generalize works S c = f at *
  generalize frOff S c = o at *
  obtain ⟨ud, hu, hdd⟩ := Try.uCodeR
  have HU := hide hu
  have HD := hide hdd
  clear hu hdd
  obtain ⟨us, hus, hds⟩ := Try.uStateR
  have HUS := hide hus
  have HDS := hide hds
  clear hus hds
  obtain ⟨v0, v1, v2, v3, v4, v5, v6, v7, v8, v9, v10, v11, v12, hV⟩ := fpV_vals its lg { f with pos := np, held := nh } no
  have HV : Hid (frmA its lg { f with pos := np, held := nh } no = #[v0, v1, v2, v3, v4, v5, v6, v7, v8, v9, v10, v11, v12]) := by apply hide; unfold frmA; rw [hV]
  clear hV
  go_enter Try.func85, Try.ntmps85
  go_wp2_with (first | (refine wpList_store_mid rfl 100 _ _ rfl _ _ (stA np nh no) rfl rfl ?_ (Try.iStA _ _ _) (stA_one _ _ _) ?_; (exact HR5.out.there 5 8 (by rw [frmA_size]; omega)); have HR6 := hide (frm_put HR5.out np nh no); have HS6 := hide (HS5.out.setsO (g := w1.heap.size) (by omega) 5 (stA np nh no).toList); have HK6 := hide ((KQ.refl w.heap.size b ai w).bel HB5.out (Nat.le_refl _) |>.oth (g := w1.heap.size) (Below.setCells w1.heap.size (Nat.zero_le _) (stA np nh no).toList 5 _ (Below.refl _ _)) (fun k hk => heap_setCells_other _ _ _ _ k hk) hg); have HM6 := hide (HM.out.keepB HM.out.pb (fun k hk => (heap_setCells_other w1.heap.size (stA np nh no).toList 5 w5 k (by omega)).trans (HB5.out.block k hk))); generalize w5.setCells w1.heap.size 5 (stA np nh no).toList = w6 at *; have z1 := frm_item HR6.out; have z2 := HS6.out.cell 0 (stA_at0 np nh no)) | (refine wpList_load_row rfl 100 _ rfl _ rfl 100 (stA np nh no) (0, 0) _ ?_ Try.underlying100 rfl (Try.iStA _ _ _) ?_; (exact HS5.out.raw)) | (refine wpList_store_row rfl 100 _ _ rfl w4.heap.size (stA np nh no) rfl rfl 100 #[.int .i64 0, .bool false, .bool false, .bool false, .bool false, .bool false, .bool false, .bool false] ?_ (Try.iStA _ _ _) rfl (stA_one _ _ _) ?_; (exact (Row.new w4 #[.int .i64 0, .bool false, .bool false, .bool false, .bool false, .bool false, .bool false, .bool false] 100).raw); rw [World.setRow_alloc_new]; have HS5 := hide (Row.new w4 (stA np nh no) 100); have HB5 := hide (below_new HB4.out (.cells (stA np nh no) 100)); have HR5 := hide (HR4.out.alloc (.cells (stA np nh no) 100)); have hg4 : w1.heap.size < w4.heap.size := HR4.out.lt; generalize w4.alloc (.cells (stA np nh no) 100) = w5 at *; skip) | (refine wpList_load_mid rfl 97 _ rfl _ _ rfl [.bool (f.there && isH its f.item), .string (Wd.mkS (fb its f)), .slice (fl its lg f) (fb its f).length (fb its f).length] ud ?_ HU.out HD.out Try.iCode ?_; (exact frm_code HR3.out)) | (refine wpList_load_mid rfl 100 _ rfl _ _ rfl (stA f.pos f.held o).toList us ?_ HUS.out HDS.out Try.iState ?_; (exact frm_state HR3.out)) | (go_at_call 90; refine (AS.out _ HB3.out).mono ?_; rintro e w4 ⟨rfl, hb4⟩; have HR4 := hide (HR3.out.below hb4); have HB4 := hide (below_go HB3.out hb4); clear hb4) | (go_at_call 98; refine (AH.out _ HB2.out).mono ?_; rintro e w3 ⟨rfl, hb3⟩; have HR3 := hide (HR2.out.below hb3); have HB3 := hide (below_go HB2.out hb3); clear hb3) | (refine wpList_load_row rfl 102 _ rfl _ rfl 102 (frmA its lg f o) (0, 0) _ ?_ Try.underlying102 rfl (Try.iFrmA _ _ _ _) ?_; (exact HR2.out.raw)) | (refine wpList_store_row rfl 102 _ _ rfl w1.heap.size (frmA its lg f o) rfl rfl 102 #[.bool false, .int .i64 0, .bool false, .string ⟨#[]⟩, .slice none 0 0, .int .i64 0, .bool false, .bool false, .bool false, .bool false, .bool false, .bool false, .bool false] ?_ (Try.iFrmA _ _ _ _) rfl (frmA_one _ _ _ _) ?_; (exact (Row.new w1 #[.bool false, .int .i64 0, .bool false, .string ⟨#[]⟩, .slice none 0 0, .int .i64 0, .bool false, .bool false, .bool false, .bool false, .bool false, .bool false, .bool false] 102).raw); rw [World.setRow_alloc_new]; have HR2 := hide (Row.new w1 (frmA its lg f o) 102); have HB2 := hide (below_new hb1 (.cells (frmA its lg f o) 102)); have hg : w.heap.size ≤ w1.heap.size := hb1.size; generalize w1.alloc (.cells (frmA its lg f o) 102) = w2 at *; have p2 := frm_there HR2.out; rw [HT.out] at p2; clear hb1) | (go_at_call 97; refine (AW.out).mono ?_; rintro e w1 ⟨rfl, hb1⟩))
  rw [HV.out] at HR6 ASW
  clear z1 z2
  have HNE : Hid (w1.heap.size ≠ b ∧ ai ≠ some ⟨w1.heap.size, 0, none⟩) := hide ⟨by have := HPB.out.b; omega, fun e => by have := HPB.out.ai hpos _ e; omega⟩
  have y0 : w6.cell? ⟨w1.heap.size, 0, none⟩ = some v0 := HR6.out.cell 0 rfl
  have y1 : w6.cell? ⟨w1.heap.size, 1, none⟩ = some v1 := HR6.out.cell 1 rfl
  have y2 : w6.cell? ⟨w1.heap.size, 2, none⟩ = some v2 := HR6.out.cell 2 rfl
  have y3 : w6.cell? ⟨w1.heap.size, 3, none⟩ = some v3 := HR6.out.cell 3 rfl
  have y4 : w6.cell? ⟨w1.heap.size, 4, none⟩ = some v4 := HR6.out.cell 4 rfl
  have y5 : w6.cell? ⟨w1.heap.size, 5, none⟩ = some v5 := HR6.out.cell 5 rfl
  have y6 : w6.cell? ⟨w1.heap.size, 6, none⟩ = some v6 := HR6.out.cell 6 rfl
  have y7 : w6.cell? ⟨w1.heap.size, 7, none⟩ = some v7 := HR6.out.cell 7 rfl
  have y8 : w6.cell? ⟨w1.heap.size, 8, none⟩ = some v8 := HR6.out.cell 8 rfl
  have y9 : w6.cell? ⟨w1.heap.size, 9, none⟩ = some v9 := HR6.out.cell 9 rfl
  have y10 : w6.cell? ⟨w1.heap.size, 10, none⟩ = some v10 := HR6.out.cell 10 rfl
  have y11 : w6.cell? ⟨w1.heap.size, 11, none⟩ = some v11 := HR6.out.cell 11 rfl
  have y12 : w6.cell? ⟨w1.heap.size, 12, none⟩ = some v12 := HR6.out.cell 12 rfl
  go_region_held3 (fun W' => W'.cell? ⟨w1.heap.size, 0, none⟩ = some v0 ∧ W'.cell? ⟨w1.heap.size, 1, none⟩ = some v1 ∧ W'.cell? ⟨w1.heap.size, 2, none⟩ = some v2 ∧ W'.cell? ⟨w1.heap.size, 3, none⟩ = some v3 ∧ W'.cell? ⟨w1.heap.size, 4, none⟩ = some v4 ∧ W'.cell? ⟨w1.heap.size, 5, none⟩ = some v5 ∧ W'.cell? ⟨w1.heap.size, 6, none⟩ = some v6 ∧ W'.cell? ⟨w1.heap.size, 7, none⟩ = some v7 ∧ W'.cell? ⟨w1.heap.size, 8, none⟩ = some v8 ∧ W'.cell? ⟨w1.heap.size, 9, none⟩ = some v9 ∧ W'.cell? ⟨w1.heap.size, 10, none⟩ = some v10 ∧ W'.cell? ⟨w1.heap.size, 11, none⟩ = some v11 ∧ W'.cell? ⟨w1.heap.size, 12, none⟩ = some v12) (go_keep) (first | (go_at_call 100; refine (ASW.out _ HM6.out.drew).mono ?_; rintro e w7 ⟨rfl, hm7, hk7⟩; have HR7 := hide ((HR6.out.below ((Below.refl _ _).drew)).same (hk7.same _ (HR6.out.below ((Below.refl _ _).drew)).lt HNE.out.1 HNE.out.2)); have x0 : w7.cell? ⟨w1.heap.size, 0, none⟩ = some v0 := HR7.out.cell 0 rfl; have x1 : w7.cell? ⟨w1.heap.size, 1, none⟩ = some v1 := HR7.out.cell 1 rfl; have x2 : w7.cell? ⟨w1.heap.size, 2, none⟩ = some v2 := HR7.out.cell 2 rfl; have x3 : w7.cell? ⟨w1.heap.size, 3, none⟩ = some v3 := HR7.out.cell 3 rfl; have x4 : w7.cell? ⟨w1.heap.size, 4, none⟩ = some v4 := HR7.out.cell 4 rfl; have x5 : w7.cell? ⟨w1.heap.size, 5, none⟩ = some v5 := HR7.out.cell 5 rfl; have x6 : w7.cell? ⟨w1.heap.size, 6, none⟩ = some v6 := HR7.out.cell 6 rfl; have x7 : w7.cell? ⟨w1.heap.size, 7, none⟩ = some v7 := HR7.out.cell 7 rfl; have x8 : w7.cell? ⟨w1.heap.size, 8, none⟩ = some v8 := HR7.out.cell 8 rfl; have x9 : w7.cell? ⟨w1.heap.size, 9, none⟩ = some v9 := HR7.out.cell 9 rfl; have x10 : w7.cell? ⟨w1.heap.size, 10, none⟩ = some v10 := HR7.out.cell 10 rfl; have x11 : w7.cell? ⟨w1.heap.size, 11, none⟩ = some v11 := HR7.out.cell 11 rfl; have x12 : w7.cell? ⟨w1.heap.size, 12, none⟩ = some v12 := HR7.out.cell 12 rfl))
  clear y0 x0 y1 x1 y2 x2 y3 x3 y4 x4 y5 x5 y6 x6 y7 x7 y8 x8 y9 x9 y10 x10 y11 x11 y12 x12
  have HK7 := hide (((HK6.out.bel ((Below.refl _ _).drew) HK6.out.size).kp hk7 (by have := HK6.out.size; simpa using this)).toKP)
  have HM7 := hide hm7
  clear hm7 hk7
  go_wp2
  go_ret
  exact ⟨rfl, HM7.out, HK7.out⟩
set_option maxRecDepth 100000 in
theorem pstep_end (w : World) (b : Nat) (ai : Option Addr) (ci : Nat) (lg : Nat → Nat) (its : List Wd.It) (S : Ma) (c : Nat) (comma : Bool) (h : PM w b ai ci lg its S) (ho : ItsOK its) (hi : Inv its 3 S) (hfi : Fine its) (hs : Ats its 3 S) (hc : c < 3) (hth : (works S c).there = true) (hH : hindP its S c (works S c) = 0) (np nh : Nat) (no : Bool) (hst : stepS (isH its (works S c).item) (bodyOf its (works S c).item) (works S c).pos (works S c).held (frOff S c) comma = ((np, nh, no), 101)) :
    Calls Try.prog 85 #[.pointer (some ⟨b, 0, none⟩), .int .i64 c, .bool comma] w fun e w' => e = .returned (.int .u8 101) ∧ PM w' b ai ci lg its (layP S c noFr false) ∧ KP b ai w w' := by
  have AW := hide (pworking_any w b ai ci lg its S c h hc)
  have hfr := works_fr hi c hc
  have AH := hide (fun W (hW : Below w.heap.size w W) => hindrance_any W b ai ci lg its S c (works S c) (frOff S c) (S.cp c).h.there (h.below hW) ho hi hc hfr)
  rw [hindI_eq ho hi c hfr hth] at AH
  have HM := hide h
  have HT := hide hth
  have hpos : 0 < its.length := by have := hfr.item hth; omega
  have HPB := hide h.pb
  have hci0 : (0 : Int) ≤ (c : Int) := by omega
  have hci3 : (c : Int) < 3 := by omega
  rw [hH] at AH
  have hk := sits_stands hfi (hs.works c hc) hth (hfr.item hth)
  have AS : Hid (∀ W, Below w.heap.size w W → Calls Try.prog 90 #[.agg #[.bool ((works S c).there && isH its (works S c).item), .string (Wd.mkS (fb its (works S c))), .slice (fl its lg (works S c)) (fb its (works S c)).length (fb its (works S c)).length], .agg (stA (works S c).pos (works S c).held (frOff S c)), .bool comma] W fun e w' => e = .returned (.tuple #[.agg (stA np nh no), .int .u8 101]) ∧ Below W.heap.size W w') := by
    apply hide
    intro W hW
    have hb := ho.body _ (hfr.item hth)
    have hp := hfr.pos hth
    have := codeStep_any (isH its (works S c).item) (Wd.mkS (bodyOf its (works S c).item)) (lg (works S c).item) (works S c).pos (works S c).held (frOff S c) comma W (by rw [Wd.mkS_size]; exact hb) (by omega) hfr.held (ho.pair _ (hfr.item hth)) hk (by rw [Wd.mkS_size]; exact ((h.leads _ (hfr.item hth)).1.below hW))
    rw [Wd.mkS_size, Wd.mkS_list, hst] at this
    rw [fb_there hth, fl_there hth, hth, Bool.true_and]
    exact this
  have ASW := hide (fun W (hW : PM W b ai ci lg its S) => psetW_any W b ai ci lg its S c noFr false hW hc (fun _ => rfl))
  rw [frm_no] at ASW
  clear h hth hfr hi ho hH hk hfi hs hst
  generalize works S c = f at *
  generalize frOff S c = o at *
  obtain ⟨ud, hu, hdd⟩ := Try.uCodeR
  have HU := hide hu
  have HD := hide hdd
  clear hu hdd
  obtain ⟨us, hus, hds⟩ := Try.uStateR
  have HUS := hide hus
  have HDS := hide hds
  clear hus hds
  go_enter Try.func85, Try.ntmps85
  go_wp2_with (first | (refine wpList_store_row rfl 102 _ _ rfl w1.heap.size #[.bool false, .int .i64 0, .bool false, .string ⟨#[]⟩, .slice none 0 0, .int .i64 0, .bool false, .bool false, .bool false, .bool false, .bool false, .bool false, .bool false] rfl rfl 102 (frmA its lg { f with pos := np, held := nh } no) ?_ Try.iFrameP rfl (by simp [Value.oneCell']) ?_; (exact HR6.out.raw); have HR8 := hide (HR6.out.setRow #[.bool false, .int .i64 0, .bool false, .string ⟨#[]⟩, .slice none 0 0, .int .i64 0, .bool false, .bool false, .bool false, .bool false, .bool false, .bool false, .bool false]); have HM8 := hide (HM6.out.keepB HPB.out (fun k hk => heap_setRow_other w6 w1.heap.size k #[.bool false, .int .i64 0, .bool false, .string ⟨#[]⟩, .slice none 0 0, .int .i64 0, .bool false, .bool false, .bool false, .bool false, .bool false, .bool false, .bool false] (by omega))); have HK8 := hide (HK6.out.oth (g := w1.heap.size) (below_setRow (Below.refl 0 _) (Nat.zero_le _) #[.bool false, .int .i64 0, .bool false, .string ⟨#[]⟩, .slice none 0 0, .int .i64 0, .bool false, .bool false, .bool false, .bool false, .bool false, .bool false, .bool false]) (fun k hk => heap_setRow_other w6 w1.heap.size k #[.bool false, .int .i64 0, .bool false, .string ⟨#[]⟩, .slice none 0 0, .int .i64 0, .bool false, .bool false, .bool false, .bool false, .bool false, .bool false, .bool false] hk) hg); generalize w6.setRow w1.heap.size #[.bool false, .int .i64 0, .bool false, .string ⟨#[]⟩, .slice none 0 0, .int .i64 0, .bool false, .bool false, .bool false, .bool false, .bool false, .bool false, .bool false] = w8 at *) | (refine wpList_store_mid rfl 100 _ _ rfl _ _ (stA np nh no) rfl rfl ?_ (Try.iStA _ _ _) (stA_one _ _ _) ?_; (exact HR5.out.there 5 8 (by rw [frmA_size]; omega)); have HR6 := hide (frm_put HR5.out np nh no); have HS6 := hide (HS5.out.setsO (g := w1.heap.size) (by omega) 5 (stA np nh no).toList); have HK6 := hide ((KQ.refl w.heap.size b ai w).bel HB5.out (Nat.le_refl _) |>.oth (g := w1.heap.size) (Below.setCells w1.heap.size (Nat.zero_le _) (stA np nh no).toList 5 _ (Below.refl _ _)) (fun k hk => heap_setCells_other _ _ _ _ k hk) hg); have HM6 := hide (HM.out.keepB HM.out.pb (fun k hk => (heap_setCells_other w1.heap.size (stA np nh no).toList 5 w5 k (by omega)).trans (HB5.out.block k hk))); generalize w5.setCells w1.heap.size 5 (stA np nh no).toList = w6 at *; have z1 := frm_item HR6.out; have z2 := HS6.out.cell 0 (stA_at0 np nh no)) | (refine wpList_load_row rfl 100 _ rfl _ rfl 100 (stA np nh no) (0, 0) _ ?_ Try.underlying100 rfl (Try.iStA _ _ _) ?_; (exact HS5.out.raw)) | (refine wpList_store_row rfl 100 _ _ rfl w4.heap.size (stA np nh no) rfl rfl 100 #[.int .i64 0, .bool false, .bool false, .bool false, .bool false, .bool false, .bool false, .bool false] ?_ (Try.iStA _ _ _) rfl (stA_one _ _ _) ?_; (exact (Row.new w4 #[.int .i64 0, .bool false, .bool false, .bool false, .bool false, .bool false, .bool false, .bool false] 100).raw); rw [World.setRow_alloc_new]; have HS5 := hide (Row.new w4 (stA np nh no) 100); have HB5 := hide (below_new HB4.out (.cells (stA np nh no) 100)); have HR5 := hide (HR4.out.alloc (.cells (stA np nh no) 100)); have hg4 : w1.heap.size < w4.heap.size := HR4.out.lt; generalize w4.alloc (.cells (stA np nh no) 100) = w5 at *; skip) | (refine wpList_load_mid rfl 97 _ rfl _ _ rfl [.bool (f.there && isH its f.item), .string (Wd.mkS (fb its f)), .slice (fl its lg f) (fb its f).length (fb its f).length] ud ?_ HU.out HD.out Try.iCode ?_; (exact frm_code HR3.out)) | (refine wpList_load_mid rfl 100 _ rfl _ _ rfl (stA f.pos f.held o).toList us ?_ HUS.out HDS.out Try.iState ?_; (exact frm_state HR3.out)) | (go_at_call 90; refine (AS.out _ HB3.out).mono ?_; rintro e w4 ⟨rfl, hb4⟩; have HR4 := hide (HR3.out.below hb4); have HB4 := hide (below_go HB3.out hb4); clear hb4) | (go_at_call 98; refine (AH.out _ HB2.out).mono ?_; rintro e w3 ⟨rfl, hb3⟩; have HR3 := hide (HR2.out.below hb3); have HB3 := hide (below_go HB2.out hb3); clear hb3) | (refine wpList_load_row rfl 102 _ rfl _ rfl 102 (frmA its lg f o) (0, 0) _ ?_ Try.underlying102 rfl (Try.iFrmA _ _ _ _) ?_; (exact HR2.out.raw)) | (refine wpList_store_row rfl 102 _ _ rfl w1.heap.size (frmA its lg f o) rfl rfl 102 #[.bool false, .int .i64 0, .bool false, .string ⟨#[]⟩, .slice none 0 0, .int .i64 0, .bool false, .bool false, .bool false, .bool false, .bool false, .bool false, .bool false] ?_ (Try.iFrmA _ _ _ _) rfl (frmA_one _ _ _ _) ?_; (exact (Row.new w1 #[.bool false, .int .i64 0, .bool false, .string ⟨#[]⟩, .slice none 0 0, .int .i64 0, .bool false, .bool false, .bool false, .bool false, .bool false, .bool false, .bool false] 102).raw); rw [World.setRow_alloc_new]; have HR2 := hide (Row.new w1 (frmA its lg f o) 102); have HB2 := hide (below_new hb1 (.cells (frmA its lg f o) 102)); have hg : w.heap.size ≤ w1.heap.size := hb1.size; generalize w1.alloc (.cells (frmA its lg f o) 102) = w2 at *; have p2 := frm_there HR2.out; rw [HT.out] at p2; clear hb1) | (go_at_call 97; refine (AW.out).mono ?_; rintro e w1 ⟨rfl, hb1⟩))
  have HNE : Hid (w1.heap.size ≠ b ∧ ai ≠ some ⟨w1.heap.size, 0, none⟩) := hide ⟨by have := HPB.out.b; omega, fun e => by have := HPB.out.ai hpos _ e; omega⟩
  have y0 : w8.cell? ⟨w1.heap.size, 0, none⟩ = some (.bool false) := HR8.out.cell 0 rfl
  have y1 : w8.cell? ⟨w1.heap.size, 1, none⟩ = some (.int .i64 0) := HR8.out.cell 1 rfl
  have y2 : w8.cell? ⟨w1.heap.size, 2, none⟩ = some (.bool false) := HR8.out.cell 2 rfl
  have y3 : w8.cell? ⟨w1.heap.size, 3, none⟩ = some (.string ⟨#[]⟩) := HR8.out.cell 3 rfl
  have y4 : w8.cell? ⟨w1.heap.size, 4, none⟩ = some (.slice none 0 0) := HR8.out.cell 4 rfl
  have y5 : w8.cell? ⟨w1.heap.size, 5, none⟩ = some (.int .i64 0) := HR8.out.cell 5 rfl
  have y6 : w8.cell? ⟨w1.heap.size, 6, none⟩ = some (.bool false) := HR8.out.cell 6 rfl
  have y7 : w8.cell? ⟨w1.heap.size, 7, none⟩ = some (.bool false) := HR8.out.cell 7 rfl
  have y8 : w8.cell? ⟨w1.heap.size, 8, none⟩ = some (.bool false) := HR8.out.cell 8 rfl
  have y9 : w8.cell? ⟨w1.heap.size, 9, none⟩ = some (.bool false) := HR8.out.cell 9 rfl
  have y10 : w8.cell? ⟨w1.heap.size, 10, none⟩ = some (.bool false) := HR8.out.cell 10 rfl
  have y11 : w8.cell? ⟨w1.heap.size, 11, none⟩ = some (.bool false) := HR8.out.cell 11 rfl
  have y12 : w8.cell? ⟨w1.heap.size, 12, none⟩ = some (.bool false) := HR8.out.cell 12 rfl
  go_region_held3 (fun W' => W'.cell? ⟨w1.heap.size, 0, none⟩ = some (.bool false) ∧ W'.cell? ⟨w1.heap.size, 1, none⟩ = some (.int .i64 0) ∧ W'.cell? ⟨w1.heap.size, 2, none⟩ = some (.bool false) ∧ W'.cell? ⟨w1.heap.size, 3, none⟩ = some (.string ⟨#[]⟩) ∧ W'.cell? ⟨w1.heap.size, 4, none⟩ = some (.slice none 0 0) ∧ W'.cell? ⟨w1.heap.size, 5, none⟩ = some (.int .i64 0) ∧ W'.cell? ⟨w1.heap.size, 6, none⟩ = some (.bool false) ∧ W'.cell? ⟨w1.heap.size, 7, none⟩ = some (.bool false) ∧ W'.cell? ⟨w1.heap.size, 8, none⟩ = some (.bool false) ∧ W'.cell? ⟨w1.heap.size, 9, none⟩ = some (.bool false) ∧ W'.cell? ⟨w1.heap.size, 10, none⟩ = some (.bool false) ∧ W'.cell? ⟨w1.heap.size, 11, none⟩ = some (.bool false) ∧ W'.cell? ⟨w1.heap.size, 12, none⟩ = some (.bool false)) (go_keep) (first | (go_at_call 100; refine (ASW.out _ HM8.out.drew).mono ?_; rintro e w9 ⟨rfl, hm7, hk7⟩; have HR9 := hide ((HR8.out.below ((Below.refl _ _).drew)).same (hk7.same _ (HR8.out.below ((Below.refl _ _).drew)).lt HNE.out.1 HNE.out.2)); have x0 : w9.cell? ⟨w1.heap.size, 0, none⟩ = some (.bool false) := HR9.out.cell 0 rfl; have x1 : w9.cell? ⟨w1.heap.size, 1, none⟩ = some (.int .i64 0) := HR9.out.cell 1 rfl; have x2 : w9.cell? ⟨w1.heap.size, 2, none⟩ = some (.bool false) := HR9.out.cell 2 rfl; have x3 : w9.cell? ⟨w1.heap.size, 3, none⟩ = some (.string ⟨#[]⟩) := HR9.out.cell 3 rfl; have x4 : w9.cell? ⟨w1.heap.size, 4, none⟩ = some (.slice none 0 0) := HR9.out.cell 4 rfl; have x5 : w9.cell? ⟨w1.heap.size, 5, none⟩ = some (.int .i64 0) := HR9.out.cell 5 rfl; have x6 : w9.cell? ⟨w1.heap.size, 6, none⟩ = some (.bool false) := HR9.out.cell 6 rfl; have x7 : w9.cell? ⟨w1.heap.size, 7, none⟩ = some (.bool false) := HR9.out.cell 7 rfl; have x8 : w9.cell? ⟨w1.heap.size, 8, none⟩ = some (.bool false) := HR9.out.cell 8 rfl; have x9 : w9.cell? ⟨w1.heap.size, 9, none⟩ = some (.bool false) := HR9.out.cell 9 rfl; have x10 : w9.cell? ⟨w1.heap.size, 10, none⟩ = some (.bool false) := HR9.out.cell 10 rfl; have x11 : w9.cell? ⟨w1.heap.size, 11, none⟩ = some (.bool false) := HR9.out.cell 11 rfl; have x12 : w9.cell? ⟨w1.heap.size, 12, none⟩ = some (.bool false) := HR9.out.cell 12 rfl))
  clear y0 x0 y1 x1 y2 x2 y3 x3 y4 x4 y5 x5 y6 x6 y7 x7 y8 x8 y9 x9 y10 x10 y11 x11 y12 x12
  have HK9 := hide (((HK8.out.bel ((Below.refl _ _).drew) HK8.out.size).kp hk7 (by have := HK8.out.size; simpa using this)).toKP)
  have HM9 := hide hm7
  clear hm7 hk7
  go_wp2
  go_ret
  exact ⟨rfl, HM9.out, HK9.out⟩
set_option maxRecDepth 100000 in
theorem pstep_z (w : World) (b : Nat) (ai : Option Addr) (ci : Nat) (lg : Nat → Nat) (its : List Wd.It) (S : Ma) (c : Nat) (comma : Bool) (h : PM w b ai ci lg its S) (ho : ItsOK its) (hi : Inv its 3 S) (hfi : Fine its) (hs : Ats its 3 S) (hc : c < 3) (hth : (works S c).there = true) (hH : hindP its S c (works S c) = 0) (np nh : Nat) (no : Bool) (hst : stepS (isH its (works S c).item) (bodyOf its (works S c).item) (works S c).pos (works S c).held (frOff S c) comma = ((np, nh, no), 122)) (hnp : np ≤ 20000) :
    Calls Try.prog 85 #[.pointer (some ⟨b, 0, none⟩), .int .i64 c, .bool comma] w fun e w' => e = .returned (.int .u8 122) ∧ PM w' b ai ci lg its (layP (setPl (setRd S (works S c).item true) (works S c).item np) c noFr false) ∧ KP b ai w w' := by
  have AW := hide (pworking_any w b ai ci lg its S c h hc)
  have hfr := works_fr hi c hc
  have AH := hide (fun W (hW : Below w.heap.size w W) => hindrance_any W b ai ci lg its S c (works S c) (frOff S c) (S.cp c).h.there (h.below hW) ho hi hc hfr)
  rw [hindI_eq ho hi c hfr hth] at AH
  have HM := hide h
  have HT := hide hth
  have hpos : 0 < its.length := by have := hfr.item hth; omega
  have HPB := hide h.pb
  have hci0 : (0 : Int) ≤ (c : Int) := by omega
  have hci3 : (c : Int) < 3 := by omega
  rw [hH] at AH
  have hk := sits_stands hfi (hs.works c hc) hth (hfr.item hth)
  have AS : Hid (∀ W, Below w.heap.size w W → Calls Try.prog 90 #[.agg #[.bool ((works S c).there && isH its (works S c).item), .string (Wd.mkS (fb its (works S c))), .slice (fl its lg (works S c)) (fb its (works S c)).length (fb its (works S c)).length], .agg (stA (works S c).pos (works S c).held (frOff S c)), .bool comma] W fun e w' => e = .returned (.tuple #[.agg (stA np nh no), .int .u8 122]) ∧ Below W.heap.size W w') := by
    apply hide
    intro W hW
    have hb := ho.body _ (hfr.item hth)
    have hp := hfr.pos hth
    have := codeStep_any (isH its (works S c).item) (Wd.mkS (bodyOf its (works S c).item)) (lg (works S c).item) (works S c).pos (works S c).held (frOff S c) comma W (by rw [Wd.mkS_size]; exact hb) (by omega) hfr.held (ho.pair _ (hfr.item hth)) hk (by rw [Wd.mkS_size]; exact ((h.leads _ (hfr.item hth)).1.below hW))
    rw [Wd.mkS_size, Wd.mkS_list, hst] at this
    rw [fb_there hth, fl_there hth, hth, Bool.true_and]
    exact this
  have AM := hide (fun W (hW : PM W b ai ci lg its S) => makeReady_any W b ai ci lg its S (works S c).item np hW (hfr.item hth) hnp)
  have ASW := hide (fun W (hW : PM W b ai ci lg its (setPl (setRd S (works S c).item true) (works S c).item np)) => psetW_any W b ai ci lg its _ c noFr false hW hc (fun _ => rfl))
  rw [frm_no] at ASW
  clear h hth hfr hi ho hH hk hfi hs hst
  generalize works S c = f at *
  generalize frOff S c = o at *
  obtain ⟨ud, hu, hdd⟩ := Try.uCodeR
  have HU := hide hu
  have HD := hide hdd
  clear hu hdd
  obtain ⟨us, hus, hds⟩ := Try.uStateR
  have HUS := hide hus
  have HDS := hide hds
  clear hus hds
  go_enter Try.func85, Try.ntmps85
  go_wp2_with (first | (refine wpList_store_row rfl 102 _ _ rfl w1.heap.size #[.bool false, .int .i64 0, .bool false, .string ⟨#[]⟩, .slice none 0 0, .int .i64 0, .bool false, .bool false, .bool false, .bool false, .bool false, .bool false, .bool false] rfl rfl 102 (frmA its lg { f with pos := np, held := nh } no) ?_ Try.iFrameP rfl (by simp [Value.oneCell']) ?_; (exact HR7.out.raw); have HR8 := hide (HR7.out.setRow #[.bool false, .int .i64 0, .bool false, .string ⟨#[]⟩, .slice none 0 0, .int .i64 0, .bool false, .bool false, .bool false, .bool false, .bool false, .bool false, .bool false]); have HM8 := hide (HM7.out.keepB HPB.out (fun k hk => heap_setRow_other w7 w1.heap.size k #[.bool false, .int .i64 0, .bool false, .string ⟨#[]⟩, .slice none 0 0, .int .i64 0, .bool false, .bool false, .bool false, .bool false, .bool false, .bool false, .bool false] (by omega))); have HK8 := hide (HK7.out.oth (g := w1.heap.size) (below_setRow (Below.refl 0 _) (Nat.zero_le _) #[.bool false, .int .i64 0, .bool false, .string ⟨#[]⟩, .slice none 0 0, .int .i64 0, .bool false, .bool false, .bool false, .bool false, .bool false, .bool false, .bool false]) (fun k hk => heap_setRow_other w7 w1.heap.size k #[.bool false, .int .i64 0, .bool false, .string ⟨#[]⟩, .slice none 0 0, .int .i64 0, .bool false, .bool false, .bool false, .bool false, .bool false, .bool false, .bool false] hk) hg); generalize w7.setRow w1.heap.size #[.bool false, .int .i64 0, .bool false, .string ⟨#[]⟩, .slice none 0 0, .int .i64 0, .bool false, .bool false, .bool false, .bool false, .bool false, .bool false, .bool false] = w8 at *) | (go_at_call 99; refine (AM.out _ HM6.out).mono ?_; rintro e w7 ⟨rfl, hm7, hk7⟩; have HR7 := hide (HR6.out.same (hk7.same _ HR6.out.lt HNE.out.1 HNE.out.2)); have HM7 := hide hm7; have HK7 := hide (HK6.out.kp hk7 HK6.out.size); clear hm7 hk7) | (refine wpList_store_mid rfl 100 _ _ rfl _ _ (stA np nh no) rfl rfl ?_ (Try.iStA _ _ _) (stA_one _ _ _) ?_; (exact HR5.out.there 5 8 (by rw [frmA_size]; omega)); have HR6 := hide (frm_put HR5.out np nh no); have HS6 := hide (HS5.out.setsO (g := w1.heap.size) (by omega) 5 (stA np nh no).toList); have HK6 := hide ((KQ.refl w.heap.size b ai w).bel HB5.out (Nat.le_refl _) |>.oth (g := w1.heap.size) (Below.setCells w1.heap.size (Nat.zero_le _) (stA np nh no).toList 5 _ (Below.refl _ _)) (fun k hk => heap_setCells_other _ _ _ _ k hk) hg); have HM6 := hide (HM.out.keepB HM.out.pb (fun k hk => (heap_setCells_other w1.heap.size (stA np nh no).toList 5 w5 k (by omega)).trans (HB5.out.block k hk))); generalize w5.setCells w1.heap.size 5 (stA np nh no).toList = w6 at *; have z1 := frm_item HR6.out; have z2 := HS6.out.cell 0 (stA_at0 np nh no)) | (refine wpList_load_row rfl 100 _ rfl _ rfl 100 (stA np nh no) (0, 0) _ ?_ Try.underlying100 rfl (Try.iStA _ _ _) ?_; (exact HS5.out.raw)) | (refine wpList_store_row rfl 100 _ _ rfl w4.heap.size (stA np nh no) rfl rfl 100 #[.int .i64 0, .bool false, .bool false, .bool false, .bool false, .bool false, .bool false, .bool false] ?_ (Try.iStA _ _ _) rfl (stA_one _ _ _) ?_; (exact (Row.new w4 #[.int .i64 0, .bool false, .bool false, .bool false, .bool false, .bool false, .bool false, .bool false] 100).raw); rw [World.setRow_alloc_new]; have HS5 := hide (Row.new w4 (stA np nh no) 100); have HB5 := hide (below_new HB4.out (.cells (stA np nh no) 100)); have HR5 := hide (HR4.out.alloc (.cells (stA np nh no) 100)); have hg4 : w1.heap.size < w4.heap.size := HR4.out.lt; generalize w4.alloc (.cells (stA np nh no) 100) = w5 at *; skip) | (refine wpList_load_mid rfl 97 _ rfl _ _ rfl [.bool (f.there && isH its f.item), .string (Wd.mkS (fb its f)), .slice (fl its lg f) (fb its f).length (fb its f).length] ud ?_ HU.out HD.out Try.iCode ?_; (exact frm_code HR3.out)) | (refine wpList_load_mid rfl 100 _ rfl _ _ rfl (stA f.pos f.held o).toList us ?_ HUS.out HDS.out Try.iState ?_; (exact frm_state HR3.out)) | (go_at_call 90; refine (AS.out _ HB3.out).mono ?_; rintro e w4 ⟨rfl, hb4⟩; have HR4 := hide (HR3.out.below hb4); have HB4 := hide (below_go HB3.out hb4); clear hb4) | (go_at_call 98; refine (AH.out _ HB2.out).mono ?_; rintro e w3 ⟨rfl, hb3⟩; have HR3 := hide (HR2.out.below hb3); have HB3 := hide (below_go HB2.out hb3); clear hb3) | (refine wpList_load_row rfl 102 _ rfl _ rfl 102 (frmA its lg f o) (0, 0) _ ?_ Try.underlying102 rfl (Try.iFrmA _ _ _ _) ?_; (exact HR2.out.raw)) | (refine wpList_store_row rfl 102 _ _ rfl w1.heap.size (frmA its lg f o) rfl rfl 102 #[.bool false, .int .i64 0, .bool false, .string ⟨#[]⟩, .slice none 0 0, .int .i64 0, .bool false, .bool false, .bool false, .bool false, .bool false, .bool false, .bool false] ?_ (Try.iFrmA _ _ _ _) rfl (frmA_one _ _ _ _) ?_; (exact (Row.new w1 #[.bool false, .int .i64 0, .bool false, .string ⟨#[]⟩, .slice none 0 0, .int .i64 0, .bool false, .bool false, .bool false, .bool false, .bool false, .bool false, .bool false] 102).raw); rw [World.setRow_alloc_new]; have HR2 := hide (Row.new w1 (frmA its lg f o) 102); have HB2 := hide (below_new hb1 (.cells (frmA its lg f o) 102)); have hg : w.heap.size ≤ w1.heap.size := hb1.size; generalize w1.alloc (.cells (frmA its lg f o) 102) = w2 at *; have p2 := frm_there HR2.out; rw [HT.out] at p2; clear hb1; have HNE : Hid (w1.heap.size ≠ b ∧ ai ≠ some ⟨w1.heap.size, 0, none⟩) := hide ⟨by have := HPB.out.b; omega, fun e => by have := HPB.out.ai hpos _ e; omega⟩) | (go_at_call 97; refine (AW.out).mono ?_; rintro e w1 ⟨rfl, hb1⟩))
  have HNE : Hid (w1.heap.size ≠ b ∧ ai ≠ some ⟨w1.heap.size, 0, none⟩) := hide ⟨by have := HPB.out.b; omega, fun e => by have := HPB.out.ai hpos _ e; omega⟩
  have y0 : w8.cell? ⟨w1.heap.size, 0, none⟩ = some (.bool false) := HR8.out.cell 0 rfl
  have y1 : w8.cell? ⟨w1.heap.size, 1, none⟩ = some (.int .i64 0) := HR8.out.cell 1 rfl
  have y2 : w8.cell? ⟨w1.heap.size, 2, none⟩ = some (.bool false) := HR8.out.cell 2 rfl
  have y3 : w8.cell? ⟨w1.heap.size, 3, none⟩ = some (.string ⟨#[]⟩) := HR8.out.cell 3 rfl
  have y4 : w8.cell? ⟨w1.heap.size, 4, none⟩ = some (.slice none 0 0) := HR8.out.cell 4 rfl
  have y5 : w8.cell? ⟨w1.heap.size, 5, none⟩ = some (.int .i64 0) := HR8.out.cell 5 rfl
  have y6 : w8.cell? ⟨w1.heap.size, 6, none⟩ = some (.bool false) := HR8.out.cell 6 rfl
  have y7 : w8.cell? ⟨w1.heap.size, 7, none⟩ = some (.bool false) := HR8.out.cell 7 rfl
  have y8 : w8.cell? ⟨w1.heap.size, 8, none⟩ = some (.bool false) := HR8.out.cell 8 rfl
  have y9 : w8.cell? ⟨w1.heap.size, 9, none⟩ = some (.bool false) := HR8.out.cell 9 rfl
  have y10 : w8.cell? ⟨w1.heap.size, 10, none⟩ = some (.bool false) := HR8.out.cell 10 rfl
  have y11 : w8.cell? ⟨w1.heap.size, 11, none⟩ = some (.bool false) := HR8.out.cell 11 rfl
  have y12 : w8.cell? ⟨w1.heap.size, 12, none⟩ = some (.bool false) := HR8.out.cell 12 rfl
  go_region_held3 (fun W' => W'.cell? ⟨w1.heap.size, 0, none⟩ = some (.bool false) ∧ W'.cell? ⟨w1.heap.size, 1, none⟩ = some (.int .i64 0) ∧ W'.cell? ⟨w1.heap.size, 2, none⟩ = some (.bool false) ∧ W'.cell? ⟨w1.heap.size, 3, none⟩ = some (.string ⟨#[]⟩) ∧ W'.cell? ⟨w1.heap.size, 4, none⟩ = some (.slice none 0 0) ∧ W'.cell? ⟨w1.heap.size, 5, none⟩ = some (.int .i64 0) ∧ W'.cell? ⟨w1.heap.size, 6, none⟩ = some (.bool false) ∧ W'.cell? ⟨w1.heap.size, 7, none⟩ = some (.bool false) ∧ W'.cell? ⟨w1.heap.size, 8, none⟩ = some (.bool false) ∧ W'.cell? ⟨w1.heap.size, 9, none⟩ = some (.bool false) ∧ W'.cell? ⟨w1.heap.size, 10, none⟩ = some (.bool false) ∧ W'.cell? ⟨w1.heap.size, 11, none⟩ = some (.bool false) ∧ W'.cell? ⟨w1.heap.size, 12, none⟩ = some (.bool false)) (go_keep) (first | (go_at_call 100; refine (ASW.out _ HM8.out.drew).mono ?_; rintro e w9 ⟨rfl, hm7, hk7⟩; have HR9 := hide ((HR8.out.below ((Below.refl _ _).drew)).same (hk7.same _ (HR8.out.below ((Below.refl _ _).drew)).lt HNE.out.1 HNE.out.2)); have x0 : w9.cell? ⟨w1.heap.size, 0, none⟩ = some (.bool false) := HR9.out.cell 0 rfl; have x1 : w9.cell? ⟨w1.heap.size, 1, none⟩ = some (.int .i64 0) := HR9.out.cell 1 rfl; have x2 : w9.cell? ⟨w1.heap.size, 2, none⟩ = some (.bool false) := HR9.out.cell 2 rfl; have x3 : w9.cell? ⟨w1.heap.size, 3, none⟩ = some (.string ⟨#[]⟩) := HR9.out.cell 3 rfl; have x4 : w9.cell? ⟨w1.heap.size, 4, none⟩ = some (.slice none 0 0) := HR9.out.cell 4 rfl; have x5 : w9.cell? ⟨w1.heap.size, 5, none⟩ = some (.int .i64 0) := HR9.out.cell 5 rfl; have x6 : w9.cell? ⟨w1.heap.size, 6, none⟩ = some (.bool false) := HR9.out.cell 6 rfl; have x7 : w9.cell? ⟨w1.heap.size, 7, none⟩ = some (.bool false) := HR9.out.cell 7 rfl; have x8 : w9.cell? ⟨w1.heap.size, 8, none⟩ = some (.bool false) := HR9.out.cell 8 rfl; have x9 : w9.cell? ⟨w1.heap.size, 9, none⟩ = some (.bool false) := HR9.out.cell 9 rfl; have x10 : w9.cell? ⟨w1.heap.size, 10, none⟩ = some (.bool false) := HR9.out.cell 10 rfl; have x11 : w9.cell? ⟨w1.heap.size, 11, none⟩ = some (.bool false) := HR9.out.cell 11 rfl; have x12 : w9.cell? ⟨w1.heap.size, 12, none⟩ = some (.bool false) := HR9.out.cell 12 rfl))
  clear y0 x0 y1 x1 y2 x2 y3 x3 y4 x4 y5 x5 y6 x6 y7 x7 y8 x8 y9 x9 y10 x10 y11 x11 y12 x12
  have HK9 := hide (((HK8.out.bel ((Below.refl _ _).drew) HK8.out.size).kp hk7 (by have := HK8.out.size; simpa using this)).toKP)
  have HM9 := hide hm7
  clear hm7 hk7
  go_wp2
  go_ret
  exact ⟨rfl, HM9.out, HK9.out⟩
end Go.Proofs.Ytecmfdkhcffpmab
