/- ProgP, ProgQ. -/
import Derived.Test.YtecmfdkhcffpmabB32
/- Contracts of the program's machine: a thread is put aside; a command. -/
namespace Go.Proofs.Ytecmfdkhcffpmab
open Go.RowKit
set_option linter.unusedSimpArgs false
set_option linter.unusedVariables false
set_option maxHeartbeats 8000000
open Mc

theorem pcV_held {w : World} {g : Nat} {t : TypeId} {its : List Wd.It} {lg : Nat → Nat} {x : Cp} (h : Row w g (pcV its lg x).toArray t) : w.rangeAt g 6 [.bool (x.t.held.testBit 0), .bool (x.t.held.testBit 1), .bool (x.t.held.testBit 2), .bool (x.t.held.testBit 3), .bool (x.t.held.testBit 4), .bool (x.t.held.testBit 5)] := by
  refine h.range 6 _ fun j v hj => ?_
  have hl : j < 6 := (List.getElem?_eq_some_iff.1 hj).1
  rw [← hj]
  rcases j with _ | _ | _ | _ | _ | _ | j <;> first | rfl | omega
theorem zf_no (its : List Wd.It) (lg : Nat → Nat) : fpV its lg noFr false = [.bool false, .int .i64 0, .bool false, .string ⟨#[]⟩, .slice none 0 0, .int .i64 0, .bool false, .bool false, .bool false, .bool false, .bool false, .bool false, .bool false] := rfl
set_option maxRecDepth 100000 in
theorem putAside_no (w : World) (b : Nat) (ai : Option Addr) (ci : Nat) (lg : Nat → Nat) (its : List Wd.It) (S : Ma) (c : Nat) (h : PM w b ai ci lg its S) (hi : Inv its 3 S) (hc : c < 3) (hh : (S.cp c).t.there = false ∨ (S.cp c).h.there = true ∨ 0 < (S.cp c).t.held ∨ (S.cp c).off = true) :
    Calls Try.prog 86 #[.pointer (some ⟨b, 0, none⟩), .int .i64 c] w fun e w' => e = .returned (.int .u8 95) ∧ PM w' b ai ci lg its S ∧ KP b ai w w' := by
  have HM := hide h
  have HRC := hide (rangeC h c hc)
  have ht64 := (hi.t c hc).held
  have AE := hide (fun W => empty_any (S.cp c).t.held W ht64)
  have HELD := hide (fun W (hW : Row W w.heap.size (pcV its lg (S.cp c)).toArray 104) => pcV_held hW)
  obtain ⟨uh, huh, hdh⟩ := Try.uHeldR
  have HUH := hide huh
  have HDH := hide hdh
  clear huh hdh
  obtain ⟨up, hup, hdp⟩ := Try.uProcR
  have HUP := hide hup
  have HDP := hide hdp
  clear hup hdp
  have hz : 0 < (S.cp c).t.held ↔ ((S.cp c).t.held == 0) = false := by simp; omega
  rw [hz] at hh
  clear h hi ht64 hz
  generalize (S.cp c).t.held.testBit 0 = t0 at *
  generalize (S.cp c).t.held.testBit 1 = t1 at *
  generalize (S.cp c).t.held.testBit 2 = t2 at *
  generalize (S.cp c).t.held.testBit 3 = t3 at *
  generalize (S.cp c).t.held.testBit 4 = t4 at *
  generalize (S.cp c).t.held.testBit 5 = t5 at *
  generalize ((S.cp c).t.held == 0) = ez at *
  cases h1 : (S.cp c).t.there <;> cases h2 : (S.cp c).h.there <;> cases h3 : (S.cp c).off <;> cases ez
  all_goals first
    | (exfalso; simp [h1, h2, h3] at hh; done)
    | (
      have HH := hide (And.intro h1 (And.intro h2 h3))
      clear h1 h2 h3 hh
      go_enter Try.func86, Try.ntmps86
      go_wp2_with (first | (go_at_call 101; refine (AE.out _).mono ?_; rintro e w2 ⟨rfl, hb2⟩; have HR2 := hide (HR1.out.below hb2); have HB2 := hide (below_go HB1.out hb2); have q2 := pcV_cells HR2.out; rw [HH.out.1, HH.out.2.1, HH.out.2.2] at q2; have q20 := q2.1; have q21 := q2.2.1; have q25 := q2.2.2.1; have q212 := q2.2.2.2.1; have q213 := q2.2.2.2.2; clear q2 hb2) | (refine wpList_load_mid rfl 98 _ rfl _ _ rfl [.bool t0, .bool t1, .bool t2, .bool t3, .bool t4, .bool t5] uh ?_ HUH.out HDH.out Try.iHeld ?_; (exact HELD.out _ HR1.out)) | (refine wpList_store_row rfl 104 _ _ rfl w.heap.size (pcV its lg (S.cp c)).toArray rfl rfl 104 #[.bool false, .int .i64 0, .bool false, .string ⟨#[]⟩, .slice none 0 0, .int .i64 0, .bool false, .bool false, .bool false, .bool false, .bool false, .bool false, .bool false, .bool false, .int .i64 0, .bool false, .string ⟨#[]⟩, .slice none 0 0, .int .i64 0, .bool false, .bool false, .bool false, .bool false, .bool false, .bool false, .bool false] ?_ (Try.iProcA _ _ _) rfl (pcV_one _ _ _) ?_; (exact (Row.new w #[.bool false, .int .i64 0, .bool false, .string ⟨#[]⟩, .slice none 0 0, .int .i64 0, .bool false, .bool false, .bool false, .bool false, .bool false, .bool false, .bool false, .bool false, .int .i64 0, .bool false, .string ⟨#[]⟩, .slice none 0 0, .int .i64 0, .bool false, .bool false, .bool false, .bool false, .bool false, .bool false, .bool false] 104).raw); rw [World.setRow_alloc_new]; have HR1 := hide (Row.new w (pcV its lg (S.cp c)).toArray 104); have HB1 := hide (below_one w (.cells (pcV its lg (S.cp c)).toArray 104)); generalize w.alloc (.cells (pcV its lg (S.cp c)).toArray 104) = w1 at *; have q1 := pcV_cells HR1.out; rw [HH.out.1, HH.out.2.1, HH.out.2.2] at q1; have q10 := q1.1; have q11 := q1.2.1; have q15 := q1.2.2.1; have q112 := q1.2.2.2.1; have q113 := q1.2.2.2.2; clear q1) | (refine wpList_load_mid rfl 104 _ rfl _ _ rfl (pcV its lg (S.cp c)) up ?_ HUP.out HDP.out (Try.iProcV _ _ _) ?_; (exact HRC.out)))
      go_ret
      exact ⟨rfl, HM.out.below HB2.out, KP.of HB2.out⟩)
set_option maxRecDepth 100000 in
theorem putAside_yes (w : World) (b : Nat) (ai : Option Addr) (ci : Nat) (lg : Nat → Nat) (its : List Wd.It) (S : Ma) (c : Nat) (h : PM w b ai ci lg its S) (ho : ItsOK its) (hi : Inv its 3 S) (hc : c < 3) (h1 : (S.cp c).t.there = true) (h2 : (S.cp c).h.there = false) (h4 : (S.cp c).t.held = 0) (h3 : (S.cp c).off = false) :
    Calls Try.prog 86 #[.pointer (some ⟨b, 0, none⟩), .int .i64 c] w fun e w' => e = .returned (.int .u8 112) ∧ PM w' b ai ci lg its (setCp (setPl (setRd S (S.cp c).t.item true) (S.cp c).t.item (S.cp c).t.pos) c { ((setPl (setRd S (S.cp c).t.item true) (S.cp c).t.item (S.cp c).t.pos).cp c) with t := noFr, off := false }) ∧ KP b ai w w' := by
  have HM := hide h
  have HRC := hide (rangeC h c hc)
  have ht64 := (hi.t c hc).held
  have AE := hide (fun W => empty_any (S.cp c).t.held W ht64)
  have HELD := hide (fun W (hW : Row W w.heap.size (pcV its lg (S.cp c)).toArray 104) => pcV_held hW)
  obtain ⟨uh, huh, hdh⟩ := Try.uHeldR
  have HUH := hide huh
  have HDH := hide hdh
  clear huh hdh
  obtain ⟨up, hup, hdp⟩ := Try.uProcR
  have HUP := hide hup
  have HDP := hide hdp
  clear hup hdp
  have hit := (hi.t c hc).item h1
  have hpp : (S.cp c).t.pos ≤ 20000 := by have := (hi.t c hc).pos h1; have := ho.body _ hit; omega
  have AM := hide (fun W (hW : PM W b ai ci lg its S) => makeReady_any W b ai ci lg its S (S.cp c).t.item (S.cp c).t.pos hW hit hpp)
  have he : ((S.cp c).t.held == 0) = true := by simp [h4]
  rw [he] at AE
  have HH := hide (And.intro h1 (And.intro h2 h3))
  have hci0 : (0 : Int) ≤ (c : Int) := by omega
  have hci3 : (c : Int) < 3 := by omega
  clear h hi ho ht64 he h1 h2 h3 h4
  generalize (S.cp c).t.held.testBit 0 = t0 at *
  generalize (S.cp c).t.held.testBit 1 = t1 at *
  generalize (S.cp c).t.held.testBit 2 = t2 at *
  generalize (S.cp c).t.held.testBit 3 = t3 at *
  generalize (S.cp c).t.held.testBit 4 = t4 at *
  generalize (S.cp c).t.held.testBit 5 = t5 at *
  go_enter Try.func86, Try.ntmps86
  go_wp2_with (first | (refine wpList_store_mid rfl 102 _ _ rfl _ _ #[.bool false, .int .i64 0, .bool false, .string ⟨#[]⟩, .slice none 0 0, .int .i64 0, .bool false, .bool false, .bool false, .bool false, .bool false, .bool false, .bool false] rfl rfl ?_ Try.iFrameP (by simp [Value.oneCell']) ?_; (exact HM3.out.root.there _ 13 (by omega)); have HM4 : Hid (PM (w3.setCells b (1 + c * 26) #[.bool false, .int .i64 0, .bool false, .string ⟨#[]⟩, .slice none 0 0, .int .i64 0, .bool false, .bool false, .bool false, .bool false, .bool false, .bool false, .bool false].toList) b ai ci lg its _) := hide (HM3.out.setT c hc noFr false); have HK4 := hide (HK3.out.sets (1 + c * 26) #[.bool false, .int .i64 0, .bool false, .string ⟨#[]⟩, .slice none 0 0, .int .i64 0, .bool false, .bool false, .bool false, .bool false, .bool false, .bool false, .bool false].toList); generalize w3.setCells b (1 + c * 26) #[.bool false, .int .i64 0, .bool false, .string ⟨#[]⟩, .slice none 0 0, .int .i64 0, .bool false, .bool false, .bool false, .bool false, .bool false, .bool false, .bool false].toList = w4 at *) | (go_at_call 99; refine (AM.out _ (HM.out.below HB2.out)).mono ?_; rintro e w3 ⟨rfl, hm3, hk3⟩; have HM3 := hide hm3; have HK3 := hide ((KP.of HB2.out).trans hk3); clear hm3 hk3) | (go_at_call 101; refine (AE.out _).mono ?_; rintro e w2 ⟨rfl, hb2⟩; have HR2 := hide (HR1.out.below hb2); have HB2 := hide (below_go HB1.out hb2); have q2 := pcV_cells HR2.out; rw [HH.out.1, HH.out.2.1, HH.out.2.2] at q2; have q20 := q2.1; have q21 := q2.2.1; have q25 := q2.2.2.1; have q212 := q2.2.2.2.1; have q213 := q2.2.2.2.2; clear q2 hb2) | (refine wpList_load_mid rfl 98 _ rfl _ _ rfl [.bool t0, .bool t1, .bool t2, .bool t3, .bool t4, .bool t5] uh ?_ HUH.out HDH.out Try.iHeld ?_; (exact HELD.out _ HR1.out)) | (refine wpList_store_row rfl 104 _ _ rfl w.heap.size (pcV its lg (S.cp c)).toArray rfl rfl 104 #[.bool false, .int .i64 0, .bool false, .string ⟨#[]⟩, .slice none 0 0, .int .i64 0, .bool false, .bool false, .bool false, .bool false, .bool false, .bool false, .bool false, .bool false, .int .i64 0, .bool false, .string ⟨#[]⟩, .slice none 0 0, .int .i64 0, .bool false, .bool false, .bool false, .bool false, .bool false, .bool false, .bool false] ?_ (Try.iProcA _ _ _) rfl (pcV_one _ _ _) ?_; (exact (Row.new w #[.bool false, .int .i64 0, .bool false, .string ⟨#[]⟩, .slice none 0 0, .int .i64 0, .bool false, .bool false, .bool false, .bool false, .bool false, .bool false, .bool false, .bool false, .int .i64 0, .bool false, .string ⟨#[]⟩, .slice none 0 0, .int .i64 0, .bool false, .bool false, .bool false, .bool false, .bool false, .bool false, .bool false] 104).raw); rw [World.setRow_alloc_new]; have HR1 := hide (Row.new w (pcV its lg (S.cp c)).toArray 104); have HB1 := hide (below_one w (.cells (pcV its lg (S.cp c)).toArray 104)); generalize w.alloc (.cells (pcV its lg (S.cp c)).toArray 104) = w1 at *; have q1 := pcV_cells HR1.out; rw [HH.out.1, HH.out.2.1, HH.out.2.2] at q1; have q10 := q1.1; have q11 := q1.2.1; have q15 := q1.2.2.1; have q112 := q1.2.2.2.1; have q113 := q1.2.2.2.2; clear q1) | (refine wpList_load_mid rfl 104 _ rfl _ _ rfl (pcV its lg (S.cp c)) up ?_ HUP.out HDP.out (Try.iProcV _ _ _) ?_; (exact HRC.out)))
  go_ret
  exact ⟨rfl, HM4.out, HK4.out⟩
end Go.Proofs.Ytecmfdkhcffpmab
/- Contracts of the program's machine: a command. -/
namespace Go.Proofs.Ytecmfdkhcffpmab
open Go.RowKit
set_option linter.unusedSimpArgs false
set_option linter.unusedVariables false
set_option maxHeartbeats 8000000
open Mc

theorem stepS_off {hd : Bool} {b : List UInt8} {p h : Nat} {comma : Bool} (hh : hd = true) : (stepS hd b p h true comma).1.2.2 = true := by
  unfold stepS
  split
  · rename_i hf
    have h60 : ¬ (atB b p = 60 ∨ atB b p = 62) := by
      intro hc
      unfold faultP at hf
      rw [if_neg (by omega), if_neg (by omega), if_neg (by omega), if_pos hc, if_pos hh] at hf
      cases hf
    unfold nextP
    repeat' split
    all_goals first | rfl | (exfalso; omega)
  · rfl
theorem stepS_z {hd : Bool} {b : List UInt8} {p h : Nat} {off comma : Bool} (hL : (stepS hd b p h off comma).2 = 122) : (stepS hd b p h off comma).1.1 = p + 1 := by
  unfold stepS at hL ⊢
  split at hL
  · rename_i hf
    rw [if_pos hf]
    simp only at hL
    simp [nextP, hL]
  · rename_i hf
    exfalso
    simp only at hL
    unfold faultP at hL
    repeat' split at hL
    all_goals (first | omega | cases hL)
theorem pstep_any (w : World) (b : Nat) (ai : Option Addr) (ci : Nat) (lg : Nat → Nat) (its : List Wd.It) (S : Ma) (c : Nat) (comma : Bool) (h : PM w b ai ci lg its S) (ho : ItsOK its) (hi : Inv its 3 S) (hfi : Fine its) (hs : Ats its 3 S) (hc : c < 3) :
    Calls Try.prog 85 #[.pointer (some ⟨b, 0, none⟩), .int .i64 c, .bool comma] w fun e w' => e = .returned (.int .u8 (stepM its S c comma).1) ∧ PM w' b ai ci lg its (stepM its S c comma).2 ∧ KP b ai w w' := by
  unfold stepM
  simp only
  by_cases hth : (works S c).there = false
  · rw [if_pos hth]; exact pstep_none w b ai ci lg its S c comma h hc hth
  rw [if_neg hth]
  have hth' : (works S c).there = true := by simpa using hth
  by_cases hH : hindP its S c (works S c) ≠ 0
  · rw [if_pos hH]; exact pstep_hind w b ai ci lg its S c comma h ho hi hc hth' _ rfl hH
  rw [if_neg hH]
  have hH' : hindP its S c (works S c) = 0 := by omega
  have hfr := works_fr hi c hc
  obtain ⟨⟨⟨np, nh, no⟩, L⟩, hst⟩ : ∃ r, stepS (isH its (works S c).item) (bodyOf its (works S c).item) (works S c).pos (works S c).held (frOff S c) comma = r := ⟨_, rfl⟩
  rw [hst]
  simp only
  by_cases h122 : L = 122
  · subst h122
    rw [if_pos rfl]
    have hnp := stepS_z (by rw [hst])
    rw [hst] at hnp
    simp only at hnp
    have := hfr.pos hth'
    have := ho.body _ (hfr.item hth')
    exact pstep_z w b ai ci lg its S c comma h ho hi hfi hs hc hth' hH' np nh no hst (by omega)
  rw [if_neg h122]
  by_cases h101 : L = 101
  · subst h101
    rw [if_pos rfl]
    exact pstep_end w b ai ci lg its S c comma h ho hi hfi hs hc hth' hH' np nh no hst
  rw [if_neg h101]
  refine pstep_go w b ai ci lg its S c comma h ho hi hfi hs hc hth' hH' np nh no L hst ⟨h122, h101⟩ fun hhd => ?_
  have hk : isH its (works S c).item = true := by rw [hfr.kind hth']; exact hhd
  have ho' : frOff S c = true := by unfold frOff; rw [if_pos hhd]
  have := stepS_off (hd := isH its (works S c).item) (b := bodyOf its (works S c).item) (p := (works S c).pos) (h := (works S c).held) (comma := comma) hk
  rw [← ho', hst] at this
  exact this.trans ho'
theorem setRd_setCp (S : Ma) (c n : Nat) (x : Cp) (v : Bool) : setRd (setCp S c x) n v = setCp (setRd S n v) c x := rfl
theorem pcomes_any (w : World) (b : Nat) (ai : Option Addr) (ci : Nat) (lg : Nat → Nat) (its : List Wd.It) (S : Ma) (c n : Nat) (h : PM w b ai ci lg its S) (hi : Inv its 3 S) (hc : c < 3) (hn : n ≤ 255) :
    Calls Try.prog 87 #[.pointer (some ⟨b, 0, none⟩), .int .i64 c, .int .i64 n] w fun e w' => e = .returned (.int .u8 (comes its S c n).1) ∧ PM w' b ai ci lg its (comes its S c n).2 ∧ KP b ai w w' := by
  by_cases hlt : n < its.length
  · cases hk : isH its n with
    | true =>
      by_cases hh : (S.cp c).h.there = true ∨ (S.cp c).off = true
      · have e : comes its S c n = (95, S) := by
          unfold comes
          rcases hh with e | e
          · rw [if_pos (Or.inr e)]
          · by_cases e2 : its.length ≤ n ∨ (S.cp c).h.there = true
            · rw [if_pos e2]
            · rw [if_neg e2, if_pos hk, if_pos e]
        rw [e]
        exact start_handler w b ai ci lg its S c n h hlt hk _ _ (interrupt_no w b ai ci lg its S c n h hc hlt hh)
      · simp only [not_or, Bool.not_eq_true] at hh
        have e : comes its S c n = (104, setCp S c { (S.cp c) with h := ⟨true, n, 0, 0⟩ }) := by
          unfold comes
          rw [if_neg (by simp only [not_or, Bool.not_eq_true]; exact ⟨by omega, hh.1⟩), if_pos hk, if_neg (by simp [hh.2])]
        rw [e]
        exact start_handler w b ai ci lg its S c n h hlt hk _ _ (interrupt_yes w b ai ci lg its S c n h hc hlt hk hh.1 hh.2)
    | false =>
      by_cases hh : (S.cp c).t.there = true ∨ (S.cp c).h.there = true ∨ S.rd n = false
      · have e : comes its S c n = (95, S) := by
          unfold comes
          by_cases e2 : its.length ≤ n ∨ (S.cp c).h.there = true
          · rw [if_pos e2]
          · rw [if_neg e2, if_neg (by simp [hk]), if_pos (by rcases hh with e | e | e <;> simp_all)]
        rw [e]
        exact start_no w b ai ci lg its S c n h hc hlt hk hh
      · simp only [not_or, Bool.not_eq_true, Bool.not_eq_false] at hh
        have hoff : (S.cp c).off = false := by
          cases e : (S.cp c).off
          · rfl
          · have := hi.off c hc e; rw [hh.1] at this; cases this
        have e : comes its S c n = (116, setRd (setCp S c { (S.cp c) with t := ⟨true, n, S.pl n, 0⟩, off := false }) n false) := by
          unfold comes
          rw [if_neg (by simp only [not_or, Bool.not_eq_true]; exact ⟨by omega, hh.2.1⟩), if_neg (by simp [hk]), if_neg (by simp [hh.1, hh.2.2]), setRd_setCp]
          have e2 : ({ (S.cp c) with t := ⟨true, n, S.pl n, 0⟩ } : Cp) = { (S.cp c) with t := ⟨true, n, S.pl n, 0⟩, off := false } := by rw [← hoff]
          rw [e2]
        rw [e]
        exact start_yes w b ai ci lg its S c n h hc hlt hk hh.1 hh.2.1 hh.2.2
  · have e : comes its S c n = (95, S) := by unfold comes; rw [if_pos (Or.inl (by omega))]
    rw [e]
    exact start_out w b ai ci lg its S c n h hlt hn
theorem pput_any (w : World) (b : Nat) (ai : Option Addr) (ci : Nat) (lg : Nat → Nat) (its : List Wd.It) (S : Ma) (c : Nat) (h : PM w b ai ci lg its S) (ho : ItsOK its) (hi : Inv its 3 S) (hc : c < 3) :
    Calls Try.prog 86 #[.pointer (some ⟨b, 0, none⟩), .int .i64 c] w fun e w' => e = .returned (.int .u8 (command its S 3 c 112).1) ∧ PM w' b ai ci lg its (command its S 3 c 112).2 ∧ KP b ai w w' := by
  by_cases hh : (S.cp c).t.there = false ∨ (S.cp c).h.there = true ∨ 0 < (S.cp c).t.held ∨ (S.cp c).off = true
  · have e : command its S 3 c 112 = (95, S) := by
      unfold command
      rw [if_neg (by decide), if_neg (by simp), if_pos hh]
    rw [e]
    exact putAside_no w b ai ci lg its S c h hi hc hh
  · have e : command its S 3 c 112 = (112, leaves S c (S.cp c).t.pos) := by
      unfold command
      rw [if_neg (by decide), if_neg (by simp), if_neg hh]
    simp only [not_or, Bool.not_eq_true, Bool.not_eq_false] at hh
    have e2 : leaves S c (S.cp c).t.pos = setCp (setPl (setRd S (S.cp c).t.item true) (S.cp c).t.item (S.cp c).t.pos) c { ((setPl (setRd S (S.cp c).t.item true) (S.cp c).t.item (S.cp c).t.pos).cp c) with t := noFr, off := false } := by
      unfold leaves
      congr 1
      show ({ S.cp c with t := noFr } : Cp) = { S.cp c with t := noFr, off := false }
      rw [← hh.2.2.2]
    rw [e, e2]
    exact putAside_yes w b ai ci lg its S c h ho hi hc hh.1 hh.2.1 (by omega) hh.2.2.2
set_option maxRecDepth 100000 in
theorem do_any (w : World) (b : Nat) (ai : Option Addr) (ci : Nat) (lg : Nat → Nat) (its : List Wd.It) (S : Ma) (c : Nat) (what : Int) (h : PM w b ai ci lg its S) (ho : ItsOK its) (hi : Inv its 3 S) (hfi : Fine its) (hs : Ats its 3 S) (hr : Mc.Rest 3 S) (hc : c < 3) (hw : isOrd what = true) :
    Calls Try.prog 67 #[.pointer (some ⟨b, 0, none⟩), .int .i64 c, .int .u8 what] w fun e w' => e = .returned (.int .u8 (command its S 3 c what).1) ∧ PM w' b ai ci lg its (command its S 3 c what).2 ∧ KP b ai w w' := by
  have hci0 : (0 : Int) ≤ (c : Int) := by omega
  have hci3 : (c : Int) < 3 := by omega
  by_cases h46 : what = 46 ∨ what = 44
  · have e : command its S 3 c what = stepM its S c (what == 44) := by
      unfold command
      rw [if_pos h46, stepM_eq hfi hi hs hr c hc]
      congr 1
    rw [e]
    have AS := hide (pstep_any w b ai ci lg its S c (what == 44) h ho hi hfi hs hc)
    clear h hi hs hr e hfi ho hw
    rcases h46 with rfl | rfl
    all_goals (
      go_enter Try.func67, Try.ntmps67
      go_wp2_with (first | (go_at_call 85; refine (AS.out).mono ?_; rintro e w1 ⟨rfl, hm1, hk1⟩; have HM1 := hide hm1; have HK1 := hide hk1; clear hm1 hk1))
      go_ret
      exact ⟨rfl, HM1.out, HK1.out⟩)
  by_cases h112 : what = 112
  · subst h112
    have AS := hide (pput_any w b ai ci lg its S c h ho hi hc)
    generalize command its S 3 c 112 = R at *
    clear h hi hs hr hfi ho hw h46
    go_enter Try.func67, Try.ntmps67
    go_wp2_with (first | (go_at_call 86; refine (AS.out).mono ?_; rintro e w1 ⟨rfl, hm1, hk1⟩; have HM1 := hide hm1; have HK1 := hide hk1; clear hm1 hk1))
    go_ret
    exact ⟨rfl, HM1.out, HK1.out⟩
  · have e : command its S 3 c what = comes its S c (what - 48).toNat := by unfold command; rw [if_neg h46, if_pos h112]
    have hd : 48 ≤ what ∧ what ≤ 55 := by
      unfold isOrd at hw
      simp at hw; omega
    rw [e]
    obtain ⟨n, hn⟩ : ∃ n : Nat, what = (n : Int) + 48 := ⟨(what - 48).toNat, by omega⟩
    subst hn
    have e3 : ((n : Int) + 48 - 48).toNat = n := by omega
    rw [e3]
    have AS := hide (pcomes_any w b ai ci lg its S c n h hi hc (by omega))
    generalize comes its S c n = R at *
    have hw : IntKind.i64.wrap ((n : Int) + 48 - 48) = (n : Int) := by rw [IntKind.wrap_i64]; omega
    have t46 : ((n : Int) + 48 == 46) = false := by simp; omega
    have t44 : ((n : Int) + 48 == 44) = false := by simp; omega
    have t112 : ((n : Int) + 48 == 112) = false := by simp; omega
    clear h hi hs hr hfi ho h46 h112 e e3
    go_enter Try.func67, Try.ntmps67
    go_wp2_with (first | (go_at_call 87; refine (AS.out).mono ?_; rintro e w1 ⟨rfl, hm1, hk1⟩; have HM1 := hide hm1; have HK1 := hide hk1; clear hm1 hk1))
    go_ret
    exact ⟨rfl, HM1.out, HK1.out⟩
set_option maxRecDepth 100000 in
theorem isLast_any (L : Int) (w : World) (h0 : 0 ≤ L) (h1 : L ≤ 255) :
    Calls Try.prog 68 #[.int .u8 L] w fun e w' => e = .returned (.bool (bad L)) ∧ w' = w := by
  have HB : Hid (bad L = (L == 68 || L == 85 || L == 83 || L == 69 || L == 73 || L == 87 || L == 82)) := hide rfl
  generalize bad L = B at *
  generalize hb1 : (L == 68) = x1 at *
  generalize hb2 : (L == 85) = x2 at *
  generalize hb3 : (L == 83) = x3 at *
  generalize hb4 : (L == 69) = x4 at *
  generalize hb5 : (L == 73) = x5 at *
  generalize hb6 : (L == 87) = x6 at *
  generalize hb7 : (L == 82) = x7 at *
  go_enter Try.func68, Try.ntmps68
  go_wp2
  all_goals (
    clear hb1 hb2 hb3 hb4 hb5 hb6 hb7
    go_ret
    exact ⟨ret_bool (by rw [HB.out]; simp_all), rfl⟩)
set_option maxRecDepth 100000 in
theorem isOrder_any (x : Int) (w : World) (h0 : 0 ≤ x) (h1 : x ≤ 255) :
    Calls Try.prog 65 #[.int .u8 x] w fun e w' => e = .returned (.bool (isOrd x)) ∧ w' = w := by
  have HB : Hid (isOrd x = (x == 46 || x == 44 || x == 112 || (decide (48 ≤ x) && decide (x ≤ 55)))) := hide rfl
  generalize isOrd x = B at *
  go_enter Try.func65, Try.ntmps65
  go_wp2
  all_goals (
    go_ret
    exact ⟨ret_bool (by rw [HB.out, Bool.eq_iff_iff]; simp_all <;> omega), rfl⟩)
end Go.Proofs.Ytecmfdkhcffpmab
