/- ProgK, ProgL. -/
import Derived.Test.YtecmfdkhcffpmaaB31
/- Contracts of the program's machine: races, waiting, hindrances. -/
namespace Go.Proofs.Ytecmfdkhcffpmaa
open Go.RowKit
set_option linter.unusedSimpArgs false
set_option linter.unusedVariables false
set_option maxHeartbeats 8000000
open Mc

def raceV (x : Bool) : Int := if x = true then 82 else 0
/-- Whether processor d stands at the cell too, in the program's words. -/
def clP (its : List Wd.It) (S : Ma) (c : Nat) (what cell : Int) (d : Nat) : Bool := (((d : Int) != (c : Int)) && ((atF its (works S d) == 119) || ((atF its (works S d) == 114) && (what == 119)))) && (numF its (works S d) == cell)
theorem atF_stands {its : List Wd.It} {hd : Bool} {f : Fr} (hf : FrOK its hd f) : (f.there = true ∧ atF its f = stands its f ∧ fb its f = bodyOf its f.item) ∨ (stands its f = 95 ∧ atF its f = 101) := by
  unfold atF stands fb
  cases ht : f.there
  · right; rw [hf.none ht]; simp [atB, noFr]
  · left; simp
theorem clP_eq {its : List Wd.It} {S : Ma} {c d : Nat} {what cell : Int} {hd : Bool} (hf : FrOK its hd (works S d)) (hw : what = 114 ∨ what = 119) : clP its S c what cell d = clashAt its S c cell what d := by
  unfold clP clashAt
  simp only
  rcases atF_stands hf with ⟨h1, h2, h3⟩ | ⟨h1, h2⟩
  · rw [h2]
    have hn : stands its (works S d) = 114 ∨ stands its (works S d) = 119 → numF its (works S d) = num (bodyOf its (works S d).item) (works S d).pos := by
      intro h
      have ha : atB (bodyOf its (works S d).item) (works S d).pos = stands its (works S d) := by rw [← h2, atF, h3]
      unfold numF numP
      rw [h3, if_pos (by rw [ha]; omega)]
    by_cases e1 : stands its (works S d) = 114
    · rw [hn (Or.inl e1), e1, Bool.eq_iff_iff]; rcases hw with e | e <;> simp [e] <;> omega
    · by_cases e2 : stands its (works S d) = 119
      · rw [hn (Or.inr e2), e2, Bool.eq_iff_iff]; rcases hw with e | e <;> simp [e] <;> omega
      · simp [e1, e2]
  · rw [h1, h2]; simp
theorem fb_there {its : List Wd.It} {f : Fr} (h : f.there = true) : fb its f = bodyOf its f.item := by simp [fb, h]
set_option maxRecDepth 100000 in
theorem racing_any (w : World) (b : Nat) (ai : Option Addr) (ci : Nat) (lg : Nat → Nat) (its : List Wd.It) (S : Ma) (c : Nat) (f : Fr) (o hd : Bool) (h : PM w b ai ci lg its S) (ho : ItsOK its) (hi : Inv its 3 S) (hc : c < 3) (hf : FrOK its hd f) (hw : atF its f = 114 ∨ atF its f = 119) :
    Calls Try.prog 173 #[.pointer (some ⟨b, 0, none⟩), .int .i64 c, .agg (frmA its lg f o)] w fun e w' => e = .returned (.int .u8 (raceV (clashFrom its S c (numF its f) (atF its f) 0 3))) ∧ Below w.heap.size w w' := by
  have HM := hide h
  have HI := hide hi
  have HO := hide ho
  have AA := hide (fun W => frAt_any ho hf lg W)
  have AN := hide (fun W => frNum_any ho hf lg W)
  have hnb := numF_bd ho hf
  have HCL := hide (fun d hd' => clP_eq (its := its) (S := S) (c := c) (d := d) (cell := numF its f) (hd := (S.cp d).h.there) hd' hw)
  clear h hi ho hf hw
  generalize atF its f = ch at *
  generalize numF its f = nm at *
  obtain ⟨ud, hu, hdd⟩ := Try.uCodeR
  have HU := hide hu
  have HD := hide hdd
  clear hu hdd
  have HF0 := hide (Row.new w (frmA its lg f o) 116)
  have HB0 := hide (below_one w (.cells (frmA its lg f o) 116))
  have p0 := frm_pos HF0.out
  go_enter Try.func173, Try.ntmps173
  go_wp2_with (first | (refine wpList_load_mid rfl 111 _ rfl _ _ rfl [.bool (f.there && isH its f.item), .string (Wd.mkS (fb its f)), .slice (fl its lg f) (fb its f).length (fb its f).length] ud ?_ HU.out HD.out Try.iCode ?_; (exact frm_code HF1.out)) | (go_at_call 153; refine (AN.out _).mono ?_; rintro e w2 ⟨rfl, hb2⟩; have HF2 := hide (HF1.out.below hb2); have HB2 := hide (below_go HB1.out hb2); have p2 := frm_pos HF2.out; clear hb2) | (refine wpList_load_mid rfl 111 _ rfl _ _ rfl [.bool (f.there && isH its f.item), .string (Wd.mkS (fb its f)), .slice (fl its lg f) (fb its f).length (fb its f).length] ud ?_ HU.out HD.out Try.iCode ?_; (exact frm_code HF0.out)) | (go_at_call 128; refine (AA.out _).mono ?_; rintro e w1 ⟨rfl, hb1⟩; have HF1 := hide (HF0.out.below hb1); have HB1 := hide (below_go HB0.out hb1); have p1 := frm_pos HF1.out; clear hb1))
  clear p0 p1 p2 HF0 HF1 HB0 HB1 AA AN
  go_loopw [9] (fun a wr => ∃ k : Nat, k ≤ 3 ∧ a = .int .i64 k ∧ clashFrom its S c nm ch 0 3 = clashFrom its S c nm ch k (3 - k) ∧ Below w.heap.size w wr) (fun a _ => 3 - (intOf a).toNat)
  case atStart => exact ⟨0, by omega, rfl, rfl, HB2.out⟩
  case round =>
    obtain ⟨k, hk, rfl, hp, hbe⟩ := hrel
    have HP := hide hp
    have HB3 := hide hbe
    have HM3 := hide (HM.out.below hbe)
    clear hp hbe
    by_cases hlt : k < 3
    · have hgf := works_fr HI.out k hlt
      have AW := hide (pworking_any wr b ai ci lg its S k HM3.out hlt)
      have BA := hide (fun W => frAt_any HO.out hgf lg W)
      have BN := hide (fun W => frNum_any HO.out hgf lg W)
      have hgb := numF_bd HO.out hgf
      have HX := hide (HCL.out k hgf)
      have HQ : Hid (clP its S c ch nm k = ((((k : Int) != (c : Int)) && ((atF its (works S k) == 119) || ((atF its (works S k) == 114) && (ch == 119)))) && (numF its (works S k) == nm))) := hide rfl
      have HS : Hid (clashFrom its S c nm ch k (3 - k) = if clashAt its S c nm ch k = true then true else clashFrom its S c nm ch (k + 1) (3 - (k + 1))) := by
        apply hide; rw [show 3 - k = (2 - k) + 1 by omega, clashFrom, show 2 - k = 3 - (k + 1) by omega]
      rw [← HX.out, HQ.out] at HS
      clear hgf HX HQ
      generalize atF its (works S k) = ga at *
      generalize numF its (works S k) = gn at *
      generalize works S k = g at *
      generalize frOff S k = q at *
      generalize hx1 : ((k : Int) != (c : Int)) = x1 at *
      generalize hx2 : (ga == 119) = x2 at *
      generalize hx3 : (ga == 114) = x3 at *
      generalize hx4 : (ch == 119) = x4 at *
      generalize hx5 : (gn == nm) = x5 at *
      go_wp2_with (first | (refine wpList_load_mid rfl 111 _ rfl _ _ rfl [.bool (g.there && isH its g.item), .string (Wd.mkS (fb its g)), .slice (fl its lg g) (fb its g).length (fb its g).length] ud ?_ HU.out HD.out Try.iCode ?_; (exact frm_code HG6.out)) | (go_at_call 153; refine (BN.out _).mono ?_; rintro e w7 ⟨rfl, hb7⟩; have HG7 := hide (HG6.out.below hb7); have HB7 := hide (below_go HB6.out hb7); have p7 := frm_pos HG7.out; clear hb7) | (refine wpList_load_mid rfl 111 _ rfl _ _ rfl [.bool (g.there && isH its g.item), .string (Wd.mkS (fb its g)), .slice (fl its lg g) (fb its g).length (fb its g).length] ud ?_ HU.out HD.out Try.iCode ?_; (exact frm_code HG5.out)) | (go_at_call 128; refine (BA.out _).mono ?_; rintro e w6 ⟨rfl, hb6⟩; have HG6 := hide (HG5.out.below hb6); have HB6 := hide (below_go HB5.out hb6); have p6 := frm_pos HG6.out; clear hb6) | (refine wpList_store_row rfl 116 _ _ rfl w4.heap.size (frmA its lg g q) rfl rfl 116 #[.bool false, .int .i64 0, .bool false, .string ⟨#[]⟩, .slice none 0 0, .int .i64 0, .bool false, .bool false, .bool false, .bool false, .bool false, .bool false, .bool false] ?_ (Try.iFrmA _ _ _ _) rfl (frmA_one _ _ _ _) ?_; (exact (Row.new w4 #[.bool false, .int .i64 0, .bool false, .string ⟨#[]⟩, .slice none 0 0, .int .i64 0, .bool false, .bool false, .bool false, .bool false, .bool false, .bool false, .bool false] 116).raw); rw [World.setRow_alloc_new]; have HG5 := hide (Row.new w4 (frmA its lg g q) 116); have HB5 := hide (below_new HB4.out (.cells (frmA its lg g q) 116)); generalize w4.alloc (.cells (frmA its lg g q) 116) = w5 at *; have p5 := frm_pos HG5.out) | (go_at_call 160; refine (AW.out).mono ?_; rintro e w4 ⟨rfl, hb4⟩; have HB4 := hide (below_go HB3.out hb4); clear hb4))
      all_goals clear hx1 hx2 hx3 hx4 hx5 HCL AW BA BN HM3
      all_goals first
        | (go_ret; exact ⟨ret_int (by rw [HP.out, HS.out, if_pos (by simp_all)]; rfl), HB7.out⟩)
        | (refine ⟨⟨k + 1, by omega, by go_num, by rw [HP.out, HS.out, if_neg (by simp_all)], HB7.out⟩, by simp [intOf]; omega⟩)
    · go_wp2
      go_ret
      exact ⟨ret_int (by rw [HP.out, show 3 - k = 0 by omega]; rfl), HB3.out⟩
/-- What comes of it if processor c takes a lock, in the program's words. -/
def waitI (its : List Wd.It) (S : Ma) (c : Nat) (l : Int) : Int := match hold3 S l with
  | none => 0
  | some d => if d = c then 68 else if ringI its S c 3 l = true then 87 else 58
set_option maxRecDepth 100000 in
theorem waiting_any (w : World) (b : Nat) (ai : Option Addr) (ci : Nat) (lg : Nat → Nat) (its : List Wd.It) (S : Ma) (c : Nat) (l : Int) (h : PM w b ai ci lg its S) (ho : ItsOK its) (hi : Inv its 3 S) (hc : c < 3) (h0 : -1 ≤ l) (h1 : l ≤ 5) :
    Calls Try.prog 172 #[.pointer (some ⟨b, 0, none⟩), .int .i64 c, .int .i64 l] w fun e w' => e = .returned (.int .u8 (waitI its S c l)) ∧ Below w.heap.size w w' := by
  have A1 := hide (pholder_any w b ai ci lg its S l h hi h0 (by omega))
  have A2 := hide (fun W (hW : Below w.heap.size w W) => pring_any W b ai ci lg its S c l (h.below hW) ho hi hc h0 h1)
  cases ed : hold3 S l with
  | none =>
    have e : waitI its S c l = 0 := by simp [waitI, ed]
    rw [e]
    rw [ed] at A1
    have A1' : Hid (Calls Try.prog 174 #[.pointer (some ⟨b, 0, none⟩), .int .i64 l] w fun e w' => e = .returned (.int .i64 (-1)) ∧ Below w.heap.size w w') := A1
    clear A1 ed h hi ho e
    go_enter Try.func172, Try.ntmps172
    go_wp2_with (first | (go_at_call 174; refine A1'.out.mono ?_; rintro e w1 ⟨rfl, hb1⟩))
    go_ret
    exact ⟨rfl, hb1⟩
  | some d =>
    rw [ed] at A1
    have A1' : Hid (Calls Try.prog 174 #[.pointer (some ⟨b, 0, none⟩), .int .i64 l] w fun e w' => e = .returned (.int .i64 (d : Int)) ∧ Below w.heap.size w w') := A1
    have t0 : ((d : Int) == -1) = false := by simp
    by_cases hdc : d = c
    · subst hdc
      have e : waitI its S d l = 68 := by simp [waitI, ed]
      rw [e]
      clear A1 ed h hi ho e
      go_enter Try.func172, Try.ntmps172
      go_wp2_with (first | (go_at_call 174; refine A1'.out.mono ?_; rintro e w1 ⟨rfl, hb1⟩))
      go_ret
      exact ⟨rfl, hb1⟩
    · have t1 : ((d : Int) == (c : Int)) = false := by simp; omega
      have e : waitI its S c l = if ringI its S c 3 l = true then 87 else 58 := by simp [waitI, ed, hdc]
      rw [e]
      clear A1 ed h hi ho e
      generalize ringI its S c 3 l = r at *
      cases r
      all_goals (
        simp only [Bool.false_eq_true, if_false, if_true]
        go_enter Try.func172, Try.ntmps172
        go_wp2_with (first | (go_at_call 175; refine (A2.out _ hb1).mono ?_; rintro e w2 ⟨rfl, hb2⟩) | (go_at_call 174; refine A1'.out.mono ?_; rintro e w1 ⟨rfl, hb1⟩))
        go_ret
        exact ⟨rfl, below_go hb1 hb2⟩)
/-- What hinders a frame, in the program's words. -/
def hindI (its : List Wd.It) (S : Ma) (c : Nat) (f : Fr) : Int :=
  if atF its f = 43 then waitI its S c (numF its f)
  else if atF its f = 114 ∨ atF its f = 119 then raceV (clashFrom its S c (numF its f) (atF its f) 0 3)
  else 0
set_option maxRecDepth 100000 in
theorem hindrance_any (w : World) (b : Nat) (ai : Option Addr) (ci : Nat) (lg : Nat → Nat) (its : List Wd.It) (S : Ma) (c : Nat) (f : Fr) (o hd : Bool) (h : PM w b ai ci lg its S) (ho : ItsOK its) (hi : Inv its 3 S) (hc : c < 3) (hf : FrOK its hd f) :
    Calls Try.prog 161 #[.pointer (some ⟨b, 0, none⟩), .int .i64 c, .agg (frmA its lg f o)] w fun e w' => e = .returned (.int .u8 (hindI its S c f)) ∧ Below w.heap.size w w' := by
  have AA := hide (fun W => frAt_any ho hf lg W)
  have AN := hide (fun W => frNum_any ho hf lg W)
  have hnb := numF_bd ho hf
  have AW := hide (fun W (hW : Below w.heap.size w W) => waiting_any W b ai ci lg its S c (numF its f) (h.below hW) ho hi hc hnb.1 hnb.2)
  have AR := hide (fun W (hW : Below w.heap.size w W) (hw : atF its f = 114 ∨ atF its f = 119) => racing_any W b ai ci lg its S c f o hd (h.below hW) ho hi hc hf hw)
  have HE : Hid (hindI its S c f = if atF its f = 43 then waitI its S c (numF its f) else if atF its f = 114 ∨ atF its f = 119 then raceV (clashFrom its S c (numF its f) (atF its f) 0 3) else 0) := hide rfl
  have hcb := atB_bd (fb its f) f.pos
  have hcb' : 0 ≤ atF its f ∧ atF its f ≤ 255 := hcb
  clear h hi ho hf hcb
  obtain ⟨ud, hu, hdd⟩ := Try.uCodeR
  have HU := hide hu
  have HD := hide hdd
  clear hu hdd
  have HF0 := hide (Row.new w (frmA its lg f o) 116)
  have HB0 := hide (below_one w (.cells (frmA its lg f o) 116))
  have p0 := frm_pos HF0.out
  generalize clashFrom its S c (numF its f) (atF its f) 0 3 = cl at *
  generalize waitI its S c (numF its f) = wt at *
  generalize hindI its S c f = H at *
  generalize atF its f = ch at *
  generalize numF its f = nm at *
  by_cases h43 : ch = 43
  · subst h43
    go_enter Try.func161, Try.ntmps161
    go_wp2_with (first | (go_at_call 172; refine (AW.out _ HB2.out).mono ?_; rintro e w3 ⟨rfl, hb3⟩) | (refine wpList_load_mid rfl 111 _ rfl _ _ rfl [.bool (f.there && isH its f.item), .string (Wd.mkS (fb its f)), .slice (fl its lg f) (fb its f).length (fb its f).length] ud ?_ HU.out HD.out Try.iCode ?_; (exact frm_code HF1.out)) | (go_at_call 153; refine (AN.out _).mono ?_; rintro e w2 ⟨rfl, hb2⟩; have HF2 := hide (HF1.out.below hb2); have HB2 := hide (below_go HB1.out hb2); have p2 := frm_pos HF2.out; clear hb2) | (refine wpList_load_mid rfl 111 _ rfl _ _ rfl [.bool (f.there && isH its f.item), .string (Wd.mkS (fb its f)), .slice (fl its lg f) (fb its f).length (fb its f).length] ud ?_ HU.out HD.out Try.iCode ?_; (exact frm_code HF0.out)) | (go_at_call 128; refine (AA.out _).mono ?_; rintro e w1 ⟨rfl, hb1⟩; have HF1 := hide (HF0.out.below hb1); have HB1 := hide (below_go HB0.out hb1); have p1 := frm_pos HF1.out; clear hb1))
    go_ret
    exact ⟨ret_int (by rw [HE.out]; simp), below_go HB2.out hb3⟩
  have t43 : (ch == 43) = false := by simp [h43]
  by_cases hrw : ch = 114 ∨ ch = 119
  · rcases hrw with rfl | rfl
    all_goals (
      go_enter Try.func161, Try.ntmps161
      go_wp2_with (first | (go_at_call 173; refine (AR.out _ HB1.out (by simp)).mono ?_; rintro e w3 ⟨rfl, hb3⟩) | (refine wpList_load_row rfl 116 _ rfl _ rfl 116 (frmA its lg f o) (0, 0) _ ?_ Try.underlying116 rfl (Try.iFrmA _ _ _ _) ?_; (exact HF1.out.raw)) | (refine wpList_load_mid rfl 111 _ rfl _ _ rfl [.bool (f.there && isH its f.item), .string (Wd.mkS (fb its f)), .slice (fl its lg f) (fb its f).length (fb its f).length] ud ?_ HU.out HD.out Try.iCode ?_; (exact frm_code HF0.out)) | (go_at_call 128; refine (AA.out _).mono ?_; rintro e w1 ⟨rfl, hb1⟩; have HF1 := hide (HF0.out.below hb1); have HB1 := hide (below_go HB0.out hb1); have p1 := frm_pos HF1.out; clear hb1))
      go_ret
      exact ⟨ret_int (by rw [HE.out]; simp), below_go HB1.out hb3⟩)
  · have t114 : (ch == 114) = false := by simp; omega
    have t119 : (ch == 119) = false := by simp; omega
    have HEE : Hid (H = 0) := by apply hide; rw [HE.out, if_neg h43, if_neg hrw]
    clear h43 hrw HE
    go_enter Try.func161, Try.ntmps161
    go_wp2_with (first | (refine wpList_load_mid rfl 111 _ rfl _ _ rfl [.bool (f.there && isH its f.item), .string (Wd.mkS (fb its f)), .slice (fl its lg f) (fb its f).length (fb its f).length] ud ?_ HU.out HD.out Try.iCode ?_; (exact frm_code HF0.out)) | (go_at_call 128; refine (AA.out _).mono ?_; rintro e w1 ⟨rfl, hb1⟩; have HF1 := hide (HF0.out.below hb1); have HB1 := hide (below_go HB0.out hb1); have p1 := frm_pos HF1.out; clear hb1))
    go_ret
    exact ⟨ret_int (by rw [HEE.out]), HB1.out⟩
end Go.Proofs.Ytecmfdkhcffpmaa
/- Contracts of the program's machine: a step. -/
namespace Go.Proofs.Ytecmfdkhcffpmaa
open Go.RowKit
set_option linter.unusedSimpArgs false
set_option linter.unusedVariables false
set_option maxHeartbeats 8000000
open Mc

/-- Below B all stands but for the machine's own two blocks. -/
structure KQ (B b : Nat) (ai : Option Addr) (w w' : World) : Prop where
  below : Below 0 w w'
  same : ∀ k, k < B → k ≠ b → ai ≠ some ⟨k, 0, none⟩ → w'.heap[k]? = w.heap[k]?
theorem KQ.refl (B b : Nat) (ai : Option Addr) (w : World) : KQ B b ai w w := ⟨Below.refl _ _, fun _ _ _ _ => rfl⟩
theorem KQ.trans {B b : Nat} {ai : Option Addr} {x y z : World} (h1 : KQ B b ai x y) (h2 : KQ B b ai y z) : KQ B b ai x z := ⟨h1.below.trans h2.below, fun k hk e1 e2 => (h2.same k hk e1 e2).trans (h1.same k hk e1 e2)⟩
theorem KQ.bel {B b : Nat} {ai : Option Addr} {x y z : World} (h1 : KQ B b ai x y) (hb : Below y.heap.size y z) (hB : B ≤ y.heap.size) : KQ B b ai x z := h1.trans ⟨hb.mono (Nat.zero_le _), fun k hk _ _ => hb.block k (by omega)⟩
theorem KQ.kp {B b : Nat} {ai : Option Addr} {x y z : World} (h1 : KQ B b ai x y) (hb : KP b ai y z) (hB : B ≤ y.heap.size) : KQ B b ai x z := h1.trans ⟨hb.below, fun k hk e1 e2 => hb.same k (by omega) e1 e2⟩
theorem KQ.oth {B b g : Nat} {ai : Option Addr} {x y z : World} (h1 : KQ B b ai x y) (hb : Below 0 y z) (hs : ∀ k, k ≠ g → z.heap[k]? = y.heap[k]?) (hg : B ≤ g) : KQ B b ai x z := h1.trans ⟨hb, fun k hk _ _ => hs k (by omega)⟩
theorem KQ.toKP {b : Nat} {ai : Option Addr} {w w' : World} (h : KQ w.heap.size b ai w w') : KP b ai w w' := ⟨h.below, h.same⟩
theorem KQ.size {B b : Nat} {ai : Option Addr} {x y : World} (h : KQ B b ai x y) : x.heap.size ≤ y.heap.size := h.below.size
/-- The machine's blocks lie below B. -/
structure PB (B b : Nat) (ai : Option Addr) (lg : Nat → Nat) (n : Nat) : Prop where
  b : b < B
  ai : 0 < n → ∀ g, ai = some ⟨g, 0, none⟩ → g < B
  lg : ∀ i, i < n → lg i < B
theorem PM.pb {w : World} {b : Nat} {ai : Option Addr} {ci : Nat} {lg : Nat → Nat} {its : List Wd.It} {S : Ma} (h : PM w b ai ci lg its S) : PB w.heap.size b ai lg its.length :=
  ⟨h.root.lt, fun hl g hg => by obtain ⟨g', e1, e2, _⟩ := h.items hl; rw [hg] at e1; cases e1; exact e2.lt, fun i hi => (h.leads i hi).1.lt⟩
theorem PM.keepB {B : Nat} {w' : World} {w : World} {b : Nat} {ai : Option Addr} {ci : Nat} {lg : Nat → Nat} {its : List Wd.It} {S : Ma} (h : PM w b ai ci lg its S) (hB : PB B b ai lg its.length) (hs : ∀ k, k < B → w'.heap[k]? = w.heap[k]?) : PM w' b ai ci lg its S :=
  ⟨h.root.same (hs _ hB.b), fun hl => (h.items hl).imp fun g hg => ⟨hg.1, hg.2.1.same (hs _ (hB.ai hl g hg.1)), hg.2.2⟩, fun i hi => ⟨(h.leads i hi).1.same (hs _ (hB.lg i hi)), (h.leads i hi).2⟩, h.caps, h.ab⟩
theorem fpV_get (its : List Wd.It) (lg : Nat → Nat) (f : Fr) (o : Bool) (j : Nat) (hj : j < 13) : (fpV its lg f o)[j]? = some (fpC its lg f o j) := by
  unfold fpC
  rw [List.getElem?_eq_getElem (by simp [fpV]; omega)]; rfl
theorem pm_lay {w : World} {b : Nat} {ai : Option Addr} {ci : Nat} {lg : Nat → Nat} {its : List Wd.It} {S : Ma} (c : Nat) (hc : c < 3) (f : Fr) (o : Bool) (hh : (S.cp c).h.there = true → o = f.there) (i : Nat) (h79 : i < 79) : (if (if (S.cp c).h.there = true then 1 + c * 26 + 13 else 1 + c * 26) ≤ i then ((fpV its lg f o)[i - (if (S.cp c).h.there = true then 1 + c * 26 + 13 else 1 + c * 26)]?).getD (pmF ai ci its lg S i) else pmF ai ci its lg S i) = pmF ai ci its lg (layP S c f o) i := by
  unfold pmF
  by_cases i0 : i = 0
  · subst i0
    rw [if_neg (by split <;> omega)]
    simp
  · rw [if_neg i0, if_neg i0]
    obtain ⟨m, hm⟩ : ∃ m, (i - 1) % 26 = m := ⟨_, rfl⟩
    have hm26 : m < 26 := by rw [← hm]; exact Nat.mod_lt _ (by omega)
    rw [hm]
    unfold pcF layP setCp
    by_cases e : (i - 1) / 26 = c
    · have hi : i = 1 + c * 26 + m := by omega
      simp only [e, if_true]
      cases hth : (S.cp c).h.there
      · simp only [Bool.false_eq_true, if_false]
        rw [if_pos (by omega), hi, Nat.add_sub_cancel_left]
        by_cases hm13 : m < 13
        · rw [if_pos hm13, if_pos hm13, fpV_get _ _ _ _ _ hm13]; rfl
        · rw [if_neg hm13, if_neg hm13, List.getElem?_eq_none (by simp [fpV]; omega)]; simp [hth]
      · simp only [if_true]
        by_cases hm13 : m < 13
        · rw [if_pos hm13, if_neg (by omega), if_pos hm13]
        · rw [if_neg hm13, if_pos (by omega), if_neg hm13, hh hth, hi, show 1 + c * 26 + m - (1 + c * 26 + 13) = m - 13 by omega, fpV_get _ _ _ _ _ (by omega)]; rfl
    · simp only [if_neg e]
      by_cases hle : (if (S.cp c).h.there = true then 1 + c * 26 + 13 else 1 + c * 26) ≤ i
      · rw [if_pos hle, List.getElem?_eq_none (by simp [fpV]; split at hle <;> split <;> omega)]; rfl
      · rw [if_neg hle]
/-- The frame that works is laid anew. -/
theorem PM.lay {w : World} {b : Nat} {ai : Option Addr} {ci : Nat} {lg : Nat → Nat} {its : List Wd.It} {S : Ma} (h : PM w b ai ci lg its S) (c : Nat) (hc : c < 3) (f : Fr) (o : Bool) (hh : (S.cp c).h.there = true → o = f.there) : PM (w.setCells b (if (S.cp c).h.there = true then 1 + c * 26 + 13 else 1 + c * 26) (fpV its lg f o)) b ai ci lg its (layP S c f o) := by
  refine h.upd ((KP.refl b ai w).sets _ _) ?_ ?_
  · exact (Blk.sets _ _ _ _ h.root).congr fun i hi => pm_lay (w := w) (b := b) c hc f o hh i hi
  · intro g hl hg
    obtain ⟨g', e1, e2, e3⟩ := h.items hl
    rw [hg] at e1; cases e1
    exact (e2.setsO e3 _ _).congr fun i hi => rfl
theorem frm_put {w : World} {g : Nat} {t : TypeId} {its : List Wd.It} {lg : Nat → Nat} {f : Fr} {o : Bool} (h : Row w g (frmA its lg f o) t) (p h' : Nat) (o' : Bool) : Row (w.setCells g 5 (stA p h' o').toList) g (frmA its lg { f with pos := p, held := h' } o') t := by
  have := Row.sets (stA p h' o').toList 5 w _ h
  simpa [setsA, stA, frmA, fpV, fb, fl] using this
theorem frm_no (its : List Wd.It) (lg : Nat → Nat) : frmA its lg noFr false = #[.bool false, .int .i64 0, .bool false, .string ⟨#[]⟩, .slice none 0 0, .int .i64 0, .bool false, .bool false, .bool false, .bool false, .bool false, .bool false, .bool false] := rfl
/-- What hinders, in both words. -/
theorem ringI_leads {its : List Wd.It} {S : Ma} (ho : ItsOK its) (hi : Inv its 3 S) (c : Nat) : ∀ (m : Nat) (l : Int), ringI its S c m l = leadsTo its S c m (hold3 S l)
  | 0, l => by cases hold3 S l <;> rfl
  | m + 1, l => by
    unfold ringI
    cases hl : hold3 S l with
    | none =>
      simp only [leadsTo]
      rw [ringI_leads ho hi c m (-1)]
      have : hold3 S (-1) = none := rfl
      rw [this]
      cases m <;> rfl
    | some d =>
      simp only [leadsTo]
      by_cases e : d = c
      · simp [e]
      · simp only [e, if_false]
        rw [ringI_leads ho hi c m]
        congr 1
        have hf := works_fr hi d (hold3_lt hl)
        unfold wantF nx wantsF
        rcases atF_stands hf with ⟨h1, h2, h3⟩ | ⟨h1, h2⟩
        · rw [h2]
          by_cases e43 : stands its (works S d) = 43
          · rw [if_pos e43, if_pos e43]
            have ha : atB (bodyOf its (works S d).item) (works S d).pos = 43 := by rw [← e43, ← h2, atF, h3]
            have hn := num_lock' ho (hf.item h1) (Or.inl ha)
            have hnn : 0 ≤ num (bodyOf its (works S d).item) (works S d).pos := (num_lockB (ho.pair _ (hf.item h1)) (Or.inl ha)).1
            unfold numF numP hold3
            rw [h3, if_pos (Or.inl ha), if_pos hnn]; rfl
          · rw [if_neg e43, if_neg e43]; rfl
        · rw [h1, h2]; rfl
theorem hindI_eq {its : List Wd.It} {S : Ma} (ho : ItsOK its) (hi : Inv its 3 S) (c : Nat) {f : Fr} {hd : Bool} (hf : FrOK its hd f) (hth : f.there = true) : hindI its S c f = hindP its S c f := by
  have hb : fb its f = bodyOf its f.item := fb_there hth
  have hA : atF its f = atB (bodyOf its f.item) f.pos := by rw [atF, hb]
  unfold hindI hindP
  rw [hA]
  by_cases e : atB (bodyOf its f.item) f.pos = 43
  · rw [if_pos e, if_pos e]
    have hnn : 0 ≤ num (bodyOf its f.item) f.pos := (num_lockB (ho.pair _ (hf.item hth)) (Or.inl e)).1
    have hN : numF its f = num (bodyOf its f.item) f.pos := by unfold numF numP; rw [hb, if_pos (Or.inl e)]
    have h3 : hold3 S (numF its f) = holder S 3 (num (bodyOf its f.item) f.pos).toNat := by rw [hN, hold3, if_pos hnn]
    unfold waitI waitP
    rw [ringI_leads ho hi, h3]
    cases holder S 3 (num (bodyOf its f.item) f.pos).toNat <;> rfl
  · rw [if_neg e, if_neg e]
    by_cases e2 : atB (bodyOf its f.item) f.pos = 114 ∨ atB (bodyOf its f.item) f.pos = 119
    · rw [if_pos e2, if_pos e2]
      have hN : numF its f = num (bodyOf its f.item) f.pos := by unfold numF numP; rw [hb, if_pos (by omega)]
      rw [hN]; rfl
    · rw [if_neg e2, if_neg e2]
theorem sits_stands {its : List Wd.It} (hf : Fine its) {f : Fr} (hs : Sits its f) (hth : f.there = true) (hi : f.item < its.length) : Stands (atB (bodyOf its f.item) f.pos) := by
  have hp := hs hth
  unfold Stands
  by_cases e : f.pos < (bodyOf its f.item).length
  · have hk := hp.kind (hf.bd _ hi) (hf.noUp _ hi) e
    have ha : atB (bodyOf its f.item) f.pos = Wd.at_ (bodyOf its f.item) f.pos := by simp [atB, e]
    rw [ha]
    unfold head4 sole at hk
    omega
  · have ha : atB (bodyOf its f.item) f.pos = 101 := by simp [atB, e]
    omega
end Go.Proofs.Ytecmfdkhcffpmaa
