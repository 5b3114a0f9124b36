/- RefJ, RefK, DocE. -/
import Derived.Test.YtecmfdkhcffpmaaB15
import Derived.Test.YtecmfdkhcffpmaaB05
import Derived.Test.YtecmfdkhcffpmaaB20
import Derived.Test.YtecmfdkhcffpmaaB35
import Derived.OwnWalk
import Derived.Test.YtecmfdkhcffpmaaB18
import Derived.Test.YtecmfdkhcffpmaaB06
/- Contract of the document's 'unfolded'. -/
namespace Go.Proofs.Ytecmfdkhcffpmaa
open Go.RowKit
set_option linter.unusedSimpArgs false
set_option linter.unusedVariables false
set_option maxHeartbeats 800000

set_option maxRecDepth 100000 in
set_option maxHeartbeats 2000000 in
theorem unfolded_any (s t : ByteArray) (of : Nat → Int) (w : World) (hs : s.size ≤ 10000) (ho : ∀ j, 0 ≤ of j ∧ of j ≤ 301) (hH : ∀ c : Int, Wd.up c = true → 0 < of (c - 65).toNat → ∃ i, Wd.head s.data.toList c = some i) (hB : ∀ p, p ≤ 8 → (Wd.passN s.data.toList of t.data.toList p).length ≤ 100000) :
    Calls Try.prog 51 #[.string s, .string t, .agg (Wd.arr8 of)] w fun e w' => ∃ u : ByteArray, e = .returned (.string u) ∧ u.data.toList = Wd.passN s.data.toList of t.data.toList 8 ∧ Below w.heap.size w w' := by
  have HO := hide ho
  have HH := hide hH
  have HB := hide hB
  clear ho hH hB
  unfold Wd.arr8
  go_enter Try.func51, Try.ntmps51
  go_wp2
  have hN := heap_alloc_last w (.cells (Wd.arr8 of) 75)
  have hbe0 : Below w.heap.size w (w.alloc (.cells (Wd.arr8 of) 75)) := (Below.refl _ _).alloc (Nat.le_refl _) _
  rw [show (w.alloc (.cells #[.int .i64 (of 0), .int .i64 (of 1), .int .i64 (of 2), .int .i64 (of 3), .int .i64 (of 4), .int .i64 (of 5), .int .i64 (of 6), .int .i64 (of 7)] 75)) = w.alloc (.cells (Wd.arr8 of) 75) from rfl]
  generalize w.alloc (.cells (Wd.arr8 of) 75) = W at *
  have HN := hide hN
  have HB0 := hide hbe0
  clear hN hbe0
  go_loop [1, 7] (fun a b => ∃ (k : Nat) (u : ByteArray), k ≤ 8 ∧ b = .int .i64 k ∧ a = .string u ∧ u.data.toList = Wd.passN s.data.toList of t.data.toList k) (fun _ b => 8 - (intOf b).toNat)
  case atStart => exact ⟨0, t, by omega, rfl, rfl, rfl⟩
  case round =>
    obtain ⟨k, u, hk, rfl, rfl, hu⟩ := hrel
    have HU := hide hu
    clear hu
    by_cases hlt : k < 8
    · have hus : u.size ≤ 100000 := by rw [← Wd.len_str, HU.out]; exact HB.out k hk
      have hps : (Wd.pass s.data.toList of u.data.toList).length ≤ 100000 := by
        have := HB.out (k + 1) (by omega)
        rw [Wd.passN, ← HU.out] at this; exact this
      go_wp2_with fail
      go_loop [8, 9] (fun a b => ∃ (i : Nat) (o : ByteArray), i ≤ u.size ∧ b = .int .i64 i ∧ a = .string o ∧ o.data.toList = Wd.pass s.data.toList of (u.data.toList.take i)) (fun _ b => u.size - (intOf b).toNat)
      case atStart => exact ⟨0, ⟨#[]⟩, Nat.zero_le _, rfl, rfl, rfl⟩
      case round =>
        obtain ⟨i, o, hi, rfl, rfl, ho⟩ := hrel
        have HOO := hide ho
        have hos : o.size ≤ 100000 := by
          rw [← Wd.len_str, HOO.out]
          have := Wd.pass_take s.data.toList of u.data.toList i
          omega
        clear ho
        by_cases hil : i < u.size
        · have HS := hide (Wd.pass_snoc s.data.toList of u i hil)
          have b0 := Wd.at_lo u.data.toList i
          have b1 := Wd.at_hi u.data.toList i
          rw [← Wd.at_str u i hil] at b0 b1
          cases hup : Wd.up ((u[i].toNat : Nat) : Int)
          · have HC : Hid (Wd.passC s.data.toList of u[i] = [u[i]]) := by
              have : Wd.up (Wd.bt u[i]) = false := hup
              simp [Hid, Wd.passC, this]
            go_wp2_with (go_at_call 73; refine (upper_any _ _ b0 b1).mono ?_; rw [hup]; rintro e w' ⟨rfl, rfl⟩)
            refine ⟨⟨i + 1, _, by omega, by go_num, rfl, ?_⟩, by simp [intOf]; omega⟩
            rw [HS.out, HC.out, ← HOO.out]
            simp only [ByteArray.data_append, Array.toList_append, Wd.extract_str]
            congr 1
            rw [Nat.add_sub_cancel_left, Wd.drop_cons u i hil]; rfl
          · have hu' := hup
            simp [Wd.up] at hu'
            have HUP : Hid (Wd.up (Wd.bt u[i]) = true) := hup
            have hidx : Hid ((Wd.bt u[i] - 65).toNat = u[i].toNat - 65) := by apply hide; unfold Wd.bt; omega
            have ho' := HO.out (u[i].toNat - 65)
            have c1 := row_cell HN.out (Wd.arr8_at of (u[i].toNat - 65) (by omega))
            by_cases hg : 0 < of (u[i].toNat - 65)
            · obtain ⟨h, hh⟩ := HH.out ((u[i].toNat : Nat) : Int) hup (by rw [show (((u[i].toNat : Nat) : Int) - 65).toNat = u[i].toNat - 65 from by omega]; exact hg)
              have hhs : h + 2 ≤ s.size := by have := (Wd.head_some hh).1; rw [Wd.len_str] at this; omega
              have HC : Hid (Wd.passC s.data.toList of u[i] = Wd.body s.data.toList h) := by
                have e1 : Wd.head s.data.toList (Wd.bt u[i]) = some h := hh
                simp [Hid, Wd.passC, HUP.out, hidx.out, hg, e1]
              have HHD : Hid (Wd.toInt (Wd.head s.data.toList ((u[i].toNat : Nat) : Int)) = (h : Int)) := by rw [hh]; rfl
              have HLB : Hid (Wd.pass s.data.toList of (u.data.toList.take (i + 1)) = Wd.pass s.data.toList of (u.data.toList.take i) ++ Wd.body s.data.toList h) := by rw [HS.out, HC.out]; rfl
              have hlb : o.size + (Wd.body s.data.toList h).length ≤ 100000 := by
                rw [← Wd.len_str, HOO.out, ← List.length_append, ← HLB.out]
                have := Wd.pass_take s.data.toList of u.data.toList (i + 1)
                omega
              clear hh
              go_wp2_with (first | (go_at_call 73; refine (upper_any _ _ b0 b1).mono ?_; rw [hup]; rintro e w' ⟨rfl, rfl⟩) | (go_at_call 77; refine (head_any _ _ _ (by omega) b0 b1).mono ?_; rw [HHD.out]; rintro e w' ⟨rfl, rfl⟩) | (go_at_call 49; refine (body_any s h _ (by omega) hhs).mono ?_; rintro e w' ⟨tt, rfl, htt, htts, rfl⟩; have htl : tt.size = (Wd.body s.data.toList h).length := by rw [← Wd.len_str, htt]))
              refine ⟨⟨i + 1, _, by omega, by go_num, rfl, ?_⟩, by simp [intOf]; omega⟩
              rw [HLB.out, ← HOO.out, ← htt]
              simp
            · have HC : Hid (Wd.passC s.data.toList of u[i] = []) := by
                simp [Hid, Wd.passC, HUP.out, hidx.out, hg]
              go_wp2_with (first | (go_at_call 73; refine (upper_any _ _ b0 b1).mono ?_; rw [hup]; rintro e w' ⟨rfl, rfl⟩))
              refine ⟨⟨i + 1, o, by omega, by go_num, rfl, ?_⟩, by simp [intOf]; omega⟩
              rw [HS.out, HC.out, ← HOO.out]; simp
        · go_wp2
          refine ⟨⟨k + 1, o, by omega, by go_num, rfl, ?_⟩, by simp [intOf]; omega⟩
          rw [HOO.out, Wd.passN, ← HU.out, List.take_of_length_le (by rw [Wd.len_str]; omega)]
    · go_wp2
      go_ret
      obtain rfl : k = 8 := by omega
      exact ⟨u, rfl, HU.out, HB0.out⟩
end Go.Proofs.Ytecmfdkhcffpmaa
/- Contract of the document's 'Unfold'. -/
namespace Go.Proofs.Ytecmfdkhcffpmaa
open Go.RowKit
set_option linter.unusedSimpArgs false
set_option linter.unusedVariables false
set_option maxHeartbeats 800000

theorem refUnfold_no (s : ByteArray) (w : World) (hs : s.size ≤ maxLen) (hne : (Wd.checkR s.data.toList).1 ≠ 0) :
    Calls Try.prog 16 #[.string s] w fun e w' => e = .returned (.tuple #[.slice none 0 0, .int .i64 (Wd.checkR s.data.toList).1]) ∧ Below w.heap.size w w' := by
  have HX := hide (checkR_any s w hs)
  have hn : ((Wd.checkR s.data.toList).1 != 0) = true := by rw [bne_iff_ne]; exact hne
  clear hne
  generalize (Wd.checkR s.data.toList).1 = a at *
  generalize (Wd.checkR s.data.toList).2 = b at *
  go_enter Try.func16, Try.ntmps16
  go_wp2_with (go_at_call 15; refine HX.out.mono ?_; rintro e w' ⟨rfl, hb⟩)
  go_ret2
  exact ⟨rfl, hb⟩

set_option maxRecDepth 100000 in
set_option maxHeartbeats 2000000 in
theorem refUnfold_ok (s : ByteArray) (w : World) (hs : s.size ≤ 240) (hok : (Wd.checkR s.data.toList).1 = 0) (hL : ∀ i ∈ Wd.starts s.data.toList, ∀ p, p ≤ 8 → (Wd.passN s.data.toList (Wd.sizesN s.data.toList 8) (Wd.body s.data.toList i) p).length ≤ 100000) :
    Calls Try.prog 16 #[.string s] w fun e w' => ∃ v, e = .returned (.tuple #[v, .int .i64 0]) ∧ w'.ownsRow w.heap.size 31 2 v (Wd.unfoldR s.data.toList).length (Wd.itsV (Wd.unfoldR s.data.toList)) ∧ Below w.heap.size w w' := by
  have HX := checkR_any s w (by unfold maxLen; omega)
  rw [hok] at HX
  have HXX := hide HX
  have HL := hide hL
  clear HX hL hok
  generalize (Wd.checkR s.data.toList).2 = b at *
  obtain ⟨i0, hi, hz0, hz1, hz2⟩ := info_parts Try.info31
  have HUR : Hid (Wd.unfoldR s.data.toList = (Wd.starts s.data.toList).map (Wd.itemR s.data.toList)) := rfl
  go_enter Try.func16, Try.ntmps16
  go_wp2_with fail
  refine HXX.out.mono ?_
  rintro e w3 ⟨rfl, hb3⟩
  have HB3 := hide hb3
  clear hb3 HXX
  go_wp2_with fail
  refine (sizes_any s _ (by omega)).mono ?_
  rintro e w4 ⟨rfl, hb4⟩
  have HB4 := hide (HB3.out.trans (hb4.mono HB3.out.size))
  clear hb4 HB3
  go_wp2_with (refine wpList_store_row rfl 75 _ _ rfl _ _ rfl rfl 75 _ (heap_alloc_last _ _) Try.i33 rfl (Wd.arr8_one _) ?_)
  rw [World.setRow_alloc_new]
  go_wp2_with fail
  have a1 := hide (heap_alloc_last w4 (.cells (Wd.arr8 (Wd.sizesN s.data.toList 8)) 75))
  have a2 : Hid (Below w.heap.size w (w4.alloc (.cells (Wd.arr8 (Wd.sizesN s.data.toList 8)) 75))) := HB4.out.alloc HB4.out.size _
  generalize w4.alloc (.cells (Wd.arr8 (Wd.sizesN s.data.toList 8)) 75) = W at *
  generalize w4.heap.size = N at *
  clear HB4
  refine (starts_any s _ (by omega)).mono ?_
  rintro e w5 ⟨v, rfl, hown, hb5⟩
  obtain ⟨ao, cap, rfl, hnc, hcap, hlen, hcell⟩ := own_shape hown
  have A1 := hide (below_row hb5 a1.out)
  have A2 := hide (a2.out.trans (hb5.mono a2.out.size))
  have HCL := hide hcell
  have hln := Wd.startsTo_len s.data.toList s.data.toList.length
  rw [show Wd.startsTo s.data.toList s.data.toList.length = Wd.starts s.data.toList from rfl, Wd.len_str] at hln
  unfold maxLen at hcap
  clear a1 a2 hown hb5 hcell hlen
  generalize hn : (Wd.starts s.data.toList).length = n at *
  have HN := hide hn
  clear hn
  go_wp2_with fail
  go_loopw [8, 9] (fun a b wr => ∃ k : Nat, k ≤ n ∧ b = .int .i64 k ∧ Below w5.heap.size w5 wr ∧ wr.ownsRow w5.heap.size 31 2 a ((Wd.unfoldR s.data.toList).take k).length (Wd.itsV ((Wd.unfoldR s.data.toList).take k))) (fun _ b _ => n - (intOf b).toNat)
  case atStart => exact ⟨0, by omega, rfl, Below.refl _ _, World.ownsRow_nil _ _ _ _⟩
  case round =>
    obtain ⟨k, hk, rfl, hbe, hO⟩ := hrel
    have HB := hide hbe
    have HO := hide hO
    clear hbe hO
    by_cases hkl : k < n
    · have hget : (Wd.starts s.data.toList)[k]? = some ((Wd.starts s.data.toList).getD k 0) := by
        rw [List.getD_eq_getElem?_getD, List.getElem?_eq_getElem (by rw [HN.out]; exact hkl)]; rfl
      obtain ⟨g, rfl, hc1, hg1, hg2⟩ := HCL.out k (.int .i64 (((Wd.starts s.data.toList).getD k 0 : Nat) : Int)) (by simp only [Wd.intsV, List.getElem?_map, hget]; rfl)
      have hmem := List.mem_of_getElem? hget
      have hst : (Wd.starts s.data.toList).getD k 0 + 2 ≤ s.size := by
        have := Wd.starts_mem hmem
        rw [Wd.len_str] at this; omega
      have HLx := hide (HL.out _ hmem)
      have HTK : Hid ((Wd.unfoldR s.data.toList).take (k + 1) = (Wd.unfoldR s.data.toList).take k ++ [Wd.itemR s.data.toList ((Wd.starts s.data.toList).getD k 0)]) := by
        apply hide
        rw [List.take_add_one, HUR.out, List.getElem?_map, hget]; rfl
      have htl : ((Wd.unfoldR s.data.toList).take k).length ≤ 240 := by
        rw [HUR.out]; simp; omega
      generalize hx : (Wd.starts s.data.toList).getD k 0 = x at *
      have c1 := (HB.out.cell (p := ⟨g, k, none⟩) hg2).trans hc1
      have HO1 := hide (below_row HB.out A1.out)
      have hxs : x < s.size := by omega
      have HAT := hide (Wd.at_str s x hxs)
      have b0 := Wd.at_lo s.data.toList x
      have b1 := Wd.at_hi s.data.toList x
      rw [← HAT.out] at b0 b1
      clear hx hc1 hget hmem
      go_wp2_with fail
      refine (body_any s x _ (by omega) hst).mono ?_
      rintro e w6 ⟨t, rfl, ht, hts, rfl⟩
      have HT := hide ht
      clear ht
      go_wp2_with (refine wpList_load_row rfl 75 _ rfl _ rfl 75 _ (0, 0) _ HO1.out Try.underlying75 rfl Try.i33 ?_)
      refine (unfolded_any s t _ _ (by omega) (Wd.sizesN_bd _ 8) (Wd.sizesN_head _) (by rw [HT.out]; exact HLx.out)).mono ?_
      rintro e w7 ⟨u, rfl, hu, hb7⟩
      have HU := hide hu
      have HB7 := hide (HB.out.trans (hb7.mono HB.out.size))
      have c2 := (HB7.out.cell (p := ⟨g, k, none⟩) hg2).trans (((HB.out.cell (p := ⟨g, k, none⟩) hg2).symm.trans c1))
      have HO7 := hide (own_below HO.out hb7)
      have c2' : ∀ o, (w7.alloc o).cell? ⟨g, k, none⟩ = some (.int .i64 (x : Int)) := fun o => by rw [World.cell?_alloc_past _ _ _ (World.block_lt_of_cell? w7 _ c2)]; exact c2
      clear hu hb7 c1
      go_wp2_with (at_builtin; refine wpList_append_own _ rfl _ _ 26 rfl w5.heap.size 31 i0 (.agg #[.bool false, .string ByteArray.empty]) 2 24 Try.underlying26 hi hz0 hz1 hz2 rfl (by decide) _ _ _ rfl (HO7.out.alloc _) ⟨_, 0, none⟩ 1 1 [.bool (((s[x].toNat : Nat) : Int) == 104), .string u] rfl rfl (cell_two_new _ _ _ _) (fun y hy => by simp at hy; rcases hy with rfl | rfl <;> rfl) (by unfold maxLen; omega) (by omega) (by have := HB7.out.size; simp; omega) ?_; intro v' w8 hown' hgrow3 hnil3; have HG := hide hgrow3; have HW := hide hown'; clear hgrow3 hown' hnil3)
      refine ⟨⟨k + 1, by omega, by go_num, (HB7.out.alloc HB7.out.size _).grown HG.out (by have := HB7.out.size; simp; omega) (fun q hq => (HO7.out.lt q hq).1), ?_⟩, by simp [intOf]; omega⟩
      rw [HTK.out, Wd.itsV_snoc, List.length_append]
      have e1 : Wd.itV (Wd.itemR s.data.toList x) = [.bool (((s[x].toNat : Nat) : Int) == 104), .string u] := by
        simp only [Wd.itV, Wd.itemR, ← HAT.out, ← HT.out, ← HU.out, Wd.mkS_of]
      rw [e1]
      exact HW.out
    · go_wp2_with fail
      go_ret2
      refine ⟨_, rfl, ?_, A2.out.trans (HB.out.mono A2.out.size)⟩
      obtain rfl : k = n := by omega
      have e : (Wd.unfoldR s.data.toList).take k = Wd.unfoldR s.data.toList := List.take_of_length_le (by rw [HUR.out]; simp [HN.out])
      have := HO.out
      rw [e] at this
      exact own_mono this A2.out.size
end Go.Proofs.Ytecmfdkhcffpmaa
/- Contracts of the document's states: what is known of a source. -/
namespace Go.Proofs.Ytecmfdkhcffpmaa
open Go.RowKit
set_option linter.unusedSimpArgs false
set_option linter.unusedVariables false
set_option maxHeartbeats 8000000
open Mc

/-- What the document's Unfold leaves. -/
def DUPost (w : World) (r : Except (Int × Int) (List Wd.It)) (e : Ending) (w' : World) : Prop :=
  Below w.heap.size w w' ∧ (match r with
    | .ok its => ∃ ao cc, e = .returned (.tuple #[.slice ao its.length cc, .int .i64 0]) ∧ w'.ownsRow w.heap.size 31 2 (.slice ao its.length cc) its.length (Wd.itsV its)
    | .error x => e = .returned (.tuple #[.slice none 0 0, .int .i64 x.1]))
theorem dUnfold_any (s : ByteArray) (w : World) (hs : s.size ≤ maxLen) : Calls Try.prog 16 #[.string s] w (DUPost w (Wd.readP s.data.toList)) := by
  cases hr : Wd.readP s.data.toList with
  | ok its =>
    obtain ⟨g1, g2, g3, g4⟩ := Wd.readP_good hr
    have hok : (Wd.checkR s.data.toList).1 = 0 := by rw [← Wd.check_same, Wd.checkP, hr]
    have h240 : s.size ≤ 240 := by rw [← Wd.len_str]; exact g1
    refine (refUnfold_ok s w h240 hok g4).mono ?_
    rintro e w' ⟨v, rfl, hown, hb⟩
    rw [← g2] at hown
    obtain ⟨ao, cc, rfl⟩ := own_v hown
    exact ⟨hb, ao, cc, rfl, hown⟩
  | error x =>
    have hc : (Wd.checkR s.data.toList).1 = x.1 := by rw [← Wd.check_same, Wd.checkP, hr]
    have hx := Wd.readP_err hr
    have h := refUnfold_no s w hs (by rw [hc]; exact hx)
    rw [hc] at h
    refine h.mono ?_
    rintro e w' ⟨rfl, hb⟩
    exact ⟨hb, rfl⟩
/-- The states of an item, in memory. -/
structure Dk where
  go : Nat
  n1 : Nat
  cap : Nat
  gs : Nat → Nat
def dkV (d : Dk) : List Value := [.slice (some ⟨d.go, 0, none⟩) d.n1 d.cap]
theorem dkV_len (d : Dk) : (dkV d).length = 1 := rfl
structure DkIn (w : World) (hd : Bool) (b : List UInt8) (d : Dk) : Prop where
  dt : DT w d.go d.gs b.length (inDb hd b)
  n1 : d.n1 = b.length + 1
theorem DkIn.below {w w' : World} {hd : Bool} {b : List UInt8} {d : Dk} (h : DkIn w hd b d) (hb : Below w.heap.size w w') : DkIn w' hd b d := ⟨h.dt.below hb, h.n1⟩
/-- All that is known, in memory. -/
structure DkAll (w : World) (its : List Wd.It) (iv dv : Value) (D : List Dk) : Prop where
  items : w.ownsRow 0 31 2 iv its.length (its.flatMap Wd.itV)
  own : w.ownsRow 0 139 1 dv D.length (D.flatMap dkV)
  each : ∀ i d, D[i]? = some d → DkIn w (isH its i) (bodyOf its i) d
  len : D.length = its.length
  fine : Fine its
theorem DkAll.below {w w' : World} {its : List Wd.It} {iv dv : Value} {D : List Dk} (h : DkAll w its iv dv D) (hb : Below w.heap.size w w') : DkAll w' its iv dv D := ⟨own_belowZ h.items hb, own_belowZ h.own hb, fun i d hd => (h.each i d hd).below hb, h.len, h.fine⟩
/-- While it is gathered. -/
structure DkI (w W : World) (its : List Wd.It) (v : Value) (D : List Dk) : Prop where
  own : W.ownsRow w.heap.size 139 1 v D.length (D.flatMap dkV)
  each : ∀ i d, D[i]? = some d → DkIn W (isH its i) (bodyOf its i) d ∧ v.ownBlock ≠ some d.go ∧ ∀ p, p ≤ (bodyOf its i).length → v.ownBlock ≠ some (d.gs p)
  b : Below w.heap.size w W
theorem DkI.push {w W W1 W' : World} {its : List Wd.It} {v v' : Value} {D : List Dk} {d : Dk} {o : Obj} (h : DkI w W its v D) (hb1 : Below W.heap.size W W1) (hin : DkIn W1 (isH its D.length) (bodyOf its D.length) d) (h1 : W.heap.size ≤ d.go) (h2 : ∀ p, p ≤ (bodyOf its D.length).length → W.heap.size ≤ d.gs p) (ho : W'.ownsRow w.heap.size 139 1 v' (D ++ [d]).length ((D ++ [d]).flatMap dkV)) (hb : Below w.heap.size (W1.alloc o) W') (hs : ∀ j, j < (W1.alloc o).heap.size → v.ownBlock ≠ some j → W'.heap[j]? = (W1.alloc o).heap[j]?) (hat : v'.ownBlock = v.ownBlock ∨ v'.ownBlock = some (W1.alloc o).heap.size) : DkI w W' its v' (D ++ [d]) := by
  have hz := h.b.size
  have hz1 := hb1.size
  have key : ∀ (hd : Bool) (b : List UInt8) (x : Dk), DkIn W1 hd b x → v.ownBlock ≠ some x.go → (∀ p, p ≤ b.length → v.ownBlock ≠ some (x.gs p)) → DkIn W' hd b x ∧ v'.ownBlock ≠ some x.go ∧ ∀ p, p ≤ b.length → v'.ownBlock ≠ some (x.gs p) := by
    intro hd b x hx n1 n2
    have hl := hx.dt.out.lt
    have hl2 := fun p hp => (hx.dt.inn p hp).lt
    have hsame : ∀ j, j < W1.heap.size → v.ownBlock ≠ some j → W'.heap[j]? = W1.heap[j]? := fun j hj hn => by rw [hs j (by simp; omega) hn, heap_alloc_old _ _ hj]
    have hnew : ∀ j, j < W1.heap.size → v.ownBlock ≠ some j → v'.ownBlock ≠ some j := fun j hj hn e => by
      rcases hat with a | a
      · rw [a] at e; exact hn e
      · rw [a] at e; injection e with e; simp at e; omega
    exact ⟨⟨⟨hx.dt.out.same (hsame _ hl n1), fun p hp => (hx.dt.inn p hp).same (hsame _ (hl2 p hp) (n2 p hp)), hx.dt.inj, hx.dt.ne⟩, hx.n1⟩, hnew _ hl n1, fun p hp => hnew _ (hl2 p hp) (n2 p hp)⟩
  refine ⟨ho, fun i x hx => ?_, ((h.b.trans (hb1.mono (by omega))).alloc (by omega) o).trans hb⟩
  by_cases hl : i < D.length
  · rw [List.getElem?_append_left hl] at hx
    obtain ⟨a1, a2, a3⟩ := h.each i x hx
    exact key _ _ x (a1.below hb1) a2 a3
  · rw [List.getElem?_append_right (by omega)] at hx
    have e : i - D.length = 0 := by
      by_cases e : i - D.length = 0
      · exact e
      · rw [List.getElem?_eq_none (by simp; omega)] at hx; cases hx
    rw [e] at hx
    cases hx
    have ei : i = D.length := by omega
    subst ei
    have hlow : ∀ j, W.heap.size ≤ j → v.ownBlock ≠ some j := fun j hj e => by have := (own_lt0' h.own e).2; omega
    exact key _ _ d hin (hlow _ h1) (fun p hp => hlow _ (h2 p hp))
theorem Try.infoBB : (Try.prog.info? 139).map (fun i => (i.zero, i.size, i.bytes)) = some (some (.slice none 0 0), 1, 24) := by kernel_rfl
theorem items_cells {w : World} {base : Nat} {v : Value} {its : List Wd.It} (h : w.ownsRow base 31 2 v its.length (its.flatMap Wd.itV)) {k : Nat} (hk : k < its.length) : ∃ g cap, v = .slice (some ⟨g, 0, none⟩) its.length cap ∧ g < w.heap.size ∧ w.cell? ⟨g, k * 2, none⟩ = some (.bool (isH its k)) ∧ w.cell? ⟨g, k * 2 + 1, none⟩ = some (.string (Wd.mkS (bodyOf its k))) := by
  obtain ⟨g, cap, hv, hb, hlt, h1, h2, hr⟩ := own_el (f := Wd.itV) (n := 2) (L := its) (fun _ => rfl) h (i := k) (r := its[k]) (List.getElem?_eq_getElem hk)
  have e1 : isH its k = its[k].handler := by simp [isH, List.getD, hk]
  have e2 : bodyOf its k = its[k].body := by simp [bodyOf, List.getD, hk]
  rw [e1, e2]
  exact ⟨g, cap, hv, hlt, hr 0 _ rfl, hr 1 _ rfl⟩
/-- What 'known' leaves. -/
def KPost (w : World) (r : Except (Int × Int) (List Wd.It)) (e : Ending) (w' : World) : Prop :=
  Below w.heap.size w w' ∧ (match r with
    | .ok its => ∃ ia ic da dc D, e = .returned (.tuple #[.slice ia its.length ic, .slice da its.length dc, .int .i64 0]) ∧ DkAll w' its (.slice ia its.length ic) (.slice da its.length dc) D
    | .error x => e = .returned (.tuple #[.slice none 0 0, .slice none 0 0, .int .i64 x.1]))
set_option maxRecDepth 100000 in
theorem known_err (s : ByteArray) (w : World) (x : Int × Int) (hs : s.size ≤ maxLen) (hread : Wd.readP s.data.toList = .error x) : Calls Try.prog 59 #[.string s] w (KPost w (.error x)) := by
  have hx := Wd.readP_err hread
  have HX := dUnfold_any s w hs
  rw [hread] at HX
  have HXX := hide HX
  clear HX hread
  go_enter Try.func59, Try.ntmps59
  go_wp2_with (go_at_call 16; refine HXX.out.mono ?_; rintro e w1 ⟨hb1, rfl⟩; have HB1 := hide hb1; clear hb1)
  go_ret3
  exact ⟨HB1.out, rfl⟩
set_option maxRecDepth 100000 in
theorem known_ok (s : ByteArray) (w : World) (its : List Wd.It) (hs : s.size ≤ maxLen) (hread : Wd.readP s.data.toList = .ok its) : Calls Try.prog 59 #[.string s] w (KPost w (.ok its)) := by
  have HF := hide (fine_of hread)
  have HX := dUnfold_any s w hs
  rw [hread] at HX
  have HXX := hide HX
  clear HX hread
  have hl8 := HF.out.len
  obtain ⟨i0, hj0, hz0, hz1, hz2⟩ := info_parts Try.infoBB
  go_enter Try.func59, Try.ntmps59
  go_wp2_with (go_at_call 16; refine HXX.out.mono ?_; rintro e w1 ⟨hb1, ia, ic, rfl, hown1⟩; have HB1 := hide hb1; have HO1 := hide hown1; clear hb1 hown1)
  have HD0 : Hid (DkI w1 w1 its (.slice none 0 0) []) := hide ⟨World.ownsRow_nil _ _ _ _, fun i d hd => (by cases hd), Below.refl _ _⟩
  go_loopw [7, 8] (fun a c wr => ∃ (i : Nat) (D : List Dk), i ≤ its.length ∧ D.length = i ∧ c = .int .i64 i ∧ DkI w1 wr its a D) (fun _ c _ => its.length - (intOf c).toNat)
  case atStart => exact ⟨0, [], by omega, rfl, rfl, HD0.out⟩
  case round =>
    clear HD0
    obtain ⟨i, D, hi, hDl, rfl, hdk⟩ := hrel
    subst hDl
    have HD := hide hdk
    clear hdk
    obtain ⟨ao, cc, hv⟩ := own_v HD.out.own
    subst hv
    by_cases hlt : D.length < its.length
    · obtain ⟨g0, cap0, hv0, hg0, d0, d1⟩ := items_cells HO1.out hlt
      cases hv0
      have c0 : wr.cell? ⟨g0, D.length * 2, none⟩ = some (.bool (isH its D.length)) := by rw [HD.out.b.cell (by exact hg0)]; exact d0
      have c1 : wr.cell? ⟨g0, D.length * 2 + 1, none⟩ = some (.string (Wd.mkS (bodyOf its D.length))) := by rw [HD.out.b.cell (by exact hg0)]; exact d1
      have AS := hide (states_any (isH its D.length) (bodyOf its D.length) wr (HF.out.gb hlt))
      have hi0 : (0 : Int) ≤ (D.length : Int) := by omega
      have hsz := HD.out.b.size
      have hbl : (bodyOf its D.length).length ≤ 300 := HF.out.short _ hlt
      clear d0 d1
      go_wp2_with (first | (at_builtin; refine wpList_push (f := dkV) dkV_len rfl _ _ 86 rfl w1.heap.size 139 i0 _ 24 Try.underlying86 hj0 hz0 hz1 hz2 rfl (by decide) _ D ⟨go, n1, cap, gs⟩ rfl ⟨_, 0, none⟩ rfl ?_ ?_ ?_ ?_ ?_ ?_ ?_; (exact HOW.out.alloc _); (exact newsL _ _ _); (intro x hx; simp [dkV] at hx; subst hx; rfl); (unfold maxLen; omega); (omega); (simp; omega); intro ao' cc' w5 hown' hbel' hsame' hat'; have HO5 := hide hown'; have HBL5 := hide hbel'; have HS5 := hide hsame'; have HAT5 := hide hat'; clear hown' hbel' hsame' hat') | (go_at_call 90; refine (AS.out).mono ?_; rintro e w2 ⟨go, cap, gs, rfl, hgo, hgs, hdt, hb2⟩; have HB2 := hide hb2; have HDT := hide hdt; have HGO := hide hgo; have HGS := hide hgs; have HOW := hide (own_same HD.out.own (fun j _ hl => hb2.block j hl)); have hz2' := hb2.size; obtain ⟨n1, hn1⟩ : ∃ n1, (bodyOf its D.length).length + 1 = n1 := ⟨_, rfl⟩; rw [hn1]; have HN1 := hide hn1; clear hb2 hdt hgo hgs hn1))
      go_round
      case measure => simp [intOf]; omega
      case rel => exact ⟨D.length + 1, D ++ [⟨go, n1, cap, gs⟩], by omega, by simp, by go_num, HD.out.push HB2.out ⟨HDT.out, HN1.out.symm⟩ HGO.out HGS.out HO5.out HBL5.out HS5.out HAT5.out⟩
    · have e : D.length = its.length := by omega
      have HE : Hid (DkAll wr its (.slice ia its.length ic) (.slice ao D.length cc) D) := hide ⟨own_belowZ (own_mono HO1.out (Nat.zero_le _)) HD.out.b, own_mono HD.out.own (Nat.zero_le _), fun i d hd => (HD.out.each i d hd).1, e, HF.out⟩
      rw [e] at HE
      have HEE := hide e
      clear e
      go_wp2
      go_ret3
      exact ⟨below_go HB1.out HD.out.b, ia, ic, ao, cc, D, by rw [← HEE.out]; rfl, HE.out⟩
theorem known_any (s : ByteArray) (w : World) (hs : s.size ≤ maxLen) : Calls Try.prog 59 #[.string s] w (KPost w (Wd.readP s.data.toList)) := by
  cases hr : Wd.readP s.data.toList with
  | ok its => exact known_ok s w its hs hr
  | error x => exact known_err s w x hs hr
end Go.Proofs.Ytecmfdkhcffpmaa
