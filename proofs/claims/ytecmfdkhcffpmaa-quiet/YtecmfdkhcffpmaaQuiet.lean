/- For all raw parts, first locks, processors and scripts, wardenkeep.Quiet returns true: of a program woven carefully there is no report, each edge leads upwards, and nothing goes wrong (P8, P10). No condition. -/
import Derived.Test.YtecmfdkhcffpmaaRows
import Derived.Test.YtecmfdkhcffpmaaB45
import Derived.Test.YtecmfdkhcffpmaaKwT
import Derived.Test.YtecmfdkhcffpmaaKwAa
namespace Go.Proofs.Ytecmfdkhcffpmaa
open Go.ChangeShapes Go.WideShapes Go.ChangeAt Go.RowKit
open Go.ChangeMaps (open_string shut_string)
set_option linter.unusedVariables false
open Wd Mc

theorem Try.ownQ : ownKnob Try.prog.godebug = none := by kernel_rfl
theorem car_step (first most : Nat) (ps : List Pt) (n k : Nat) (hk : k < ps.length) (hn : k < n) (rs : List (UInt8 × List UInt8)) : carFrom first most ((ps.take n).drop k) rs =
    if (flat rs).length + 3 ≤ most then carFrom first most ((ps.take n).drop (k + 1)) (rs ++ [(letterOf ps[k].handler, sgs (carefulP ps[k].handler first (most - (flat rs).length - 3) ps[k].steps))]) else carFrom first most ((ps.take n).drop (k + 1)) rs := by
  have hl : k < (ps.take n).length := by simp; omega
  rw [List.drop_eq_getElem_cons hl, carFrom]
  simp only [List.getElem_take]
set_option maxRecDepth 100000 in
set_option maxHeartbeats 8000000 in
theorem quiet_walk (v : Value) (ps : List Pt) (fi cpus : Int) (raw : ByteArray) (hr : raw.size ≤ maxLen) (hn0 : -9223372036854775808 ≤ fi) (hn1 : fi ≤ 9223372036854775807) (hc0 : -9223372036854775808 ≤ cpus) (hc1 : cpus ≤ 9223372036854775807) (w : World) (hin : PartsIn w v ps) :
    Calls Try.prog 12 #[v, .int .i64 fi, .int .i64 cpus, .string raw] w fun e w' => e = .returned (.bool true) ∧ Below w.heap.size w w' := by
  have hp := pickP_bd cpus 3 (by decide)
  obtain ⟨p, hpp⟩ : ∃ p : Nat, pickP cpus 3 = p := ⟨(pickP cpus 3).toNat, by omega⟩
  have hp3 : p < 3 := by omega
  have en : (((1 + p : Nat)) : Int) = 1 + (p : Int) := by omega
  have hq := pickP_bd fi 7 (by decide)
  obtain ⟨first, hfi⟩ : ∃ f : Nat, pickP fi 7 = f := ⟨(pickP fi 7).toNat, by omega⟩
  have hf7 : first < 7 := by omega
  obtain ⟨hw1, hw2, hw3, hw4⟩ := carR_ok ps hf7 8 240 (by decide) (by decide)
  have hsrc : Src (flat (carR ps first 8 240)) ((carR ps first 8 240).map itOf) := ⟨readP_car ps hf7 8 240 (by decide) (by decide) (by decide) (by decide), hw2⟩
  have hcalm := calm_of hw1
  have hls := cmdsP_len (1 + p) raw.data.toList
  have hsc := cmdsP_script (1 + p) (by omega) (by omega) raw.data.toList
  have A0 := hide (lives_any w)
  have A1 := fun W => pick_any fi 7 W hn0 hn1 (by decide) (by decide)
  simp only [hfi] at A1
  have HA1 := hide A1
  have A2 := fun W => pick_any cpus 3 W hc0 hc1 (by decide) (by decide)
  simp only [hpp] at A2
  have HA2 := hide A2
  have A4 := fun W => commands_any raw (1 + p) W hr (by omega) (by omega)
  simp only [en] at A4
  have HA4 := hide A4
  have A5 := fun W => hsrc.trace (1 + p) (by omega) (by omega) _ (by omega) hsc W
  simp only [en] at A5
  have HA5 := hide A5
  have A7 := fun W => hsrc.analyse W
  rw [hcalm.none] at A7
  simp only [List.length_nil, List.flatMap_nil] at A7
  have HA7 := hide A7
  have A9 := hide (fun W => hsrc.edges W)
  have hel := edgeL_len (edgeS ((carR ps first 8 240).map itOf)) 6
  have HUP := hide (fun r (h : r ∈ edgeL (edgeS ((carR ps first 8 240).map itOf)) 6) => hcalm.up h)
  have htl := traceB_len ((carR ps first 8 240).map itOf) (1 + p) (cmdsP (1 + p) raw.data.toList) (begin_ ((carR ps first 8 240).map itOf))
  have hlast := hcalm.last hsrc.fine (1 + p) (by omega) _ hsc
  clear A1 A2 A4 A5 A7 hpp hfi en hsrc hw1 hw2 hw3 hw4 hcalm hsc
  generalize traceB ((carR ps first 8 240).map itOf) (1 + p) (begin_ ((carR ps first 8 240).map itOf)) (cmdsP (1 + p) raw.data.toList) = T at *
  generalize cmdsP (1 + p) raw.data.toList = s at *
  generalize edgeL (edgeS ((carR ps first 8 240).map itOf)) 6 = D at *
  have A6 := fun W => last_any T W (by omega)
  rw [hlast] at A6
  have HA6 := hide A6
  clear A6 hlast hls htl
  have hD : D.length ≤ 100 := by omega
  generalize hX : carFrom first 240 (ps.take 8) [] = X
  have HXX := hide hX
  generalize hL : flat (carR ps first 8 240) = L at *
  have HL : Hid (L = flat (orOne X)) := hide (by rw [← hL, ← hX]; rfl)
  clear hX hL
  obtain ⟨ao, cap, rfl, hlen, hcell⟩ := hin
  have HC := hide hcell
  clear hcell
  have hmax : ps.length ≤ 9223372036854775807 := by unfold maxLen at hlen; omega
  go_enter Try.func12, Try.ntmps12
  go_wp2_with fail
  go_at_call 30
  refine (A0.out).mono ?_
  rintro e w1 ⟨rfl, hb1⟩
  have HB1 := hide hb1
  clear hb1
  go_wp2_with fail
  go_at_call 32
  refine (HA1.out _).mono ?_
  rintro e w' ⟨rfl, hww⟩
  obtain rfl := hww.symm
  clear hww
  go_wp2
  go_loopw [11, 12] (fun a i wr => ∃ (k : Nat) (rs : List (UInt8 × List UInt8)), k ≤ ps.length ∧ k ≤ 8 ∧ i = .int .i64 k ∧ a = .string (Wd.mkS (flat rs)) ∧ (flat rs).length ≤ 240 ∧ X = carFrom first 240 ((ps.take 8).drop k) rs ∧ Below w.heap.size w wr) (fun _ i _ => ps.length - (intOf i).toNat)
  case atStart => exact ⟨0, [], by omega, by omega, rfl, rfl, by simp [flat], by rw [← HXX.out]; rfl, HB1.out⟩
  case round =>
    obtain ⟨k, rs, hk, hkn, rfl, rfl, hlo, hTk, hb⟩ := hrel
    have HB := hide hb
    have HTK := hide hTk
    clear hb hTk
    have s1 := Wd.mkS_size (flat rs)
    by_cases hlt : k < ps.length ∧ k < 8
    · obtain ⟨b, rfl, hbb, hc0, u, hc1, hin⟩ := HC.out k hlt.1
      have hc0' : wr.cell? (b.add (k * 2)) = some (.bool ps[k].handler) := by rw [HB.out.cell (by rw [add_blk]; exact hbb)]; exact hc0
      have hc1' : wr.cell? (b.add (k * 2 + 1)) = some u := by rw [HB.out.cell (by rw [add_blk]; exact hbb)]; exact hc1
      rw [add_fld] at hc1'
      have hst := car_step first 240 ps 8 k hlt.1 hlt.2 rs
      have HIN := hide (hin.below HB.out (Nat.le_refl _))
      clear hin hc0 hc1
      generalize ps[k] = p at *
      obtain ⟨hd, st⟩ := p
      simp only at hst hc0' HIN
      have HTK2 := hide (HTK.out.trans hst)
      clear hst HTK
      obtain ⟨hl1, hl2⟩ := hlt
      by_cases hle : (flat rs).length + 3 ≤ 240
      · have hwl := (carefulP_ok hf7 hd (240 - (flat rs).length - 3) st).2
        have AC := hide (careful_any u hd st first (240 - (flat rs).length - 3) wr HIN.out hf7 (by omega))
        have HS := hide (flat_snocR rs (letterOf hd) (sgs (carefulP hd first (240 - (flat rs).length - 3) st)))
        have ec : ((240 : Int) - ((flat rs).length : Nat) - 3) = ((240 - (flat rs).length - 3 : Nat) : Int) := by omega
        generalize sgs (carefulP hd first (240 - (flat rs).length - 3) st) = bb at *
        have AI := hide (fun W => item_any hd bb W (by omega))
        have lbb : (letterOf hd :: 123 :: (bb ++ [125])).length = bb.length + 3 := by simp
        generalize letterOf hd :: 123 :: (bb ++ [125]) = q at *
        generalize hF : flat rs = F at *
        go_wp2_with (first | (refine wpList_cat rfl 9 9 _ _ rfl _ _ rfl rfl ?_ ?_; (omega)) | (go_at_call 39; refine (AI.out _).mono ?_; rintro e w' ⟨rfl, hww⟩; obtain rfl := hww.symm; clear hww) | (go_at_call 38; refine (AC.out).mono ?_; rintro e w2 ⟨rfl, hb2⟩; have HB2 := hide (below_go HB.out hb2); have hc0'' : w2.cell? (b.add (k * 2)) = some (.bool hd) := (by rw [hb2.cell (by rw [add_blk]; exact Nat.lt_of_lt_of_le hbb HB.out.size)]; exact hc0'); clear hb2))
        go_round
        case rel => exact ⟨k + 1, rs ++ [(letterOf hd, bb)], by omega, by omega, by go_num, by rw [HS.out], by rw [HS.out, List.length_append]; omega, by rw [HTK2.out, if_pos hle], HB2.out⟩
        case measure => simp [intOf]; omega
      · go_wp2
        go_round
        case rel => exact ⟨k + 1, rs, by omega, by omega, by go_num, rfl, hlo, by rw [HTK2.out, if_neg hle], HB.out⟩
        case measure => simp [intOf]; omega
    · have HF : Hid (X = rs) := hide (by rw [HTK.out, List.drop_of_length_le (by simp; omega), carFrom])
      clear HTK
      have hem0 : (Wd.mkS (flat rs)).toList = flat rs := mkS_toList _
      by_cases h0 : flat rs = []
      · have HG : L = [116, 123, 125] := by rw [HL.out, HF.out, orOne, if_pos h0]; rfl
        have hem : (Wd.mkS (flat rs)).toList.isEmpty = true := by rw [mkS_toList, h0]; rfl
        clear h0 hem0 HL
        subst HG
        generalize flat rs = F at *
        by_cases h1 : k < ps.length
        · have h2 : ¬ k < 8 := fun h => hlt ⟨h1, h⟩
          clear hlt
          go_wp2_with fail
          go_at_call 21
          refine (HA7.out _).mono ?_
          rintro e w8 ⟨hb8, ao8, cc8, rfl, hown8⟩
          have HB8 := hide (below_go HB.out hb8)
          clear hb8 hown8
          go_wp2_with fail
          go_at_call 28
          refine (A9.out _).mono ?_
          rintro e w9 ⟨hb9, ao9, cc9, rfl, hown9⟩
          have HB9 := hide (below_go HB8.out hb9)
          have HO9 := hide hown9
          clear hb9 hown9
          go_wp2_with fail
          go_at_call 32
          refine (HA2.out _).mono ?_
          rintro e w' ⟨rfl, hww⟩
          obtain rfl := hww.symm
          clear hww
          go_wp2_with fail
          go_at_call 34
          refine (HA4.out _).mono ?_
          rintro e w10 ⟨rfl, hb10⟩
          have HB10 := hide (below_go HB9.out hb10)
          have HO10 := hide (own_same HO9.out (fun g _ hl => hb10.block g hl))
          clear hb10 HO9
          go_wp2_with fail
          go_at_call 33
          refine (HA5.out _).mono ?_
          rintro e w11 ⟨rfl, hb11⟩
          have HB11 := hide (below_go HB10.out hb11)
          have HO11 := hide (own_same HO10.out (fun g _ hl => hb11.block g hl))
          clear hb11 HO10
          go_wp2
          go_loopw [22] (fun a wr => ∃ j : Nat, j ≤ D.length ∧ a = .int .i64 j ∧ Below w11.heap.size w11 wr) (fun a _ => D.length - (intOf a).toNat)
          case atStart => exact ⟨0, Nat.zero_le _, rfl, Below.refl _ _⟩
          case round =>
            obtain ⟨j, hj, rfl, hbe⟩ := hrel
            have HBE := hide hbe
            clear hbe
            by_cases hjl : j < D.length
            · obtain ⟨g1, c1, hv1, _, hg1, _, _, hr1⟩ := own_el edV_len HO11.out (List.getElem?_eq_getElem hjl)
              cases hv1
              have d0 := (HBE.out.cell (p := ⟨g1, j * 2, none⟩) hg1).trans (hr1 0 _ rfl)
              have d1 := (HBE.out.cell (p := ⟨g1, j * 2 + 1, none⟩) hg1).trans (hr1 1 _ rfl)
              have hup := HUP.out D[j] (List.getElem_mem hjl)
              clear hr1
              generalize D[j] = r at *
              have hki : (j : Int) < (D.length : Int) := by omega
              have hk0 : (0 : Int) ≤ (j : Int) := by omega
              go_wp2_with fail
              go_quiet (fail)
              go_wp2
              exact ⟨⟨j + 1, by omega, by go_num, below_drewN HBE.out _⟩, by simp [intOf]; omega⟩
            · go_wp2_with fail
              go_at_call 36
              refine (HA6.out _).mono ?_
              rintro e w' ⟨rfl, hww⟩
              obtain rfl := hww.symm
              clear hww
              go_wp2
              go_ret
              exact ⟨rfl, below_go HB11.out HBE.out⟩
        · clear hlt
          go_wp2_with fail
          go_at_call 21
          refine (HA7.out _).mono ?_
          rintro e w8 ⟨hb8, ao8, cc8, rfl, hown8⟩
          have HB8 := hide (below_go HB.out hb8)
          clear hb8 hown8
          go_wp2_with fail
          go_at_call 28
          refine (A9.out _).mono ?_
          rintro e w9 ⟨hb9, ao9, cc9, rfl, hown9⟩
          have HB9 := hide (below_go HB8.out hb9)
          have HO9 := hide hown9
          clear hb9 hown9
          go_wp2_with fail
          go_at_call 32
          refine (HA2.out _).mono ?_
          rintro e w' ⟨rfl, hww⟩
          obtain rfl := hww.symm
          clear hww
          go_wp2_with fail
          go_at_call 34
          refine (HA4.out _).mono ?_
          rintro e w10 ⟨rfl, hb10⟩
          have HB10 := hide (below_go HB9.out hb10)
          have HO10 := hide (own_same HO9.out (fun g _ hl => hb10.block g hl))
          clear hb10 HO9
          go_wp2_with fail
          go_at_call 33
          refine (HA5.out _).mono ?_
          rintro e w11 ⟨rfl, hb11⟩
          have HB11 := hide (below_go HB10.out hb11)
          have HO11 := hide (own_same HO10.out (fun g _ hl => hb11.block g hl))
          clear hb11 HO10
          go_wp2
          go_loopw [22] (fun a wr => ∃ j : Nat, j ≤ D.length ∧ a = .int .i64 j ∧ Below w11.heap.size w11 wr) (fun a _ => D.length - (intOf a).toNat)
          case atStart => exact ⟨0, Nat.zero_le _, rfl, Below.refl _ _⟩
          case round =>
            obtain ⟨j, hj, rfl, hbe⟩ := hrel
            have HBE := hide hbe
            clear hbe
            by_cases hjl : j < D.length
            · obtain ⟨g1, c1, hv1, _, hg1, _, _, hr1⟩ := own_el edV_len HO11.out (List.getElem?_eq_getElem hjl)
              cases hv1
              have d0 := (HBE.out.cell (p := ⟨g1, j * 2, none⟩) hg1).trans (hr1 0 _ rfl)
              have d1 := (HBE.out.cell (p := ⟨g1, j * 2 + 1, none⟩) hg1).trans (hr1 1 _ rfl)
              have hup := HUP.out D[j] (List.getElem_mem hjl)
              clear hr1
              generalize D[j] = r at *
              have hki : (j : Int) < (D.length : Int) := by omega
              have hk0 : (0 : Int) ≤ (j : Int) := by omega
              go_wp2_with fail
              go_quiet (fail)
              go_wp2
              exact ⟨⟨j + 1, by omega, by go_num, below_drewN HBE.out _⟩, by simp [intOf]; omega⟩
            · go_wp2_with fail
              go_at_call 36
              refine (HA6.out _).mono ?_
              rintro e w' ⟨rfl, hww⟩
              obtain rfl := hww.symm
              clear hww
              go_wp2
              go_ret
              exact ⟨rfl, below_go HB11.out HBE.out⟩
      · have HG : flat rs = L := by rw [HL.out, HF.out, orOne, if_neg h0]
        have hem : (Wd.mkS (flat rs)).toList.isEmpty = false := by rw [mkS_toList]; cases hq : flat rs with | nil => exact absurd hq h0 | cons a r => rfl
        clear h0 hem0 HL
        rw [HG] at hem s1 hlo ⊢
        clear HG
        by_cases h1 : k < ps.length
        · have h2 : ¬ k < 8 := fun h => hlt ⟨h1, h⟩
          clear hlt
          go_wp2_with fail
          go_at_call 21
          refine (HA7.out _).mono ?_
          rintro e w8 ⟨hb8, ao8, cc8, rfl, hown8⟩
          have HB8 := hide (below_go HB.out hb8)
          clear hb8 hown8
          go_wp2_with fail
          go_at_call 28
          refine (A9.out _).mono ?_
          rintro e w9 ⟨hb9, ao9, cc9, rfl, hown9⟩
          have HB9 := hide (below_go HB8.out hb9)
          have HO9 := hide hown9
          clear hb9 hown9
          go_wp2_with fail
          go_at_call 32
          refine (HA2.out _).mono ?_
          rintro e w' ⟨rfl, hww⟩
          obtain rfl := hww.symm
          clear hww
          go_wp2_with fail
          go_at_call 34
          refine (HA4.out _).mono ?_
          rintro e w10 ⟨rfl, hb10⟩
          have HB10 := hide (below_go HB9.out hb10)
          have HO10 := hide (own_same HO9.out (fun g _ hl => hb10.block g hl))
          clear hb10 HO9
          go_wp2_with fail
          go_at_call 33
          refine (HA5.out _).mono ?_
          rintro e w11 ⟨rfl, hb11⟩
          have HB11 := hide (below_go HB10.out hb11)
          have HO11 := hide (own_same HO10.out (fun g _ hl => hb11.block g hl))
          clear hb11 HO10
          go_wp2
          go_loopw [22] (fun a wr => ∃ j : Nat, j ≤ D.length ∧ a = .int .i64 j ∧ Below w11.heap.size w11 wr) (fun a _ => D.length - (intOf a).toNat)
          case atStart => exact ⟨0, Nat.zero_le _, rfl, Below.refl _ _⟩
          case round =>
            obtain ⟨j, hj, rfl, hbe⟩ := hrel
            have HBE := hide hbe
            clear hbe
            by_cases hjl : j < D.length
            · obtain ⟨g1, c1, hv1, _, hg1, _, _, hr1⟩ := own_el edV_len HO11.out (List.getElem?_eq_getElem hjl)
              cases hv1
              have d0 := (HBE.out.cell (p := ⟨g1, j * 2, none⟩) hg1).trans (hr1 0 _ rfl)
              have d1 := (HBE.out.cell (p := ⟨g1, j * 2 + 1, none⟩) hg1).trans (hr1 1 _ rfl)
              have hup := HUP.out D[j] (List.getElem_mem hjl)
              clear hr1
              generalize D[j] = r at *
              have hki : (j : Int) < (D.length : Int) := by omega
              have hk0 : (0 : Int) ≤ (j : Int) := by omega
              go_wp2_with fail
              go_quiet (fail)
              go_wp2
              exact ⟨⟨j + 1, by omega, by go_num, below_drewN HBE.out _⟩, by simp [intOf]; omega⟩
            · go_wp2_with fail
              go_at_call 36
              refine (HA6.out _).mono ?_
              rintro e w' ⟨rfl, hww⟩
              obtain rfl := hww.symm
              clear hww
              go_wp2
              go_ret
              exact ⟨rfl, below_go HB11.out HBE.out⟩
        · clear hlt
          go_wp2_with fail
          go_at_call 21
          refine (HA7.out _).mono ?_
          rintro e w8 ⟨hb8, ao8, cc8, rfl, hown8⟩
          have HB8 := hide (below_go HB.out hb8)
          clear hb8 hown8
          go_wp2_with fail
          go_at_call 28
          refine (A9.out _).mono ?_
          rintro e w9 ⟨hb9, ao9, cc9, rfl, hown9⟩
          have HB9 := hide (below_go HB8.out hb9)
          have HO9 := hide hown9
          clear hb9 hown9
          go_wp2_with fail
          go_at_call 32
          refine (HA2.out _).mono ?_
          rintro e w' ⟨rfl, hww⟩
          obtain rfl := hww.symm
          clear hww
          go_wp2_with fail
          go_at_call 34
          refine (HA4.out _).mono ?_
          rintro e w10 ⟨rfl, hb10⟩
          have HB10 := hide (below_go HB9.out hb10)
          have HO10 := hide (own_same HO9.out (fun g _ hl => hb10.block g hl))
          clear hb10 HO9
          go_wp2_with fail
          go_at_call 33
          refine (HA5.out _).mono ?_
          rintro e w11 ⟨rfl, hb11⟩
          have HB11 := hide (below_go HB10.out hb11)
          have HO11 := hide (own_same HO10.out (fun g _ hl => hb11.block g hl))
          clear hb11 HO10
          go_wp2
          go_loopw [22] (fun a wr => ∃ j : Nat, j ≤ D.length ∧ a = .int .i64 j ∧ Below w11.heap.size w11 wr) (fun a _ => D.length - (intOf a).toNat)
          case atStart => exact ⟨0, Nat.zero_le _, rfl, Below.refl _ _⟩
          case round =>
            obtain ⟨j, hj, rfl, hbe⟩ := hrel
            have HBE := hide hbe
            clear hbe
            by_cases hjl : j < D.length
            · obtain ⟨g1, c1, hv1, _, hg1, _, _, hr1⟩ := own_el edV_len HO11.out (List.getElem?_eq_getElem hjl)
              cases hv1
              have d0 := (HBE.out.cell (p := ⟨g1, j * 2, none⟩) hg1).trans (hr1 0 _ rfl)
              have d1 := (HBE.out.cell (p := ⟨g1, j * 2 + 1, none⟩) hg1).trans (hr1 1 _ rfl)
              have hup := HUP.out D[j] (List.getElem_mem hjl)
              clear hr1
              generalize D[j] = r at *
              have hki : (j : Int) < (D.length : Int) := by omega
              have hk0 : (0 : Int) ≤ (j : Int) := by omega
              go_wp2_with fail
              go_quiet (fail)
              go_wp2
              exact ⟨⟨j + 1, by omega, by go_num, below_drewN HBE.out _⟩, by simp [intOf]; omega⟩
            · go_wp2_with fail
              go_at_call 36
              refine (HA6.out _).mono ?_
              rintro e w' ⟨rfl, hww⟩
              obtain rfl := hww.symm
              clear hww
              go_wp2
              go_ret
              exact ⟨rfl, below_go HB11.out HBE.out⟩
set_option maxRecDepth 100000 in
theorem quiet_lifted (os : Os) (started : os.Started) (H : Type) (enc : TypeId × Value → H) :
    ReturnsInHanded {} Try.checked os 12 .any (Rows.quietSpec.pre6 enc Try.prog Try.f12 Rows.quietRow.domain false) (Rows.quietSpec.post enc Try.prog Try.f12 false true false false) := by
  refine returnsInHanded_of_change (C := Try.checked) Try.ownQ started (by kernel_rfl) Try.func12
    (ChangeSpec.witness6 (enc := enc) (C := Try.checked) false ⟨#[], #[.slice none 0 0, .int .i64 0, .int .i64 0, .string ByteArray.empty], []⟩ 8 (by kernel_rfl) (by kernel_rfl) (by kernel_rfl) (by kernel_rfl)) ?_
  intro W base args ds gs before hval0 hW hcnd _
  have hval : ∀ (j : Nat) t v, Try.f12.params[j]? = some t → args[j]? = some v → Value.okWide Try.prog W .any base t v := hval0
  have hW' := hW
  obtain ⟨p, q, hA0, hV, rfl, hfz, hnd⟩ := hW
  have hA : DataW.TrodAll enc Try.prog W 0 (fun _ => true) true Try.f12.params.toList args.toList ds p := hA0
  rw [Try.params12] at hA hval
  obtain ⟨v0, vs0, d0, ds0, p0, q0, hargs, rfl, rfl, h0, r0⟩ := trodAll_cons hA
  obtain ⟨v1, vs1, d1, ds1, p1, q1, rfl, rfl, rfl, h1, r1⟩ := trodAll_cons r0
  obtain ⟨v2, vs2, d2, ds2, p2, q2, rfl, rfl, rfl, h2, r2⟩ := trodAll_cons r1
  obtain ⟨v3, vs3, d3, ds3, p3, q3, rfl, rfl, rfl, h3, r3⟩ := trodAll_cons r2
  obtain ⟨rfl, rfl, rfl⟩ := trodAll_nil r3
  obtain rfl : args = #[v0, v1, v2, v3] := by cases args; simp_all
  obtain ⟨rfl, rfl⟩ := trodVars_none hV
  obtain ⟨n1, rfl, rfl, rfl, w1⟩ := open_int Try.underlying3 (hval 1 3 v1 rfl rfl) h1
  obtain ⟨n2, rfl, rfl, rfl, w2⟩ := open_int Try.underlying3 (hval 2 3 v2 rfl rfl) h2
  obtain ⟨a3, rfl, rfl, rfl, w3⟩ := open_string Try.underlying9 (hval 3 9 v3 rfl rfl) h3
  clear hA0 hval0
  simp only [List.append_nil] at hW'
  have hlt : ∀ x ∈ p0, x.block < W.heap.size := fun x hx => by simpa using hW'.lt x (by simp [hx])
  have hn : -9223372036854775808 ≤ n1 ∧ n1 ≤ 9223372036854775807 := range64 w1
  have hm : -9223372036854775808 ≤ n2 ∧ n2 ≤ 9223372036854775807 := range64 w2
  obtain ⟨ps, hps⟩ := parts_of (hval 0 51 v0 rfl rfl) h0 hlt
  refine (quiet_walk v0 ps n1 n2 a3 w3 hn.1 hn.2 hm.1 hm.2 W hps).mono fun e W' ⟨he, hg⟩ => ?_
  subst he
  refine ⟨_, rfl, _, _, _, [], p0, [], hW', ?_, ?_, ?_, hg.frame _, fun h => by cases h⟩
  · exact trodAll_cons_mk (shut_bool Try.underlying4 _) trodAll_mk0
  · have := trodAll_cons_mk (P := Try.prog) (Below.trod Try.laidOut (by kernel_rfl) (of_decide_eq_true (by kernel_rfl)) h0 hg hlt) (trodAll_cons_mk (shut_int Try.underlying3 w1) (trodAll_cons_mk (shut_int Try.underlying3 w2) (trodAll_cons_mk (shut_string Try.underlying9 w3) trodAll_mk0)))
    simp only [List.append_nil] at this
    exact this
  · rfl

theorem quiet_holds : Rows.QuietSaid :=
  OpenClaim.holds_of_wide 12 Try.f12 rfl rfl rfl rfl rfl rfl rfl ⟨rfl, rfl, rfl, rfl, rfl⟩ rfl rfl rfl rfl rfl (by kernel_rfl) Try.func12 (by kernel_rfl)
    (of_decide_eq_true (by kernel_rfl)) (by unfold Func.isWrapper; first | (rw [if_pos (by decide +kernel)]; kernel_rfl) | (rw [if_neg (by decide +kernel)]; exact ⟨rfl, rfl⟩))
    (fun os started H enc _ => quiet_lifted os started H enc)
#print axioms quiet_holds
end Go.Proofs.Ytecmfdkhcffpmaa
