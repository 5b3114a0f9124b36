/- Contract: a careful body. -/
import Derived.Test.YtecmfdkhcffpmaaKwP
namespace Go.Proofs.Ytecmfdkhcffpmaa
open Go.RowKit
set_option linter.unusedSimpArgs false
set_option linter.unusedVariables false
set_option maxHeartbeats 8000000
open Wd Mc

theorem secT_l (mask first : Nat) (hd up : Bool) : (tks (secT mask first hd up)).length ≤ 42 := by
  have h1 := secTake_l mask 6
  have h2 := secCell_l mask 4
  have h3 := secGive_l mask up 6
  unfold secT secCore
  split
  · rw [tks_cons, tks_app, tks_app, tks_app]
    simp only [List.length_append]
    simp [tks, Tk.tx] at *
    omega
  · rw [tks_app, tks_app]
    simp only [List.length_append]
    omega
theorem careful_step (hd : Bool) (first most : Nat) (st : List Int) (k : Nat) (hk : k < st.length) (o : List Sg) : carefulFrom hd first most (st.drop k) o =
    if (sgs o).length + (sgs (chunk hd first (pickP st[k] 1024).toNat)).length ≤ most then carefulFrom hd first most (st.drop (k + 1)) (o ++ chunk hd first (pickP st[k] 1024).toNat) else carefulFrom hd first most (st.drop (k + 1)) o := by
  rw [List.drop_eq_getElem_cons hk, carefulFrom]
/-- What a raw number stands for, as a text. -/
def chunkX (hd : Bool) (d : Nat) (B : List UInt8) : List UInt8 := if d = 0 then 91 :: (B ++ [93]) else if d = 1 then 40 :: (B ++ [124, 41]) else if d = 2 ∧ hd = false then B ++ [122] else B
theorem chunk_x (hd : Bool) (first v : Nat) : sgs (chunk hd first v) = chunkX hd (v / 128) (tks (secV hd first v)) := by
  unfold chunk chunkX
  split
  · simp [sgs, Sg.tx]
  split
  · simp [sgs, Sg.tx]
  split
  · rw [sgs_app, sgs_tk]; simp [sgs, Sg.tx, Tk.tx]
  · exact sgs_tk _
theorem chunkX_l (hd : Bool) (d : Nat) (B : List UInt8) : (chunkX hd d B).length ≤ B.length + 3 := by
  unfold chunkX
  repeat' split
  all_goals simp
set_option maxRecDepth 100000 in
theorem careful_any (u : Value) (hd : Bool) (st : List Int) (first most : Nat) (w : World) (hv : IntsIn w u st) (hf : first < 7) (hm : most ≤ 300) :
    Calls Try.prog 38 #[.agg #[.bool hd, u], .int .i64 first, .int .i64 most] w fun e w' => e = .returned (.string (Wd.mkS (sgs (carefulP hd first most st)))) ∧ Below w.heap.size w w' := by
  have hbel := (Below.refl w.heap.size w).alloc (Nat.le_refl _) (.cells #[.bool hd, u] 66 (0, 0))
  have hv1 := hv.below hbel (Nat.le_refl _)
  obtain ⟨ao, cap, rfl, hlen, hran, hcell⟩ := hv1
  clear hv
  have HB0 := hide hbel
  have HC := hide hcell
  have HN := hide hran
  have hmax : st.length ≤ 9223372036854775807 := by unfold maxLen at hlen; omega
  have c0 : (w.alloc (.cells #[.bool hd, .slice ao st.length cap] 66 (0, 0))).cell? ⟨w.heap.size, 0, none⟩ = some (.bool hd) := World.cell?_alloc_mark w _ _ (0, 0) 0
  have c1 : (w.alloc (.cells #[.bool hd, .slice ao st.length cap] 66 (0, 0))).cell? ⟨w.heap.size, 1, none⟩ = some (.slice ao st.length cap) := World.cell?_alloc_mark w _ _ (0, 0) 1
  have hlt0 : w.heap.size < (w.alloc (.cells #[.bool hd, .slice ao st.length cap] 66 (0, 0))).heap.size := by simp
  have C0 := hide c0
  have C1 := hide c1
  clear hcell hran hbel c0 c1
  unfold carefulP
  generalize hT : carefulFrom hd first most st [] = T
  have HT := hide hT
  clear hT
  have AS := hide (fun (m : Nat) (up : Bool) (W : World) (h : m < 64) => section_any m first hd up W h hf)
  go_enter Try.func38, Try.ntmps38
  go_wp2
  generalize w.alloc (.cells #[.bool hd, .slice ao st.length cap] 66 (0, 0)) = W0 at *
  go_loopw [7, 8] (fun a i wr => ∃ (k : Nat) (o : List Sg) (r : List UInt8), k ≤ st.length ∧ i = .int .i64 k ∧ a = .string (Wd.mkS r) ∧ r = sgs o ∧ r.length ≤ most ∧ T = carefulFrom hd first most (st.drop k) o ∧ Below W0.heap.size W0 wr) (fun _ i _ => st.length - (intOf i).toNat)
  case atStart => exact ⟨0, [], [], by omega, rfl, rfl, rfl, by simp, by rw [← HT.out]; rfl, Below.refl _ _⟩
  case round =>
    obtain ⟨k, o, r, hk, rfl, rfl, hr, hrl, hTk, hb⟩ := hrel
    have HB := hide hb
    have HR := hide hr
    have HTK := hide hTk
    clear hb hr hTk
    have s1 := Wd.mkS_size r
    have d0 : wr.cell? ⟨w.heap.size, 0, none⟩ = some (.bool hd) := by rw [HB.out.cell hlt0]; exact C0.out
    have d1 : wr.cell? ⟨w.heap.size, 1, none⟩ = some (.slice ao st.length cap) := by rw [HB.out.cell hlt0]; exact C1.out
    by_cases hlt : k < st.length
    · obtain ⟨b, rfl, hbb, hcl⟩ := HC.out k hlt
      have hcl' : wr.cell? (b.add k) = some (.int .i64 st[k]) := by rw [HB.out.cell (by rw [add_blk]; exact hbb)]; exact hcl
      have hz := HN.out st[k] (List.getElem_mem hlt)
      have hst := careful_step hd first most st k hlt o
      rw [← HTK.out, ← HR.out] at hst
      generalize st[k] = z at *
      have hp := pickP_bd z 1024 (by decide)
      obtain ⟨v, hv⟩ : ∃ v : Nat, pickP z 1024 = v := ⟨(pickP z 1024).toNat, by omega⟩
      have hv2 : v < 1024 := by omega
      have AP := fun W => pick_any z 1024 W hz.1 hz.2 (by decide) (by decide)
      simp only [hv] at AP
      rw [hv, Int.toNat_natCast, chunk_x] at hst
      have HAP := hide AP
      clear AP hv hp hcl
      have hse : secV hd first v = secT (maskOf hd first (v % 64)) first hd (decide (v / 64 % 2 = 1)) := rfl
      obtain ⟨m, em⟩ : ∃ m : Nat, v % 64 = m := ⟨_, rfl⟩
      obtain ⟨a, ea⟩ : ∃ a : Nat, v / 64 = a := ⟨_, rfl⟩
      obtain ⟨d, ed⟩ : ∃ d : Nat, v / 128 = d := ⟨_, rfl⟩
      obtain ⟨x, ex⟩ : ∃ x : Nat, a % 2 = x := ⟨_, rfl⟩
      obtain ⟨up, hup⟩ : ∃ up : Bool, decide (x = 1) = up := ⟨_, rfl⟩
      rw [em, ea, ex, hup] at hse
      rw [ed, hse] at hst
      have HVV : Hid (chunkX hd (v / 128) (tks (secV hd first v)) = chunkX hd d (tks (secT (maskOf hd first m) first hd up))) := hide (by rw [ed, hse])
      have hm64 : m < 64 := by omega
      have hx2 : x < 2 := by omega
      have hd8 : d < 8 := by omega
      have ha16 : a < 16 := by omega
      have m1 : (v : Int) % 64 = (m : Int) := by omega
      have m2 : (v : Int) / 64 = (a : Int) := by omega
      have m3 : (v : Int) / 128 = (d : Int) := by omega
      have m4 : (a : Int) % 2 = (x : Int) := by omega
      have t1 : (v : Int).tmod 64 = (m : Int) := by rw [Int.tmod_eq_emod_of_nonneg (by omega)]; exact m1
      have t2 : (v : Int).tdiv 64 = (a : Int) := by rw [Int.tdiv_eq_ediv_of_nonneg (by omega)]; exact m2
      have t3 : (v : Int).tdiv 128 = (d : Int) := by rw [Int.tdiv_eq_ediv_of_nonneg (by omega)]; exact m3
      have t4 : (a : Int).tmod 2 = (x : Int) := by rw [Int.tmod_eq_emod_of_nonneg (by omega)]; exact m4
      have hux : ((x : Int) == 1) = up := by rw [← hup, Bool.eq_iff_iff]; simp; omega
      have hki : (k : Int) < (st.length : Int) := by omega
      have hk0 : (0 : Int) ≤ (k : Int) := by omega
      clear em ea ed ex hup hse
      have HST := hide hst
      clear hst
      obtain ⟨M, eM⟩ : ∃ M : Nat, maskOf hd first m = M := ⟨_, rfl⟩
      have hM64 : M < 64 := by
        rw [← eM]; unfold maskOf
        split
        · rw [Nat.shiftRight_eq_div_pow, Nat.shiftLeft_eq]
          exact Nat.lt_of_le_of_lt (Nat.div_mul_le_self _ _) hm64
        · exact hm64
      have HBL := secT_l M first hd up
      cases hd
      · have eM2 : M = m := eM.symm
        subst eM2
        go_wp2_with fail
        go_at_call 32
        refine (HAP.out _).mono ?_
        rintro e w' ⟨rfl, hww⟩
        obtain rfl := hww.symm
        clear hww
        go_wp2_with (fail)
        go_at_call 71
        refine (AS.out M up _ hM64).mono ?_
        rintro e w5 ⟨rfl, hb5⟩
        have HB5 := hide (below_go HB.out hb5)
        have e0 : w5.cell? ⟨w.heap.size, 0, none⟩ = some (.bool false) := by rw [HB5.out.cell hlt0]; exact C0.out
        clear hb5 HB d0 d1 hcl'
        rw [eM] at HST HVV
        generalize tks (secT M first false up) = B at *
        have s2 := Wd.mkS_size B
        have hc4 : d = 0 ∨ d = 1 ∨ d = 2 ∨ 2 < d := by omega
        rcases hc4 with rfl | rfl | rfl | hd2
        · have s3 : (Wd.mkS (91 :: (B ++ [93]))).size = B.length + 2 := by rw [Wd.mkS_size]; simp
          have l3 : (91 :: (B ++ [93])).length = B.length + 2 := by simp
          have HX : Hid (chunkX false 0 B = 91 :: (B ++ [93])) := hide (by rfl)
          rw [HX.out, l3] at HST
          clear l3
          by_cases hfit : r.length + (B.length + 2) ≤ most
          · have HS2 := HST.out
            rw [if_pos hfit] at HS2
            have HS3 := hide HS2
            clear HS2
            go_wp2_with (first | (refine wpList_cat rfl 9 9 _ _ rfl _ _ rfl rfl ?_ ?_; (simp; omega)))
            go_round
            case measure => simp [intOf]; omega
            case rel => exact ⟨k + 1, _, _, by omega, by go_num, rfl, by rw [sgs_app, chunk_x, ← HR.out, HVV.out, HX.out] <;> simp [Wd.mkS], by simp; omega, HS3.out, HB5.out⟩
          · have HS2 := HST.out
            rw [if_neg hfit] at HS2
            have HS3 := hide HS2
            clear HS2
            go_wp2_with (first | (refine wpList_cat rfl 9 9 _ _ rfl _ _ rfl rfl ?_ ?_; (simp; omega)))
            go_round
            case measure => simp [intOf]; omega
            case rel => exact ⟨k + 1, o, r, by omega, by go_num, rfl, HR.out, hrl, HS3.out, HB5.out⟩
        · have s3 : (Wd.mkS (40 :: (B ++ [124, 41]))).size = B.length + 3 := by rw [Wd.mkS_size]; simp
          have l3 : (40 :: (B ++ [124, 41])).length = B.length + 3 := by simp
          have HX : Hid (chunkX false 1 B = 40 :: (B ++ [124, 41])) := hide (by rfl)
          rw [HX.out, l3] at HST
          clear l3
          by_cases hfit : r.length + (B.length + 3) ≤ most
          · have HS2 := HST.out
            rw [if_pos hfit] at HS2
            have HS3 := hide HS2
            clear HS2
            go_wp2_with (first | (refine wpList_cat rfl 9 9 _ _ rfl _ _ rfl rfl ?_ ?_; (simp; omega)))
            go_round
            case measure => simp [intOf]; omega
            case rel => exact ⟨k + 1, _, _, by omega, by go_num, rfl, by rw [sgs_app, chunk_x, ← HR.out, HVV.out, HX.out] <;> simp [Wd.mkS], by simp; omega, HS3.out, HB5.out⟩
          · have HS2 := HST.out
            rw [if_neg hfit] at HS2
            have HS3 := hide HS2
            clear HS2
            go_wp2_with (first | (refine wpList_cat rfl 9 9 _ _ rfl _ _ rfl rfl ?_ ?_; (simp; omega)))
            go_round
            case measure => simp [intOf]; omega
            case rel => exact ⟨k + 1, o, r, by omega, by go_num, rfl, HR.out, hrl, HS3.out, HB5.out⟩
        · have s3 : (Wd.mkS (B ++ [122])).size = B.length + 1 := by rw [Wd.mkS_size]; simp
          have l3 : (B ++ [122]).length = B.length + 1 := by simp
          have HX : Hid (chunkX false 2 B = B ++ [122]) := hide (by rfl)
          rw [HX.out, l3] at HST
          clear l3
          by_cases hfit : r.length + (B.length + 1) ≤ most
          · have HS2 := HST.out
            rw [if_pos hfit] at HS2
            have HS3 := hide HS2
            clear HS2
            go_wp2_with (first | (refine wpList_cat rfl 9 9 _ _ rfl _ _ rfl rfl ?_ ?_; (simp; omega)))
            go_round
            case measure => simp [intOf]; omega
            case rel => exact ⟨k + 1, _, _, by omega, by go_num, rfl, by rw [sgs_app, chunk_x, ← HR.out, HVV.out, HX.out] <;> simp [Wd.mkS], by simp; omega, HS3.out, HB5.out⟩
          · have HS2 := HST.out
            rw [if_neg hfit] at HS2
            have HS3 := hide HS2
            clear HS2
            go_wp2_with (first | (refine wpList_cat rfl 9 9 _ _ rfl _ _ rfl rfl ?_ ?_; (simp; omega)))
            go_round
            case measure => simp [intOf]; omega
            case rel => exact ⟨k + 1, o, r, by omega, by go_num, rfl, HR.out, hrl, HS3.out, HB5.out⟩
        · have s3 : (Wd.mkS (B)).size = B.length + 0 := by rw [Wd.mkS_size]; simp
          have l3 : (B).length = B.length + 0 := by simp
          have HX : Hid (chunkX false d B = B) := hide (by unfold chunkX; rw [if_neg (by omega), if_neg (by omega), if_neg (by omega)])
          rw [HX.out, l3] at HST
          clear l3
          by_cases hfit : r.length + (B.length + 0) ≤ most
          · have HS2 := HST.out
            rw [if_pos hfit] at HS2
            have HS3 := hide HS2
            clear HS2
            go_wp2_with (first | (refine wpList_cat rfl 9 9 _ _ rfl _ _ rfl rfl ?_ ?_; (simp; omega)))
            go_round
            case measure => simp [intOf]; omega
            case rel => exact ⟨k + 1, _, _, by omega, by go_num, rfl, by rw [sgs_app, chunk_x, ← HR.out, HVV.out, HX.out] <;> simp [Wd.mkS], by simp; omega, HS3.out, HB5.out⟩
          · have HS2 := HST.out
            rw [if_neg hfit] at HS2
            have HS3 := hide HS2
            clear HS2
            go_wp2_with (first | (refine wpList_cat rfl 9 9 _ _ rfl _ _ rfl rfl ?_ ?_; (simp; omega)))
            go_round
            case measure => simp [intOf]; omega
            case rel => exact ⟨k + 1, o, r, by omega, by go_num, rfl, HR.out, hrl, HS3.out, HB5.out⟩
      · obtain ⟨q, hq⟩ : ∃ q : Nat, m / 2 ^ first = q := ⟨_, rfl⟩
        have hqM : q * 2 ^ first = M := by rw [← hq, ← eM]; unfold maskOf; rw [if_pos rfl, Nat.shiftRight_eq_div_pow, Nat.shiftLeft_eq]
        have HQ := hide hq
        have HQM := hide hqM
        clear hq hqM
        go_wp2_with fail
        go_at_call 32
        refine (HAP.out _).mono ?_
        rintro e w' ⟨rfl, hww⟩
        obtain rfl := hww.symm
        clear hww
        go_wp2_with (first | (refine wpList_shrN rfl _ _ _ _ rfl m first q rfl rfl ?_ ?_ ?_; (omega); (exact HQ.out)) | (refine wpList_shlN rfl _ _ _ _ rfl q first M rfl rfl ?_ ?_ ?_ ?_; (omega); (exact HQM.out); (omega)) | fail)
        go_at_call 71
        refine (AS.out M up _ hM64).mono ?_
        rintro e w5 ⟨rfl, hb5⟩
        have HB5 := hide (below_go HB.out hb5)
        have e0 : w5.cell? ⟨w.heap.size, 0, none⟩ = some (.bool true) := by rw [HB5.out.cell hlt0]; exact C0.out
        clear hb5 HB d0 d1 hcl'
        rw [eM] at HST HVV
        generalize tks (secT M first true up) = B at *
        have s2 := Wd.mkS_size B
        have hc4 : d = 0 ∨ d = 1 ∨ d = 2 ∨ 2 < d := by omega
        rcases hc4 with rfl | rfl | rfl | hd2
        · have s3 : (Wd.mkS (91 :: (B ++ [93]))).size = B.length + 2 := by rw [Wd.mkS_size]; simp
          have l3 : (91 :: (B ++ [93])).length = B.length + 2 := by simp
          have HX : Hid (chunkX true 0 B = 91 :: (B ++ [93])) := hide (by rfl)
          rw [HX.out, l3] at HST
          clear l3
          by_cases hfit : r.length + (B.length + 2) ≤ most
          · have HS2 := HST.out
            rw [if_pos hfit] at HS2
            have HS3 := hide HS2
            clear HS2
            go_wp2_with (first | (refine wpList_cat rfl 9 9 _ _ rfl _ _ rfl rfl ?_ ?_; (simp; omega)))
            go_round
            case measure => simp [intOf]; omega
            case rel => exact ⟨k + 1, _, _, by omega, by go_num, rfl, by rw [sgs_app, chunk_x, ← HR.out, HVV.out, HX.out] <;> simp [Wd.mkS], by simp; omega, HS3.out, HB5.out⟩
          · have HS2 := HST.out
            rw [if_neg hfit] at HS2
            have HS3 := hide HS2
            clear HS2
            go_wp2_with (first | (refine wpList_cat rfl 9 9 _ _ rfl _ _ rfl rfl ?_ ?_; (simp; omega)))
            go_round
            case measure => simp [intOf]; omega
            case rel => exact ⟨k + 1, o, r, by omega, by go_num, rfl, HR.out, hrl, HS3.out, HB5.out⟩
        · have s3 : (Wd.mkS (40 :: (B ++ [124, 41]))).size = B.length + 3 := by rw [Wd.mkS_size]; simp
          have l3 : (40 :: (B ++ [124, 41])).length = B.length + 3 := by simp
          have HX : Hid (chunkX true 1 B = 40 :: (B ++ [124, 41])) := hide (by rfl)
          rw [HX.out, l3] at HST
          clear l3
          by_cases hfit : r.length + (B.length + 3) ≤ most
          · have HS2 := HST.out
            rw [if_pos hfit] at HS2
            have HS3 := hide HS2
            clear HS2
            go_wp2_with (first | (refine wpList_cat rfl 9 9 _ _ rfl _ _ rfl rfl ?_ ?_; (simp; omega)))
            go_round
            case measure => simp [intOf]; omega
            case rel => exact ⟨k + 1, _, _, by omega, by go_num, rfl, by rw [sgs_app, chunk_x, ← HR.out, HVV.out, HX.out] <;> simp [Wd.mkS], by simp; omega, HS3.out, HB5.out⟩
          · have HS2 := HST.out
            rw [if_neg hfit] at HS2
            have HS3 := hide HS2
            clear HS2
            go_wp2_with (first | (refine wpList_cat rfl 9 9 _ _ rfl _ _ rfl rfl ?_ ?_; (simp; omega)))
            go_round
            case measure => simp [intOf]; omega
            case rel => exact ⟨k + 1, o, r, by omega, by go_num, rfl, HR.out, hrl, HS3.out, HB5.out⟩
        · have s3 : (Wd.mkS (B)).size = B.length + 0 := by rw [Wd.mkS_size]; simp
          have l3 : (B).length = B.length + 0 := by simp
          have HX : Hid (chunkX true 2 B = B) := hide (by rfl)
          rw [HX.out, l3] at HST
          clear l3
          by_cases hfit : r.length + (B.length + 0) ≤ most
          · have HS2 := HST.out
            rw [if_pos hfit] at HS2
            have HS3 := hide HS2
            clear HS2
            go_wp2_with (first | (refine wpList_cat rfl 9 9 _ _ rfl _ _ rfl rfl ?_ ?_; (simp; omega)))
            go_round
            case measure => simp [intOf]; omega
            case rel => exact ⟨k + 1, _, _, by omega, by go_num, rfl, by rw [sgs_app, chunk_x, ← HR.out, HVV.out, HX.out] <;> simp [Wd.mkS], by simp; omega, HS3.out, HB5.out⟩
          · have HS2 := HST.out
            rw [if_neg hfit] at HS2
            have HS3 := hide HS2
            clear HS2
            go_wp2_with (first | (refine wpList_cat rfl 9 9 _ _ rfl _ _ rfl rfl ?_ ?_; (simp; omega)))
            go_round
            case measure => simp [intOf]; omega
            case rel => exact ⟨k + 1, o, r, by omega, by go_num, rfl, HR.out, hrl, HS3.out, HB5.out⟩
        · have s3 : (Wd.mkS (B)).size = B.length + 0 := by rw [Wd.mkS_size]; simp
          have l3 : (B).length = B.length + 0 := by simp
          have HX : Hid (chunkX true d B = B) := hide (by unfold chunkX; rw [if_neg (by omega), if_neg (by omega), if_neg (by omega)])
          rw [HX.out, l3] at HST
          clear l3
          by_cases hfit : r.length + (B.length + 0) ≤ most
          · have HS2 := HST.out
            rw [if_pos hfit] at HS2
            have HS3 := hide HS2
            clear HS2
            go_wp2_with (first | (refine wpList_cat rfl 9 9 _ _ rfl _ _ rfl rfl ?_ ?_; (simp; omega)))
            go_round
            case measure => simp [intOf]; omega
            case rel => exact ⟨k + 1, _, _, by omega, by go_num, rfl, by rw [sgs_app, chunk_x, ← HR.out, HVV.out, HX.out] <;> simp [Wd.mkS], by simp; omega, HS3.out, HB5.out⟩
          · have HS2 := HST.out
            rw [if_neg hfit] at HS2
            have HS3 := hide HS2
            clear HS2
            go_wp2_with (first | (refine wpList_cat rfl 9 9 _ _ rfl _ _ rfl rfl ?_ ?_; (simp; omega)))
            go_round
            case measure => simp [intOf]; omega
            case rel => exact ⟨k + 1, o, r, by omega, by go_num, rfl, HR.out, hrl, HS3.out, HB5.out⟩
    · have e : st.drop k = [] := List.drop_eq_nil_of_le (by omega)
      have HT2 := HTK.out
      rw [e, carefulFrom] at HT2
      have HT3 := hide HT2
      clear HT2
      go_wp2
      go_ret
      exact ⟨ret_strB (by rw [HR.out, HT3.out]), below_go HB0.out HB.out⟩
end Go.Proofs.Ytecmfdkhcffpmaa
