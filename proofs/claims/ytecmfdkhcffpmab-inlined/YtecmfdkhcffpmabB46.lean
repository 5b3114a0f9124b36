/- KwG, KwL. -/
import Derived.Test.YtecmfdkhcffpmabB08
import Derived.Test.YtecmfdkhcffpmabB13
import Derived.Test.YtecmfdkhcffpmabB19
import Derived.OwnWalk
import Derived.WalkSpells
import Derived.Maps.AppendAt
import Derived.Test.YtecmfdkhcffpmabB45
/- Contract of the maker of scripts. -/
namespace Go.Proofs.Ytecmfdkhcffpmab
open Go.RowKit
set_option linter.unusedSimpArgs false
set_option linter.unusedVariables false
set_option maxHeartbeats 8000000
open Wd Mc

theorem cell_two_new (w : World) (x y : Value) (t : TypeId) : ∀ j u, [x, y][j]? = some u → (w.alloc (.cells #[x, y] t)).cell? ((⟨w.heap.size, 0, none⟩ : Addr).add j) = some u := by
  intro j u h
  have hj : j < 2 := (List.getElem?_eq_some_iff.1 h).1
  rw [Addr.add_mid]
  rw [World.cell?_alloc_mark]
  match j, hj with
  | 0, _ => simpa using h
  | 1, _ => simpa using h
theorem own_two2 {w : World} {B : Nat} {v : Value} {acc : List UInt8} {c d : UInt8} (h : w.ownsRow B 5 1 v (acc.length + 2) (Wd.bytesV acc ++ [.int .u8 (bt c), .int .u8 (bt d)])) : w.ownsRow B 5 1 v (acc ++ [c, d]).length (Wd.bytesV (acc ++ [c, d])) := by
  have e : Wd.bytesV (acc ++ [c, d]) = Wd.bytesV acc ++ [.int .u8 (bt c), .int .u8 (bt d)] := by simp [Wd.bytesV]
  rw [e, List.length_append]; exact h
theorem wpList_bytes2 {ops : Array Oper} {rest : List Oper} {o : Oper} {a : Act} {w : World} {Q : Exit → Act → World → Prop} (hgd : o.guard = none) (s x : Operand)
    (ho : o.op = .call { callee := .builtin .append, args := #[s, x], argTypes := #[30, 30] })
    (B : Nat) (v : Value) (acc : List UInt8) (c d : UInt8) (hs : a.eval s = v) (g cap : Nat) (hx : a.eval x = .slice (some ⟨g, 0, none⟩) 2 cap)
    (hown : w.ownsRow B 5 1 v acc.length (Wd.bytesV acc)) (hcell : ∀ j u, [Value.int .u8 (bt c), Value.int .u8 (bt d)][j]? = some u → w.cell? ((⟨g, 0, none⟩ : Addr).add j) = some u) (hl : acc.length ≤ 1000000) (hB : B ≤ w.heap.size)
    (h : ∀ v' w', w'.ownsRow B 5 1 v' (acc ++ [c, d]).length (Wd.bytesV (acc ++ [c, d])) → w.grownBy w' v.ownBlock → wpList Try.prog ops Q rest (a.put o.dst v') w') :
    wpList Try.prog ops Q (o :: rest) a w := by
  obtain ⟨i0, hi0, hz0, hz1, hz2⟩ := info_parts Try.infoU8
  refine wpList_append_own w hgd s x 30 ho B 5 i0 (.int .u8 0) 1 1 Try.underlying30 hi0 hz0 hz1 hz2 rfl (by decide) v acc.length (Wd.bytesV acc) hs hown ⟨g, 0, none⟩ 2 cap [.int .u8 (bt c), .int .u8 (bt d)] hx rfl hcell (fun y hy => by simp at hy; rcases hy with rfl | rfl <;> rfl) (by unfold maxLen; omega) (by omega) hB ?_
  intro v' w' hown' hgr _
  exact h v' w' (own_two2 hown') hgr
theorem cmds_step (n k : Nat) (s : ByteArray) (hk : k < s.size) : (s.data.toList.take (k + 1)).flatMap (cmdT n) = (s.data.toList.take k).flatMap (cmdT n) ++ cmdT n s[k] := by
  have hk' : k < s.data.toList.length := by rw [Wd.len_str]; exact hk
  rw [List.take_succ_eq_append_getElem hk', List.flatMap_append]
  simp
  rfl
set_option maxRecDepth 100000 in
theorem commands_any (s : ByteArray) (n : Nat) (w : World) (hs : s.size ≤ maxLen) (h0 : 0 < n) (hn : n ≤ 3) :
    Calls Try.prog 11 #[.string s, .int .i64 n] w fun e w' => e = .returned (.string (Wd.mkS (cmdsP n s.data.toList))) ∧ Below w.heap.size w w' := by
  have hmax : s.size ≤ 9223372036854775807 := by unfold maxLen at hs; omega
  obtain ⟨i0, hi0, hz0, hz1, hz2⟩ := info_parts Try.infoU8
  obtain ⟨B, hB⟩ : ∃ B, w.heap.size = B := ⟨_, rfl⟩
  have HBB := hide hB
  clear hB
  generalize hT : cmdsP n s.data.toList = T
  have HT := hide hT
  clear hT
  obtain ⟨N, hN⟩ : ∃ N : Int, (n : Int) = N := ⟨_, rfl⟩
  rw [hN]
  have HN := hide hN
  have hN0 : 0 < N := by omega
  have hN3 : N ≤ 3 := by omega
  have hnz : (N == 0) = false := by simp; omega
  clear hN
  go_enter Try.func11, Try.ntmps11
  go_wp2
  go_loopw [5, 6] (fun a i wr => ∃ (k : Nat) (acc : List UInt8), k ≤ s.size ∧ k ≤ 20000 ∧ i = .int .i64 k ∧ acc.length = 2 * k ∧ wr.ownsRow B 5 1 a acc.length (Wd.bytesV acc) ∧ acc = (s.data.toList.take k).flatMap (cmdT n) ∧ Below w.heap.size w wr ∧ B ≤ wr.heap.size) (fun _ i _ => s.size - (intOf i).toNat)
  case atStart => exact ⟨0, [], by omega, by omega, rfl, rfl, World.ownsRow_nil _ _ _ _, rfl, Below.refl _ _, by rw [HBB.out]; exact Nat.le_refl _⟩
  case round =>
    obtain ⟨k, acc, hk, hk2, rfl, hal, hown, hacc, hb, hbs⟩ := hrel
    have HB := hide hb
    have HO := hide hown
    have HA := hide hacc
    clear hb hown hacc
    by_cases hlt : k < s.size ∧ k < 20000
    · obtain ⟨hl1, hl2⟩ := hlt
      have hi2 : (k : Int) < 20000 := by omega
      have HL2 := hide hl2
      have HK2 := hide hk2
      clear hl2 hk2
      have HC := hide (cmds_step n k s hl1)
      have hx255 : s[k].toNat ≤ 255 := by have := s[k].toNat_lt; omega
      obtain ⟨c, hc⟩ : ∃ c : Nat, s[k].toNat % n = c := ⟨_, rfl⟩
      obtain ⟨d, hd⟩ : ∃ d : Nat, s[k].toNat / n = d := ⟨_, rfl⟩
      obtain ⟨q, hq⟩ : ∃ q : Nat, d % 20 = q := ⟨_, rfl⟩
      have HCM : Hid (cmdT n s[k] = [b8 (48 + c), whatT q]) := hide (by unfold cmdT; rw [hc, hd, hq])
      have hc3 : c < 3 := by rw [← hc]; have := Nat.mod_lt s[k].toNat h0; omega
      have hq20 : q < 20 := by omega
      have hd255 : d ≤ 255 := by rw [← hd]; exact Nat.le_trans (Nat.div_le_self s[k].toNat n) hx255
      have e1 : ((s[k].toNat : Nat) : Int) % N = c := by rw [← hc, ← HN.out]; rfl
      have e2 : ((s[k].toNat : Nat) : Int) / N = d := by rw [← hd, ← HN.out]; rfl
      have e3 : (d : Int) % 20 = q := by rw [← hq]; rfl
      have f1 : ((s[k].toNat : Nat) : Int).tmod N = c := by rw [Int.tmod_eq_emod_of_nonneg (by omega)]; exact e1
      have f2 : ((s[k].toNat : Nat) : Int).tdiv N = d := by rw [Int.tdiv_eq_ediv_of_nonneg (by omega)]; exact e2
      have f3 : (d : Int).tmod 20 = q := by rw [Int.tmod_eq_emod_of_nonneg (by omega)]; exact e3
      clear hc hd hq
      by_cases q1 : q < 8
      · have HWH : Hid (whatT q = b8 (48 + q)) := hide (by simp [whatT, q1])
        have HB1 : Hid (bt (b8 (48 + c)) = 48 + (c : Int)) := hide (by rw [bt_b8 (by omega)]; omega)
        have HB2 : Hid (bt (b8 (48 + q)) = 48 + (q : Int)) := hide (by first | rfl | (rw [bt_b8 (by omega)]; omega))
        go_wp2_with (first | (at_builtin; refine wpList_bytes2 rfl _ _ rfl B _ acc (b8 (48 + c)) (b8 (48 + q)) rfl _ _ rfl ?_ ?_ ?_ ?_ ?_; (exact HO.out.alloc _); (rw [HB1.out, HB2.out]; exact cell_two_new _ _ _ _); (omega); (simp; omega); intro v' w5 hown' hgrow5; have HG := hide hgrow5; have HW := hide hown'; clear hgrow5 hown'))
        have HU := hide (grown_min HG.out HO.out)
        go_round
        case rel => exact ⟨k + 1, acc ++ [b8 (48 + c), b8 (48 + q)], by omega, HL2.out, by go_num, by simp; omega, HW.out, by rw [HC.out, ← HA.out, HCM.out, HWH.out], HB.out.trans (HU.out.mono (by rw [HBB.out]; omega)), by have := HG.out.size; simp at this; omega⟩
        case measure => simp [intOf]; omega
      by_cases q2 : q = 8
      · subst q2
        have HWH : Hid (whatT 8 = 112) := hide (by simp [whatT])
        have HB1 : Hid (bt (b8 (48 + c)) = 48 + (c : Int)) := hide (by rw [bt_b8 (by omega)]; omega)
        have HB2 : Hid (bt (112) = 112) := hide (by first | rfl | (rw [bt_b8 (by omega)]; omega))
        go_wp2_with (first | (at_builtin; refine wpList_bytes2 rfl _ _ rfl B _ acc (b8 (48 + c)) (112) rfl _ _ rfl ?_ ?_ ?_ ?_ ?_; (exact HO.out.alloc _); (rw [HB1.out, HB2.out]; exact cell_two_new _ _ _ _); (omega); (simp; omega); intro v' w5 hown' hgrow5; have HG := hide hgrow5; have HW := hide hown'; clear hgrow5 hown'))
        have HU := hide (grown_min HG.out HO.out)
        go_round
        case rel => exact ⟨k + 1, acc ++ [b8 (48 + c), 112], by omega, HL2.out, by go_num, by simp; omega, HW.out, by rw [HC.out, ← HA.out, HCM.out, HWH.out], HB.out.trans (HU.out.mono (by rw [HBB.out]; omega)), by have := HG.out.size; simp at this; omega⟩
        case measure => simp [intOf]; omega
      have b2 : ((q : Int) == 8) = false := by simp; omega
      by_cases q3 : q < 13
      · have HWH : Hid (whatT q = 44) := hide (by simp [whatT, q1, q2, q3])
        have HB1 : Hid (bt (b8 (48 + c)) = 48 + (c : Int)) := hide (by rw [bt_b8 (by omega)]; omega)
        have HB2 : Hid (bt (44) = 44) := hide (by first | rfl | (rw [bt_b8 (by omega)]; omega))
        go_wp2_with (first | (at_builtin; refine wpList_bytes2 rfl _ _ rfl B _ acc (b8 (48 + c)) (44) rfl _ _ rfl ?_ ?_ ?_ ?_ ?_; (exact HO.out.alloc _); (rw [HB1.out, HB2.out]; exact cell_two_new _ _ _ _); (omega); (simp; omega); intro v' w5 hown' hgrow5; have HG := hide hgrow5; have HW := hide hown'; clear hgrow5 hown'))
        have HU := hide (grown_min HG.out HO.out)
        go_round
        case rel => exact ⟨k + 1, acc ++ [b8 (48 + c), 44], by omega, HL2.out, by go_num, by simp; omega, HW.out, by rw [HC.out, ← HA.out, HCM.out, HWH.out], HB.out.trans (HU.out.mono (by rw [HBB.out]; omega)), by have := HG.out.size; simp at this; omega⟩
        case measure => simp [intOf]; omega
      · have HWH : Hid (whatT q = 46) := hide (by simp [whatT, q1, q2, q3])
        have HB1 : Hid (bt (b8 (48 + c)) = 48 + (c : Int)) := hide (by rw [bt_b8 (by omega)]; omega)
        have HB2 : Hid (bt (46) = 46) := hide (by first | rfl | (rw [bt_b8 (by omega)]; omega))
        go_wp2_with (first | (at_builtin; refine wpList_bytes2 rfl _ _ rfl B _ acc (b8 (48 + c)) (46) rfl _ _ rfl ?_ ?_ ?_ ?_ ?_; (exact HO.out.alloc _); (rw [HB1.out, HB2.out]; exact cell_two_new _ _ _ _); (omega); (simp; omega); intro v' w5 hown' hgrow5; have HG := hide hgrow5; have HW := hide hown'; clear hgrow5 hown'))
        have HU := hide (grown_min HG.out HO.out)
        go_round
        case rel => exact ⟨k + 1, acc ++ [b8 (48 + c), 46], by omega, HL2.out, by go_num, by simp; omega, HW.out, by rw [HC.out, ← HA.out, HCM.out, HWH.out], HB.out.trans (HU.out.mono (by rw [HBB.out]; omega)), by have := HG.out.size; simp at this; omega⟩
        case measure => simp [intOf]; omega
    · have HF : Hid (T = acc) := hide (by
        rw [← HT.out, HA.out]
        unfold cmdsP
        by_cases h1 : k < s.size
        · rw [show k = 20000 from by omega]
        · rw [List.take_of_length_le (by rw [Wd.len_str]; omega), List.take_of_length_le (by rw [Wd.len_str]; omega)])
      have hcv := conv_own HO.out
      by_cases h1 : k < s.size
      · have h2 : ¬ k < 20000 := fun h => hlt ⟨h1, h⟩
        clear hlt
        go_wp2
        go_ret
        exact ⟨ret_strB (by rw [HF.out]), HB.out⟩
      · clear hlt
        go_wp2
        go_ret
        exact ⟨ret_strB (by rw [HF.out]), HB.out⟩
end Go.Proofs.Ytecmfdkhcffpmab
/- What the laws over woven sources share. -/
namespace Go.Proofs.Ytecmfdkhcffpmab
open Go.RowKit
set_option linter.unusedSimpArgs false
set_option linter.unusedVariables false
open Wd Mc

theorem rep_len (its : List Wd.It) (hf : Fine its) : (analyseS its).length ≤ 30000 := by
  have a1 : (soloS its).length ≤ 5 * (its.length * 301) := by
    unfold soloS
    exact solos_len _ _ its.length 5 (fun i hi => by have := hf.short i hi; omega)
  have a2 := ringL_len (fwK (edgeS its) 6) 6
  have a3 : (raceS its).length ≤ 4 := by unfold raceS; exact raceL_len _ 4
  have a4 : 5 * (its.length * 301) ≤ 5 * (8 * 301) := Nat.mul_le_mul (by omega) (Nat.mul_le_mul_right _ hf.len)
  unfold analyseS
  rw [List.length_append, List.length_append]
  omega
theorem lastP_bd (T : List UInt8) : 0 ≤ lastP T ∧ lastP T ≤ 255 := by
  unfold lastP
  split
  · omega
  · split
    · rename_i c _ _; unfold bt; have := c.toNat_lt; omega
    · omega
/-- A woven source, its items, and what its calls answer. -/
structure Src (l : List UInt8) (its : List It) : Prop where
  read : readP l = .ok its
  len : l.length ≤ 240
theorem Src.fine {l : List UInt8} {its : List It} (h : Src l its) : Fine its := fine_of h.read
theorem src_prog (ps : List Pt) (n most : Nat) (hn : 1 ≤ n) (hn8 : n ≤ 8) (hm : 3 ≤ most) (hm2 : most ≤ 240) : ∃ its, Src (flat (progR ps n most)) its :=
  ⟨_, readP_prog ps n most hn hn8 hm hm2, by have := (progR_ok ps n most hn hm).2.1; omega⟩
theorem Src.analyse {l : List UInt8} {its : List It} (h : Src l its) (w : World) : Calls Try.prog 13 #[.string (Wd.mkS l)] w fun e w' =>
    Below w.heap.size w w' ∧ ∃ ao cc, e = .returned (.tuple #[.slice ao (analyseS its).length cc, .int .i64 0]) ∧ w'.ownsRow w.heap.size 75 3 (.slice ao (analyseS its).length cc) (analyseS its).length ((analyseS its).flatMap rpV) := by
  have := wAnalyse_any (Wd.mkS l) w (by rw [Wd.mkS_size]; have := h.len; unfold maxLen; omega)
  rw [mkS_list, h.read] at this
  exact this
theorem Src.trace {l : List UInt8} {its : List It} (h : Src l its) (n : Nat) (h0 : 0 < n) (hn : n ≤ 3) (s : List UInt8) (hs : s.length ≤ 200000) (hsc : scriptB n s = true) (w : World) :
    Calls Try.prog 12 #[.string (Wd.mkS l), .int .i64 n, .string (Wd.mkS s)] w fun e w' => e = .returned (.tuple #[.string (Wd.mkS (traceB its n (begin_ its) s)), .bool true]) ∧ Below w.heap.size w w' :=
  trace_any l n s _ w h.len hs h0 hn (runB_yes h.read h.len hs h0 hn hsc) (tr_of hsc)
end Go.Proofs.Ytecmfdkhcffpmab
