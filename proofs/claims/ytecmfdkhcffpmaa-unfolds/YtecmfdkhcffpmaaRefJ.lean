/- Contract of the document's 'unfolded'. -/
import Derived.Test.YtecmfdkhcffpmaaRefI
import Derived.Test.YtecmfdkhcffpmaaUnf1
namespace Go.Proofs.Ytecmfdkhcffpmaa
open Go.RowKit
set_option linter.unusedSimpArgs false
set_option linter.unusedVariables false
set_option maxHeartbeats 800000

set_option maxRecDepth 100000 in
set_option maxHeartbeats 2000000 in
theorem unfolded_any (s t : ByteArray) (of : Nat → Int) (w : World) (hs : s.size ≤ 10000) (ho : ∀ j, 0 ≤ of j ∧ of j ≤ 301) (hH : ∀ c : Int, Wd.up c = true → 0 < of (c - 65).toNat → ∃ i, Wd.head s.data.toList c = some i) (hB : ∀ p, p ≤ 8 → (Wd.passN s.data.toList of t.data.toList p).length ≤ 100000) :
    Calls Try.prog 51 #[.string s, .string t, .agg (Wd.arr8 of)] w fun e w' => ∃ u : ByteArray, e = .returned (.string u) ∧ u.data.toList = Wd.passN s.data.toList of t.data.toList 8 ∧ Below w.heap.size w w' := by
  have HO := hide ho
  have HH := hide hH
  have HB := hide hB
  clear ho hH hB
  unfold Wd.arr8
  go_enter Try.func51, Try.ntmps51
  go_wp2
  have hN := heap_alloc_last w (.cells (Wd.arr8 of) 75)
  have hbe0 : Below w.heap.size w (w.alloc (.cells (Wd.arr8 of) 75)) := (Below.refl _ _).alloc (Nat.le_refl _) _
  rw [show (w.alloc (.cells #[.int .i64 (of 0), .int .i64 (of 1), .int .i64 (of 2), .int .i64 (of 3), .int .i64 (of 4), .int .i64 (of 5), .int .i64 (of 6), .int .i64 (of 7)] 75)) = w.alloc (.cells (Wd.arr8 of) 75) from rfl]
  generalize w.alloc (.cells (Wd.arr8 of) 75) = W at *
  have HN := hide hN
  have HB0 := hide hbe0
  clear hN hbe0
  go_loop [1, 7] (fun a b => ∃ (k : Nat) (u : ByteArray), k ≤ 8 ∧ b = .int .i64 k ∧ a = .string u ∧ u.data.toList = Wd.passN s.data.toList of t.data.toList k) (fun _ b => 8 - (intOf b).toNat)
  case atStart => exact ⟨0, t, by omega, rfl, rfl, rfl⟩
  case round =>
    obtain ⟨k, u, hk, rfl, rfl, hu⟩ := hrel
    have HU := hide hu
    clear hu
    by_cases hlt : k < 8
    · have hus : u.size ≤ 100000 := by rw [← Wd.len_str, HU.out]; exact HB.out k hk
      have hps : (Wd.pass s.data.toList of u.data.toList).length ≤ 100000 := by
        have := HB.out (k + 1) (by omega)
        rw [Wd.passN, ← HU.out] at this; exact this
      go_wp2_with fail
      go_loop [8, 9] (fun a b => ∃ (i : Nat) (o : ByteArray), i ≤ u.size ∧ b = .int .i64 i ∧ a = .string o ∧ o.data.toList = Wd.pass s.data.toList of (u.data.toList.take i)) (fun _ b => u.size - (intOf b).toNat)
      case atStart => exact ⟨0, ⟨#[]⟩, Nat.zero_le _, rfl, rfl, rfl⟩
      case round =>
        obtain ⟨i, o, hi, rfl, rfl, ho⟩ := hrel
        have HOO := hide ho
        have hos : o.size ≤ 100000 := by
          rw [← Wd.len_str, HOO.out]
          have := Wd.pass_take s.data.toList of u.data.toList i
          omega
        clear ho
        by_cases hil : i < u.size
        · have HS := hide (Wd.pass_snoc s.data.toList of u i hil)
          have b0 := Wd.at_lo u.data.toList i
          have b1 := Wd.at_hi u.data.toList i
          rw [← Wd.at_str u i hil] at b0 b1
          cases hup : Wd.up ((u[i].toNat : Nat) : Int)
          · have HC : Hid (Wd.passC s.data.toList of u[i] = [u[i]]) := by
              have : Wd.up (Wd.bt u[i]) = false := hup
              simp [Hid, Wd.passC, this]
            go_wp2_with (go_at_call 73; refine (upper_any _ _ b0 b1).mono ?_; rw [hup]; rintro e w' ⟨rfl, rfl⟩)
            refine ⟨⟨i + 1, _, by omega, by go_num, rfl, ?_⟩, by simp [intOf]; omega⟩
            rw [HS.out, HC.out, ← HOO.out]
            simp only [ByteArray.data_append, Array.toList_append, Wd.extract_str]
            congr 1
            rw [Nat.add_sub_cancel_left, Wd.drop_cons u i hil]; rfl
          · have hu' := hup
            simp [Wd.up] at hu'
            have HUP : Hid (Wd.up (Wd.bt u[i]) = true) := hup
            have hidx : Hid ((Wd.bt u[i] - 65).toNat = u[i].toNat - 65) := by apply hide; unfold Wd.bt; omega
            have ho' := HO.out (u[i].toNat - 65)
            have c1 := row_cell HN.out (Wd.arr8_at of (u[i].toNat - 65) (by omega))
            by_cases hg : 0 < of (u[i].toNat - 65)
            · obtain ⟨h, hh⟩ := HH.out ((u[i].toNat : Nat) : Int) hup (by rw [show (((u[i].toNat : Nat) : Int) - 65).toNat = u[i].toNat - 65 from by omega]; exact hg)
              have hhs : h + 2 ≤ s.size := by have := (Wd.head_some hh).1; rw [Wd.len_str] at this; omega
              have HC : Hid (Wd.passC s.data.toList of u[i] = Wd.body s.data.toList h) := by
                have e1 : Wd.head s.data.toList (Wd.bt u[i]) = some h := hh
                simp [Hid, Wd.passC, HUP.out, hidx.out, hg, e1]
              have HHD : Hid (Wd.toInt (Wd.head s.data.toList ((u[i].toNat : Nat) : Int)) = (h : Int)) := by rw [hh]; rfl
              have HLB : Hid (Wd.pass s.data.toList of (u.data.toList.take (i + 1)) = Wd.pass s.data.toList of (u.data.toList.take i) ++ Wd.body s.data.toList h) := by rw [HS.out, HC.out]; rfl
              have hlb : o.size + (Wd.body s.data.toList h).length ≤ 100000 := by
                rw [← Wd.len_str, HOO.out, ← List.length_append, ← HLB.out]
                have := Wd.pass_take s.data.toList of u.data.toList (i + 1)
                omega
              clear hh
              go_wp2_with (first | (go_at_call 73; refine (upper_any _ _ b0 b1).mono ?_; rw [hup]; rintro e w' ⟨rfl, rfl⟩) | (go_at_call 77; refine (head_any _ _ _ (by omega) b0 b1).mono ?_; rw [HHD.out]; rintro e w' ⟨rfl, rfl⟩) | (go_at_call 49; refine (body_any s h _ (by omega) hhs).mono ?_; rintro e w' ⟨tt, rfl, htt, htts, rfl⟩; have htl : tt.size = (Wd.body s.data.toList h).length := by rw [← Wd.len_str, htt]))
              refine ⟨⟨i + 1, _, by omega, by go_num, rfl, ?_⟩, by simp [intOf]; omega⟩
              rw [HLB.out, ← HOO.out, ← htt]
              simp
            · have HC : Hid (Wd.passC s.data.toList of u[i] = []) := by
                simp [Hid, Wd.passC, HUP.out, hidx.out, hg]
              go_wp2_with (first | (go_at_call 73; refine (upper_any _ _ b0 b1).mono ?_; rw [hup]; rintro e w' ⟨rfl, rfl⟩))
              refine ⟨⟨i + 1, o, by omega, by go_num, rfl, ?_⟩, by simp [intOf]; omega⟩
              rw [HS.out, HC.out, ← HOO.out]; simp
        · go_wp2
          refine ⟨⟨k + 1, o, by omega, by go_num, rfl, ?_⟩, by simp [intOf]; omega⟩
          rw [HOO.out, Wd.passN, ← HU.out, List.take_of_length_le (by rw [Wd.len_str]; omega)]
    · go_wp2
      go_ret
      obtain rfl : k = 8 := by omega
      exact ⟨u, rfl, HU.out, HB0.out⟩
end Go.Proofs.Ytecmfdkhcffpmaa
