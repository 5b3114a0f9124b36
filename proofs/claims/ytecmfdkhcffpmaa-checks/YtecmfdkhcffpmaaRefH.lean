/- Contracts of the document's 'starts' and 'Check'. -/
import Derived.Test.YtecmfdkhcffpmaaRefG
import Derived.Test.YtecmfdkhcffpmaaPure4
namespace Go.Proofs.Ytecmfdkhcffpmaa
open Go.RowKit
set_option linter.unusedSimpArgs false
set_option linter.unusedVariables false
set_option maxHeartbeats 400000

theorem Try.info3 : (Try.prog.info? 3).map (fun i => (i.zero, i.size, i.bytes)) = some (some (.int .i64 0), 1, 8) := by kernel_rfl

theorem startP_of (s : ByteArray) (k : Nat) (h : k < s.size) : Wd.startP s.data.toList k = (Wd.heads s.data.toList k && ((((s[k].toNat : Nat) : Int) == 116) || (((s[k].toNat : Nat) : Int) == 104))) := by
  rw [Wd.at_str s k h]; rfl

set_option maxHeartbeats 1000000 in
theorem starts_any (s : ByteArray) (w : World) (hs : s.size ≤ 10000) :
    Calls Try.prog 48 #[.string s] w fun e w' => ∃ v, e = .returned v ∧ w'.ownsRow w.heap.size 3 1 v (Wd.starts s.data.toList).length (Wd.intsV (Wd.starts s.data.toList)) ∧ Below w.heap.size w w' := by
  have HL := hide (Wd.len_str s)
  obtain ⟨i0, hi, hz0, hz1, hz2⟩ := info_parts Try.info3
  go_enter Try.func48, Try.ntmps48
  go_wp2
  go_loopw [3, 4] (fun a b wr => ∃ k : Nat, k ≤ s.size ∧ b = .int .i64 k ∧ wr.ownsRow w.heap.size 3 1 a (Wd.startsTo s.data.toList k).length (Wd.intsV (Wd.startsTo s.data.toList k)) ∧ Below w.heap.size w wr) (fun _ b _ => s.size - (intOf b).toNat)
  case atStart => exact ⟨0, Nat.zero_le _, rfl, World.ownsRow_nil _ _ _ _, Below.refl _ _⟩
  case round =>
    obtain ⟨k, hk, rfl, hown, hbe⟩ := hrel
    by_cases hlt : k < s.size
    · have HP := hide (startP_of s k hlt)
      have hln := Wd.startsTo_len s.data.toList k
      have HO := hide hown
      have HB := hide hbe
      clear hown hbe
      cases hh : Wd.heads s.data.toList k
      · go_wp2_with (go_at_call 78; refine (heads_any _ _ _ (by omega) (by omega)).mono ?_; rintro e w' ⟨rfl, rfl⟩)
        go_roundw
        case rel => exact ⟨k + 1, by omega, by go_num, by rw [Wd.startsTo_no (by rw [HP.out, hh]; rfl)]; exact HO.out, HB.out⟩
        case measure => simp [intOf]; omega
      · cases ht : (((s[k].toNat : Nat) : Int) == 116)
        · cases h4 : (((s[k].toNat : Nat) : Int) == 104)
          · go_wp2_with (go_at_call 78; refine (heads_any _ _ _ (by omega) (by omega)).mono ?_; rintro e w' ⟨rfl, rfl⟩)
            go_roundw
            case rel => exact ⟨k + 1, by omega, by go_num, by rw [Wd.startsTo_no (by rw [HP.out, hh, ht, h4]; rfl)]; exact HO.out, HB.out⟩
            case measure => simp [intOf]; omega
          · go_wp2_with (first | (go_at_call 78; refine (heads_any _ _ _ (by omega) (by omega)).mono ?_; rintro e w' ⟨rfl, rfl⟩) | (at_builtin; refine wpList_append_own _ rfl _ _ 64 rfl w.heap.size 3 i0 (.int .i64 0) 1 8 Try.underlying64 hi hz0 hz1 hz2 rfl (by decide) _ _ _ rfl (HO.out.alloc _) ⟨_, 0, none⟩ 1 1 [.int .i64 (k : Int)] rfl rfl (cell_one_new _ _ _) (fun x hx => by simp at hx; subst hx; rfl) (by unfold maxLen; omega) (by omega) (by have := HB.out.size; simp; omega) ?_; intro v' w3 hown' hgrow3 hnil3))
            refine ⟨⟨k + 1, by omega, by go_num, ?_, ?_⟩, by simp [intOf]; omega⟩
            · rw [Wd.startsTo_yes (by rw [HP.out, hh, ht, h4]; rfl)]
              simpa [Wd.intsV] using hown'
            · exact (HB.out.alloc HB.out.size _).grown hgrow3 (by have := HB.out.size; simp; omega) (fun b hb => (HO.out.lt b hb).1)
        · go_wp2_with (first | (go_at_call 78; refine (heads_any _ _ _ (by omega) (by omega)).mono ?_; rintro e w' ⟨rfl, rfl⟩) | (at_builtin; refine wpList_append_own _ rfl _ _ 64 rfl w.heap.size 3 i0 (.int .i64 0) 1 8 Try.underlying64 hi hz0 hz1 hz2 rfl (by decide) _ _ _ rfl (HO.out.alloc _) ⟨_, 0, none⟩ 1 1 [.int .i64 (k : Int)] rfl rfl (cell_one_new _ _ _) (fun x hx => by simp at hx; subst hx; rfl) (by unfold maxLen; omega) (by omega) (by have := HB.out.size; simp; omega) ?_; intro v' w3 hown' hgrow3 hnil3))
          refine ⟨⟨k + 1, by omega, by go_num, ?_, ?_⟩, by simp [intOf]; omega⟩
          · rw [Wd.startsTo_yes (by rw [HP.out, hh, ht]; rfl)]
            simpa [Wd.intsV] using hown'
          · exact (HB.out.alloc HB.out.size _).grown hgrow3 (by have := HB.out.size; simp; omega) (fun b hb => (HO.out.lt b hb).1)
    · go_wp2
      go_ret
      refine ⟨_, rfl, ?_, hbe⟩
      obtain rfl : k = s.size := by omega
      rw [Wd.starts, HL.out]
      exact hown
end Go.Proofs.Ytecmfdkhcffpmaa
