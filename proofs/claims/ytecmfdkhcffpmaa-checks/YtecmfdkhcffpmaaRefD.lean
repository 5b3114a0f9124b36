/- Contract of the document's 'place': the first byte that can't stand where it stands, or the length of a text that ends too early. -/
import Derived.Test.YtecmfdkhcffpmaaRefC
namespace Go.Proofs.Ytecmfdkhcffpmaa
open Go.RowKit
set_option linter.unusedSimpArgs false
set_option linter.unusedVariables false
set_option maxHeartbeats 400000

theorem place_stop {s : ByteArray} {k : Nat} {st : Wd.St} (hlt : k < s.size) (hp : Wd.place s.data.toList = Wd.placeFrom (s.data.toList.drop k) k st) (h : Wd.stepR st ((s[k].toNat : Nat) : Int) = none) : Wd.toInt (Wd.place s.data.toList) = (k : Int) := by
  rw [hp, Wd.placeFrom_step s k st hlt, h]; rfl
theorem place_go {s : ByteArray} {k : Nat} {st st' : Wd.St} (hlt : k < s.size) (hp : Wd.place s.data.toList = Wd.placeFrom (s.data.toList.drop k) k st) (h : Wd.stepR st ((s[k].toNat : Nat) : Int) = some st') : Wd.place s.data.toList = Wd.placeFrom (s.data.toList.drop (k + 1)) (k + 1) st' := by
  rw [hp, Wd.placeFrom_step s k st hlt, h]
theorem ok_next {a b : Int} {op : List UInt8} {items items' k : Nat} (h : (⟨a, op, items⟩ : Wd.St).ok k) (h1 : items' ≤ 8) (h2 : b = 0 ∨ b = 1 ∨ ((b = 2 ∨ b = 3 ∨ b = 4) ∧ ∃ r, op = 123 :: r)) : (⟨b, op, items'⟩ : Wd.St).ok (k + 1) :=
  ⟨h1, Nat.le_succ_of_le h.2.1, h2⟩

set_option maxHeartbeats 2000000 in
theorem place_any (s : ByteArray) (w : World) (hs : s.size ≤ 10000) :
    Calls Try.prog 44 #[.string s] w fun e w' => e = .returned (.int .i64 (Wd.toInt (Wd.place s.data.toList))) ∧ Below w.heap.size w w' := by
  go_enter Try.func44, Try.ntmps44
  go_wp2
  go_loopw [3, 4, 5, 6] (fun a b c d wr => ∃ (k : Nat) (st : Wd.St) (o : ByteArray), k ≤ s.size ∧ a = .int .i64 st.want ∧ b = .string o ∧ o.data.toList = st.op ∧ c = .int .i64 st.items ∧ d = .int .i64 k ∧ st.ok k ∧ Wd.place s.data.toList = Wd.placeFrom (s.data.toList.drop k) k st ∧ Below w.heap.size w wr) (fun _ _ _ d _ => s.size - (intOf d).toNat)
  case atStart => exact ⟨0, ⟨0, [], 0⟩, ⟨#[]⟩, Nat.zero_le _, rfl, rfl, rfl, rfl, rfl, ⟨by decide, by decide, Or.inl rfl⟩, rfl, Below.refl _ _⟩
  case round =>
    obtain ⟨k, ⟨want, op, items⟩, o, hk, rfl, rfl, hop, rfl, rfl, hok, hpl, hbe⟩ := hrel
    simp only at hop
    have HP := hide hpl
    have HO := hide hop
    have HK := hide hok
    have HB := hide hbe
    clear hpl hop hok hbe
    have hit : items ≤ 8 := HK.out.1
    have hol : o.size ≤ k + 1 := by rw [← Wd.len_str, HO.out]; exact HK.out.2.1
    by_cases hlt : k < s.size
    · have b0 := Wd.at_lo s.data.toList k
      have b1 := Wd.at_hi s.data.toList k
      rw [← Wd.at_str s k hlt] at b0 b1
      rcases HK.out.2.2 with hw | hw | ⟨hw, hr⟩
      · simp only at hw; subst hw
        by_cases h8 : items < 8
        · cases ht : (((s[k].toNat : Nat) : Int) == 116)
          · cases hh : (((s[k].toNat : Nat) : Int) == 104)
            · cases hu : Wd.up ((s[k].toNat : Nat) : Int)
              · go_wp2_with (go_at_call 73; refine (upper_any _ _ b0 b1).mono ?_; rintro e w' ⟨rfl, rfl⟩)
                go_ret
                refine ⟨ret_int (place_stop hlt HP.out ?_).symm, HB.out⟩
                simp at ht hh
                simp [Wd.stepR, hu, ht, hh]
              · go_wp2_with (go_at_call 73; refine (upper_any _ _ b0 b1).mono ?_; rintro e w' ⟨rfl, rfl⟩)
                go_roundw
                case rel => exact ⟨k + 1, ⟨1, op, items + 1⟩, o, by omega, rfl, rfl, HO.out, by go_num, by go_num, ok_next HK.out (by omega) (Or.inr (Or.inl rfl)), place_go hlt HP.out (by simp [Wd.stepR, hu, h8]), HB.out⟩
                case measure => simp [intOf]; omega
            · go_wp2_with (go_at_call 73; refine (upper_any _ _ b0 b1).mono ?_; rintro e w' ⟨rfl, rfl⟩)
              go_roundw
              case rel => exact ⟨k + 1, ⟨1, op, items + 1⟩, o, by omega, rfl, rfl, HO.out, by go_num, by go_num, ok_next HK.out (by omega) (Or.inr (Or.inl rfl)), place_go hlt HP.out (by simp at hh; simp [Wd.stepR, hh, h8]), HB.out⟩
              case measure => simp [intOf]; omega
          · go_wp2_with (go_at_call 73; refine (upper_any _ _ b0 b1).mono ?_; rintro e w' ⟨rfl, rfl⟩)
            go_roundw
            case rel => exact ⟨k + 1, ⟨1, op, items + 1⟩, o, by omega, rfl, rfl, HO.out, by go_num, by go_num, ok_next HK.out (by omega) (Or.inr (Or.inl rfl)), place_go hlt HP.out (by simp at ht; simp [Wd.stepR, ht, h8]), HB.out⟩
            case measure => simp [intOf]; omega
        · go_wp2
          go_ret
          exact ⟨ret_int (place_stop hlt HP.out (by simp [Wd.stepR, h8])).symm, HB.out⟩
      · simp only at hw; subst hw
        cases hc : (((s[k].toNat : Nat) : Int) == 123)
        · go_wp2
          go_ret
          exact ⟨ret_int (place_stop hlt HP.out (by simp at hc; simp [Wd.stepR, hc])).symm, HB.out⟩
        · go_wp2
          go_roundw
          case rel => exact ⟨k + 1, ⟨2, [123], items⟩, ⟨#[123]⟩, by omega, rfl, rfl, rfl, rfl, by go_num, ⟨hit, by simp, by simp⟩, place_go hlt HP.out (by simp at hc; simp [Wd.stepR, hc]), HB.out⟩
          case measure => simp [intOf]; omega
      · have hos : 0 < o.size := by
          rw [← Wd.len_str, HO.out]; obtain ⟨r, hr⟩ := hr; simp only at hr; rw [hr]; simp
        have HR := hide hr
        clear hr
        rcases hw with hw | hw | hw
        · simp only at hw; subst hw
          have HX := opened_any ((s[k].toNat : Nat) : Int) o
          have HX := hide HX
          cases hq : Wd.opened ((s[k].toNat : Nat) : Int) op with
          | none =>
            have q1 : Wd.openedB ((s[k].toNat : Nat) : Int) o.data.toList = false := by rw [HO.out]; simp [Wd.openedB, hq]
            have Q := hide hq
            clear hq
            go_wp2_with (go_at_call 76; refine (opened_any _ _ _ (by omega) hos b0 b1).mono ?_; rw [q1]; rintro e w' ⟨t, rfl, ht, n, rfl⟩)
            go_ret
            exact ⟨ret_int (place_stop hlt HP.out (by simp [Wd.stepR, Q.out])).symm, below_drewN HB.out _⟩
          | some x =>
            have q1 : Wd.openedB ((s[k].toNat : Nat) : Int) o.data.toList = true := by rw [HO.out]; simp [Wd.openedB, hq]
            have q2 : Wd.openedW ((s[k].toNat : Nat) : Int) o.data.toList = x.1 := by rw [HO.out]; simp [Wd.openedW, hq]
            have q3 : Wd.openedO ((s[k].toNat : Nat) : Int) o.data.toList = x.2 := by rw [HO.out]; simp [Wd.openedO, hq]
            have Q := hide hq
            clear hq
            have Q2 := hide q2
            have Q3 := hide q3
            clear q2 q3
            go_wp2_with (go_at_call 76; refine (opened_any _ _ _ (by omega) hos b0 b1).mono ?_; rw [q1, Q2.out, Q3.out]; rintro e w' ⟨t, rfl, ht, n, rfl⟩)
            go_roundw
            case rel => exact ⟨k + 1, ⟨x.1, x.2, items⟩, t, by omega, rfl, rfl, ht, rfl, by go_num, Wd.opened_ok Q.out HK.out.2.1 HR.out hit, place_go hlt HP.out (by simp [Wd.stepR, Q.out]), below_drewN HB.out _⟩
            case measure => simp [intOf]; omega
        · simp only at hw; subst hw
          cases hc : Wd.lk ((s[k].toNat : Nat) : Int)
          · go_wp2_with (go_at_call 74; refine (lock_any _ _ b0 b1).mono ?_; rintro e w' ⟨rfl, rfl⟩)
            go_ret
            exact ⟨ret_int (place_stop hlt HP.out (by simp [Wd.stepR, hc])).symm, HB.out⟩
          · go_wp2_with (go_at_call 74; refine (lock_any _ _ b0 b1).mono ?_; rintro e w' ⟨rfl, rfl⟩)
            go_roundw
            case rel => exact ⟨k + 1, ⟨2, op, items⟩, o, by omega, rfl, rfl, HO.out, rfl, by go_num, ok_next HK.out hit (Or.inr (Or.inr ⟨Or.inl rfl, HR.out⟩)), place_go hlt HP.out (by simp [Wd.stepR, hc]), HB.out⟩
            case measure => simp [intOf]; omega
        · simp only at hw; subst hw
          cases hc : Wd.cl ((s[k].toNat : Nat) : Int)
          · go_wp2_with (go_at_call 75; refine (cell_any _ _ b0 b1).mono ?_; rintro e w' ⟨rfl, rfl⟩)
            go_ret
            exact ⟨ret_int (place_stop hlt HP.out (by simp [Wd.stepR, hc])).symm, HB.out⟩
          · go_wp2_with (go_at_call 75; refine (cell_any _ _ b0 b1).mono ?_; rintro e w' ⟨rfl, rfl⟩)
            go_roundw
            case rel => exact ⟨k + 1, ⟨2, op, items⟩, o, by omega, rfl, rfl, HO.out, rfl, by go_num, ok_next HK.out hit (Or.inr (Or.inr ⟨Or.inl rfl, HR.out⟩)), place_go hlt HP.out (by simp [Wd.stepR, hc]), HB.out⟩
            case measure => simp [intOf]; omega
    · have HE := hide (Wd.placeFrom_end s k ⟨want, op, items⟩ (by omega) hk)
      cases hw : (want != 0)
      · cases hi : ((items : Int) == 0)
        · go_wp2
          go_ret
          refine ⟨ret_int ?_, HB.out⟩
          simp at hw hi
          rw [HP.out, HE.out]; simp [hw, hi, Wd.toInt]
        · go_wp2
          go_ret
          refine ⟨ret_int ?_, HB.out⟩
          simp at hw hi
          rw [HP.out, HE.out]; simp [hw, hi, Wd.toInt]
      · go_wp2
        go_ret
        refine ⟨ret_int ?_, HB.out⟩
        simp at hw
        rw [HP.out, HE.out]; simp [hw, Wd.toInt]
end Go.Proofs.Ytecmfdkhcffpmaa
