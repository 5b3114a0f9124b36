/- Contract of the document's reader of the form, whole: a byte in a body, and the place of the first byte that can't stand where it stands. -/
import Derived.Test.YtecmfdkhcffpmaaRefB
namespace Go.Proofs.Ytecmfdkhcffpmaa
open Go.RowKit
set_option linter.unusedSimpArgs false
set_option linter.unusedVariables false
set_option maxHeartbeats 400000

theorem lastIs_str (s : ByteArray) (m : Nat) (hm : s.size = m + 1) (c : Int) : Wd.lastIs s.data.toList c = ((((s[m]'(by omega)).toNat : Nat) : Int) == c) := by
  rw [Wd.at_str s m (by omega), Wd.lastIs, Wd.len_str, hm]; rfl

theorem opened_any (c : Int) (s : ByteArray) (w : World) (hs : s.size ≤ 100000) (hp : 0 < s.size) (h0 : 0 ≤ c) (h1 : c ≤ 255) :
    Calls Try.prog 76 #[.int .u8 c, .string s] w fun e w' => ∃ t : ByteArray, e = .returned (.tuple #[.int .i64 (Wd.openedW c s.data.toList), .string t, .bool (Wd.openedB c s.data.toList)]) ∧ t.data.toList = Wd.openedO c s.data.toList ∧ ∃ n, w' = w.drewN n := by
  obtain ⟨m, hm⟩ : ∃ m, s.size = m + 1 := ⟨s.size - 1, by omega⟩
  have hl := lastIs_str s m hm
  have hlen : s.data.toList.length - 1 = m := by rw [Wd.len_str]; omega
  unfold Wd.openedW Wd.openedO Wd.openedB
  by_cases b43 : c = 43
  · subst b43
    have e : Wd.opened 43 s.data.toList = some (3, s.data.toList) := by simp [Wd.opened, hlen, show Wd.up 43 = false from by decide]
    rw [e]
    exact opened_c43 s m w hs hm
  by_cases b45 : c = 45
  · subst b45
    have e : Wd.opened 45 s.data.toList = some (3, s.data.toList) := by simp [Wd.opened, hlen, show Wd.up 45 = false from by decide]
    rw [e]
    exact opened_c45 s m w hs hm
  by_cases b114 : c = 114
  · subst b114
    have e : Wd.opened 114 s.data.toList = some (4, s.data.toList) := by simp [Wd.opened, hlen, show Wd.up 114 = false from by decide]
    rw [e]
    exact opened_c114 s m w hs hm
  by_cases b119 : c = 119
  · subst b119
    have e : Wd.opened 119 s.data.toList = some (4, s.data.toList) := by simp [Wd.opened, hlen, show Wd.up 119 = false from by decide]
    rw [e]
    exact opened_c119 s m w hs hm
  by_cases b60 : c = 60
  · subst b60
    have e : Wd.opened 60 s.data.toList = some (2, s.data.toList) := by simp [Wd.opened, hlen, show Wd.up 60 = false from by decide]
    rw [e]
    exact opened_c60 s m w hs hm
  by_cases b62 : c = 62
  · subst b62
    have e : Wd.opened 62 s.data.toList = some (2, s.data.toList) := by simp [Wd.opened, hlen, show Wd.up 62 = false from by decide]
    rw [e]
    exact opened_c62 s m w hs hm
  by_cases b122 : c = 122
  · subst b122
    have e : Wd.opened 122 s.data.toList = some (2, s.data.toList) := by simp [Wd.opened, hlen, show Wd.up 122 = false from by decide]
    rw [e]
    exact opened_c122 s m w hs hm
  by_cases b40 : c = 40
  · subst b40
    have e : Wd.opened 40 s.data.toList = some (2, s.data.toList ++ [40]) := by simp [Wd.opened, hlen, show Wd.up 40 = false from by decide]
    rw [e]
    exact opened_c40 s m w hs hm
  by_cases b91 : c = 91
  · subst b91
    have e : Wd.opened 91 s.data.toList = some (2, s.data.toList ++ [91]) := by simp [Wd.opened, hlen, show Wd.up 91 = false from by decide]
    rw [e]
    exact opened_c91 s m w hs hm
  by_cases b124 : c = 124
  · subst b124
    cases hb : ((((s[m]'(by omega)).toNat : Nat) : Int) == 40)
    · have e : Wd.opened 124 s.data.toList = none := by simp [Wd.opened, hlen, show Wd.up 124 = false from by decide, hl, hb]; try omega
      rw [e]
      exact opened_c124n s m w hs hm hb
    · have e : Wd.opened 124 s.data.toList = some (2, s.data.toList.take m ++ [124]) := by simp [Wd.opened, hlen, show Wd.up 124 = false from by decide, hl, hb]; try omega
      rw [e]
      exact opened_c124y s m w hs hm hb
  by_cases b41 : c = 41
  · subst b41
    cases hb : ((((s[m]'(by omega)).toNat : Nat) : Int) == 124)
    · have e : Wd.opened 41 s.data.toList = none := by simp [Wd.opened, hlen, show Wd.up 41 = false from by decide, hl, hb]; try omega
      rw [e]
      exact opened_c41n s m w hs hm hb
    · have e : Wd.opened 41 s.data.toList = some (2, s.data.toList.take m) := by simp [Wd.opened, hlen, show Wd.up 41 = false from by decide, hl, hb]; try omega
      rw [e]
      exact opened_c41y s m w hs hm hb
  by_cases b93 : c = 93
  · subst b93
    cases hb : ((((s[m]'(by omega)).toNat : Nat) : Int) == 91)
    · have e : Wd.opened 93 s.data.toList = none := by simp [Wd.opened, hlen, show Wd.up 93 = false from by decide, hl, hb]; try omega
      rw [e]
      exact opened_c93n s m w hs hm hb
    · have e : Wd.opened 93 s.data.toList = some (2, s.data.toList.take m) := by simp [Wd.opened, hlen, show Wd.up 93 = false from by decide, hl, hb]; try omega
      rw [e]
      exact opened_c93y s m w hs hm hb
  by_cases b125 : c = 125
  · subst b125
    cases hb : ((((s[m]'(by omega)).toNat : Nat) : Int) == 123)
    · have e : Wd.opened 125 s.data.toList = none := by simp [Wd.opened, hlen, show Wd.up 125 = false from by decide, hl, hb]; try omega
      rw [e]
      exact opened_c125n s m w hs hm hb
    · have e : Wd.opened 125 s.data.toList = some (0, []) := by simp [Wd.opened, hlen, show Wd.up 125 = false from by decide, hl, hb]; try omega
      rw [e]
      exact opened_c125y s m w hs hm hb
  cases hu : Wd.up c
  · have e : Wd.opened c s.data.toList = none := by simp [Wd.opened, hu, b43, b45, b114, b119, b60, b62, b122, b40, b91, b124, b41, b93, b125]
    rw [e]
    exact opened_no s m w hs hm c h0 h1 b43 b45 b114 b119 b60 b62 b122 b40 b91 b124 b41 b93 b125 hu
  · have e : Wd.opened c s.data.toList = some (2, s.data.toList) := by simp [Wd.opened, hu, b43, b45, b114, b119]
    rw [e]
    have hu' := hu
    simp [Wd.up] at hu'
    exact opened_up s m w hs hm c hu'.1 hu'.2

end Go.Proofs.Ytecmfdkhcffpmaa
