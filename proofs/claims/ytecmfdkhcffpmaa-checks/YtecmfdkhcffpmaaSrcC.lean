/- Contracts of the program's reader of the form: 'take' and 'faultOfText'. -/
import Derived.Test.YtecmfdkhcffpmaaSrcB
namespace Go.Proofs.Ytecmfdkhcffpmaa
open Go.RowKit
set_option linter.unusedSimpArgs false
set_option linter.unusedVariables false
set_option maxHeartbeats 800000

theorem take_w0 (c : Int) (w : World) (b : Nat) (st : Wd.St) (hw : st.want = 0) (hi : st.items ≤ 8) (hol : st.op.length ≤ 10000) (h0 : 0 ≤ c) (h1 : c ≤ 255) (hsc : Sc w b st) :
    Calls Try.prog 133 #[.pointer (some ⟨b, 0, none⟩), .int .u8 c] w (ScPost w b (Wd.stepP st c)) := by
  have HX := hide (takeItem_any c w b st hw hi h0 h1 hsc)
  obtain ⟨want, op, items⟩ := st
  simp only at hw
  subst hw
  obtain ⟨v, hh, hown⟩ := id hsc
  simp only at hh hown
  have c0 := row_cell (j := 0) hh rfl
  have f0 := frozen_of_row _ b 0 _ _ hh
  have HS := hide hsc
  clear hh hown hsc
  cases hr : Wd.stepP ⟨0, op, items⟩ c with
  | none =>
    rw [hr] at HX
    clear hr
    go_enter Try.func133, Try.ntmps133
    go_wp2_with fail
    refine HX.out.mono ?_
    rintro e w' ⟨hbe, rfl⟩
    have HB := hide hbe
    clear hbe
    go_wp2_with fail
    go_ret
    exact ⟨HB.out, rfl⟩
  | some st' =>
    rw [hr] at HX
    clear hr
    go_enter Try.func133, Try.ntmps133
    go_wp2_with fail
    refine HX.out.mono ?_
    rintro e w' ⟨hbe, rfl, hsc'⟩
    have HB := hide hbe
    have HC := hide hsc'
    clear hbe hsc'
    go_wp2_with fail
    go_ret
    exact ⟨HB.out, rfl, HC.out⟩

theorem take_w1 (c : Int) (w : World) (b : Nat) (st : Wd.St) (hw : st.want = 1) (hi : st.items ≤ 8) (hol : st.op.length ≤ 10000) (h0 : 0 ≤ c) (h1 : c ≤ 255) (hsc : Sc w b st) :
    Calls Try.prog 133 #[.pointer (some ⟨b, 0, none⟩), .int .u8 c] w (ScPost w b (Wd.stepP st c)) := by
  obtain ⟨want, op, items⟩ := st
  simp only at hw
  subst hw
  obtain ⟨v, hh, hown⟩ := id hsc
  simp only at hh hown
  have c0 := row_cell (j := 0) hh rfl
  have f0 := frozen_of_row _ b 0 _ _ hh
  have HS := hide hsc
  clear hh hown hsc
  cases hc : (c == 123)
  · have e : Wd.stepP ⟨1, op, items⟩ c = none := by simp at hc; simp [Wd.stepP, hc]
    rw [e]
    clear e
    go_enter Try.func133, Try.ntmps133
    go_wp2
    go_ret
    exact ⟨below_set (Below.refl _ _) _, rfl⟩
  · have e : Wd.stepP ⟨1, op, items⟩ c = some ⟨2, op, items⟩ := by simp at hc; simp [Wd.stepP, hc]
    rw [e]
    clear e
    go_enter Try.func133, Try.ntmps133
    go_wp2
    go_ret
    exact ⟨below_set (Below.refl _ _) _, rfl, HS.out.want 2⟩

theorem take_w3 (c : Int) (w : World) (b : Nat) (st : Wd.St) (hw : st.want = 3) (hi : st.items ≤ 8) (hol : st.op.length ≤ 10000) (h0 : 0 ≤ c) (h1 : c ≤ 255) (hsc : Sc w b st) :
    Calls Try.prog 133 #[.pointer (some ⟨b, 0, none⟩), .int .u8 c] w (ScPost w b (Wd.stepP st c)) := by
  obtain ⟨want, op, items⟩ := st
  simp only at hw
  subst hw
  obtain ⟨v, hh, hown⟩ := id hsc
  simp only at hh hown
  have c0 := row_cell (j := 0) hh rfl
  have f0 := frozen_of_row _ b 0 _ _ hh
  have HS := hide hsc
  clear hh hown hsc
  by_cases ha : 97 ≤ c
  · by_cases hb : c < 103
    · have e : Wd.stepP ⟨3, op, items⟩ c = some ⟨2, op, items⟩ := by
        have : Wd.lk c = true := by simp [Wd.lk]; omega
        simp [Wd.stepP, this]
      rw [e]
      clear e
      go_enter Try.func133, Try.ntmps133
      go_wp2
      go_ret
      exact ⟨below_set (Below.refl _ _) _, rfl, HS.out.want 2⟩
    · have e : Wd.stepP ⟨3, op, items⟩ c = none := by
        have : Wd.lk c = false := by simp [Wd.lk]; omega
        simp [Wd.stepP, this]
      rw [e]
      clear e
      go_enter Try.func133, Try.ntmps133
      go_wp2
      go_ret
      exact ⟨below_set (Below.refl _ _) _, rfl⟩
  · have e : Wd.stepP ⟨3, op, items⟩ c = none := by
      have : Wd.lk c = false := by simp [Wd.lk]; omega
      simp [Wd.stepP, this]
    rw [e]
    clear e
    go_enter Try.func133, Try.ntmps133
    go_wp2
    go_ret
    exact ⟨below_set (Below.refl _ _) _, rfl⟩

theorem take_w4 (c : Int) (w : World) (b : Nat) (st : Wd.St) (hw : st.want = 4) (hi : st.items ≤ 8) (hol : st.op.length ≤ 10000) (h0 : 0 ≤ c) (h1 : c ≤ 255) (hsc : Sc w b st) :
    Calls Try.prog 133 #[.pointer (some ⟨b, 0, none⟩), .int .u8 c] w (ScPost w b (Wd.stepP st c)) := by
  obtain ⟨want, op, items⟩ := st
  simp only at hw
  subst hw
  obtain ⟨v, hh, hown⟩ := id hsc
  simp only at hh hown
  have c0 := row_cell (j := 0) hh rfl
  have f0 := frozen_of_row _ b 0 _ _ hh
  have HS := hide hsc
  clear hh hown hsc
  by_cases ha : 48 ≤ c
  · by_cases hb : c < 52
    · have e : Wd.stepP ⟨4, op, items⟩ c = some ⟨2, op, items⟩ := by
        have : Wd.cl c = true := by simp [Wd.cl]; omega
        simp [Wd.stepP, this]
      rw [e]
      clear e
      go_enter Try.func133, Try.ntmps133
      go_wp2
      go_ret
      exact ⟨below_set (Below.refl _ _) _, rfl, HS.out.want 2⟩
    · have e : Wd.stepP ⟨4, op, items⟩ c = none := by
        have : Wd.cl c = false := by simp [Wd.cl]; omega
        simp [Wd.stepP, this]
      rw [e]
      clear e
      go_enter Try.func133, Try.ntmps133
      go_wp2
      go_ret
      exact ⟨below_set (Below.refl _ _) _, rfl⟩
  · have e : Wd.stepP ⟨4, op, items⟩ c = none := by
      have : Wd.cl c = false := by simp [Wd.cl]; omega
      simp [Wd.stepP, this]
    rw [e]
    clear e
    go_enter Try.func133, Try.ntmps133
    go_wp2
    go_ret
    exact ⟨below_set (Below.refl _ _) _, rfl⟩

theorem take_w2 (c : Int) (w : World) (b : Nat) (st : Wd.St) (hw : st.want = 2) (hi : st.items ≤ 8) (hol : st.op.length ≤ 10000) (h0 : 0 ≤ c) (h1 : c ≤ 255) (hsc : Sc w b st) :
    Calls Try.prog 133 #[.pointer (some ⟨b, 0, none⟩), .int .u8 c] w (ScPost w b (Wd.stepP st c)) := by
  have HX := hide (inBody_any c w b st h0 h1 hol hsc)
  obtain ⟨want, op, items⟩ := st
  simp only at hw
  subst hw
  obtain ⟨v, hh, hown⟩ := id hsc
  simp only at hh hown
  have c0 := row_cell (j := 0) hh rfl
  have f0 := frozen_of_row _ b 0 _ _ hh
  have HS := hide hsc
  clear hh hown hsc
  have e : Wd.stepP ⟨2, op, items⟩ c = Wd.bodyP ⟨2, op, items⟩ c := by simp [Wd.stepP]
  rw [e]
  clear e
  cases hr : Wd.bodyP ⟨2, op, items⟩ c with
  | none =>
    rw [hr] at HX
    clear hr
    go_enter Try.func133, Try.ntmps133
    go_wp2_with fail
    refine HX.out.mono ?_
    rintro e w' ⟨hbe, rfl⟩
    have HB := hide hbe
    clear hbe
    go_wp2_with fail
    go_ret
    exact ⟨HB.out, rfl⟩
  | some st' =>
    rw [hr] at HX
    clear hr
    go_enter Try.func133, Try.ntmps133
    go_wp2_with fail
    refine HX.out.mono ?_
    rintro e w' ⟨hbe, rfl, hsc'⟩
    have HB := hide hbe
    have HC := hide hsc'
    clear hbe hsc'
    go_wp2_with fail
    go_ret
    exact ⟨HB.out, rfl, HC.out⟩

/-- The program's reader: what is to come is one of the five; the items are at most eight; no more is open than bytes were read. -/
def Wd.St.fine (st : Wd.St) (k : Nat) : Prop := st.items ≤ 8 ∧ st.op.length ≤ k ∧ (st.want = 0 ∨ st.want = 1 ∨ st.want = 2 ∨ st.want = 3 ∨ st.want = 4)

theorem take_any (c : Int) (w : World) (b k : Nat) (st : Wd.St) (hf : st.fine k) (hk : k ≤ 10000) (h0 : 0 ≤ c) (h1 : c ≤ 255) (hsc : Sc w b st) :
    Calls Try.prog 133 #[.pointer (some ⟨b, 0, none⟩), .int .u8 c] w (ScPost w b (Wd.stepP st c)) := by
  obtain ⟨hi, hol, hw⟩ := hf
  rcases hw with hw | hw | hw | hw | hw
  · exact take_w0 c w b st hw hi (by omega) h0 h1 hsc
  · exact take_w1 c w b st hw hi (by omega) h0 h1 hsc
  · exact take_w2 c w b st hw hi (by omega) h0 h1 hsc
  · exact take_w3 c w b st hw hi (by omega) h0 h1 hsc
  · exact take_w4 c w b st hw hi (by omega) h0 h1 hsc

theorem shut_len {o o' : List UInt8} {c : Int} (h : Wd.shut o c = some o') : o'.length + 1 ≤ o.length := by
  simp only [Wd.shut] at h
  split at h
  · cases h; simp; omega
  · cases h

theorem step_fine {st st' : Wd.St} {c : Int} {k : Nat} (hf : st.fine k) (h : Wd.stepP st c = some st') : st'.fine (k + 1) := by
  obtain ⟨want, op, items⟩ := st
  obtain ⟨h1, h2, h3⟩ := hf
  simp only at h1 h2 h3
  unfold Wd.stepP at h
  simp only at h
  split at h
  · split at h
    · cases h; exact ⟨by simp; omega, by simp; omega, by simp⟩
    · cases h
  split at h
  · split at h
    · cases h; exact ⟨h1, by simp; omega, by simp⟩
    · cases h
  split at h
  · split at h
    · cases h; exact ⟨h1, by simp; omega, by simp⟩
    · cases h
  split at h
  · split at h
    · cases h; exact ⟨h1, by simp; omega, by simp⟩
    · cases h
  have hw : want = 2 := by omega
  subst hw
  unfold Wd.bodyP at h
  simp only at h
  repeat' (split at h)
  all_goals first
    | (cases h; done)
    | (rename_i hq; cases h; have := shut_len hq; refine ⟨h1, ?_, ?_⟩ <;> simp <;> omega)
    | (cases h; refine ⟨h1, ?_, ?_⟩ <;> simp <;> omega)
    | (cases h; refine ⟨h1, ?_, ?_⟩ <;> simp)

set_option maxHeartbeats 1000000 in
theorem faultOfText_any (s : ByteArray) (w : World) (hs : s.size ≤ 9000) :
    Calls Try.prog 106 #[.string s] w fun e w' => e = .returned (.int .i64 (Wd.toInt (Wd.fault s.data.toList))) ∧ Below w.heap.size w w' := by
  go_enter Try.func106, Try.ntmps106
  go_wp2
  have s0 : Sc (w.alloc (.cells #[.int .i64 0, .int .i64 0, .slice none 0 0] 197)) w.heap.size ⟨0, [], 0⟩ := ⟨_, heap_alloc_last _ _, World.ownsRow_nil _ _ _ _⟩
  have s1 : Below w.heap.size w (w.alloc (.cells #[.int .i64 0, .int .i64 0, .slice none 0 0] 197)) := (Below.refl _ _).alloc (Nat.le_refl _) _
  generalize w.alloc (.cells #[.int .i64 0, .int .i64 0, .slice none 0 0] 197) = W at *
  go_loopw [4] (fun a wr => ∃ (k : Nat) (st : Wd.St), k ≤ s.size ∧ a = .int .i64 k ∧ st.fine k ∧ Wd.fault s.data.toList = Wd.faultFrom (s.data.toList.drop k) k st ∧ Sc wr w.heap.size st ∧ Below w.heap.size w wr) (fun a _ => s.size - (intOf a).toNat)
  case atStart => exact ⟨0, ⟨0, [], 0⟩, Nat.zero_le _, rfl, ⟨by decide, by decide, Or.inl rfl⟩, rfl, s0, s1⟩
  case round =>
    clear s0 s1
    obtain ⟨k, st, hk, rfl, hf, hp, hsc, hbe⟩ := hrel
    have HF := hide hf
    have HP := hide hp
    have HS := hide hsc
    have HB := hide hbe
    clear hf hp hbe
    by_cases hlt : k < s.size
    · clear hsc
      have b0 := Wd.at_lo s.data.toList k
      have b1 := Wd.at_hi s.data.toList k
      rw [← Wd.at_str s k hlt] at b0 b1
      have HT := take_any ((s[k].toNat : Nat) : Int) wr w.heap.size k st HF.out (by omega) b0 b1 HS.out
      have HE := hide (Wd.faultFrom_step s k st hlt)
      cases hr : Wd.stepP st ((s[k].toNat : Nat) : Int) with
      | none =>
        rw [hr] at HT HE
        have HTT := hide HT
        clear HT hr
        go_wp2_with (go_at_call 133; refine HTT.out.mono ?_; rintro e w' ⟨hbe, rfl⟩)
        go_ret
        exact ⟨ret_int (by rw [HP.out, HE.out]; rfl), HB.out.trans hbe⟩
      | some st' =>
        have HF' := hide (step_fine HF.out hr)
        rw [hr] at HT HE
        have HTT := hide HT
        clear HT hr
        go_wp2_with (go_at_call 133; refine HTT.out.mono ?_; rintro e w' ⟨hbe, rfl, hsc'⟩)
        go_roundw
        case rel => exact ⟨k + 1, st', by omega, by go_num, HF'.out, by rw [HP.out, HE.out], hsc', HB.out.trans hbe⟩
        case measure => simp [intOf]; omega
    · obtain ⟨v, hh, hown⟩ := hsc
      have c0 := row_cell (j := 0) hh rfl
      have c1 := row_cell (j := 1) hh rfl
      clear hh hown
      have HE := hide (Wd.faultFrom_end s k st (by omega) hk)
      cases hw : (st.want != 0)
      · cases hi : ((st.items : Int) == 0)
        · go_wp2
          go_ret
          refine ⟨ret_int ?_, HB.out⟩
          simp at hw hi
          rw [HP.out, HE.out]; simp [hw, hi, Wd.toInt]
        · go_wp2
          go_ret
          refine ⟨ret_int ?_, HB.out⟩
          simp at hw hi
          rw [HP.out, HE.out]; simp [hw, hi, Wd.toInt]
      · go_wp2
        go_ret
        refine ⟨ret_int ?_, HB.out⟩
        simp at hw
        rw [HP.out, HE.out]; simp [hw, Wd.toInt]
end Go.Proofs.Ytecmfdkhcffpmaa
