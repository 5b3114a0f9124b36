/- SrcC, SrcD. -/
import Derived.Test.YtecmfdkhcffpmabB05
import Derived.Test.YtecmfdkhcffpmabB01
import Derived.Deep.RegionHeld3
import Derived.Deep.AppendLies
/- Contracts of the program's reader of the form: 'take' and 'faultOfText'. -/
namespace Go.Proofs.Ytecmfdkhcffpmab
open Go.RowKit
set_option linter.unusedSimpArgs false
set_option linter.unusedVariables false
set_option maxHeartbeats 800000

theorem take_w0 (c : Int) (w : World) (b : Nat) (st : Wd.St) (hw : st.want = 0) (hi : st.items ≤ 8) (hol : st.op.length ≤ 10000) (h0 : 0 ≤ c) (h1 : c ≤ 255) (hsc : Sc w b st) :
    Calls Try.prog 78 #[.pointer (some ⟨b, 0, none⟩), .int .u8 c] w (ScPost w b (Wd.stepP st c)) := by
  have HX := hide (takeItem_any c w b st hw hi h0 h1 hsc)
  obtain ⟨want, op, items⟩ := st
  simp only at hw
  subst hw
  obtain ⟨v, hh, hown⟩ := id hsc
  simp only at hh hown
  have c0 := row_cell (j := 0) hh rfl
  have f0 := frozen_of_row _ b 0 _ _ hh
  have HS := hide hsc
  clear hh hown hsc
  cases hr : Wd.stepP ⟨0, op, items⟩ c with
  | none =>
    rw [hr] at HX
    clear hr
    go_enter Try.func78, Try.ntmps78
    go_wp2_with fail
    refine HX.out.mono ?_
    rintro e w' ⟨hbe, rfl⟩
    have HB := hide hbe
    clear hbe
    go_wp2_with fail
    go_ret
    exact ⟨HB.out, rfl⟩
  | some st' =>
    rw [hr] at HX
    clear hr
    go_enter Try.func78, Try.ntmps78
    go_wp2_with fail
    refine HX.out.mono ?_
    rintro e w' ⟨hbe, rfl, hsc'⟩
    have HB := hide hbe
    have HC := hide hsc'
    clear hbe hsc'
    go_wp2_with fail
    go_ret
    exact ⟨HB.out, rfl, HC.out⟩

theorem take_w1 (c : Int) (w : World) (b : Nat) (st : Wd.St) (hw : st.want = 1) (hi : st.items ≤ 8) (hol : st.op.length ≤ 10000) (h0 : 0 ≤ c) (h1 : c ≤ 255) (hsc : Sc w b st) :
    Calls Try.prog 78 #[.pointer (some ⟨b, 0, none⟩), .int .u8 c] w (ScPost w b (Wd.stepP st c)) := by
  obtain ⟨want, op, items⟩ := st
  simp only at hw
  subst hw
  obtain ⟨v, hh, hown⟩ := id hsc
  simp only at hh hown
  have c0 := row_cell (j := 0) hh rfl
  have f0 := frozen_of_row _ b 0 _ _ hh
  have HS := hide hsc
  clear hh hown hsc
  cases hc : (c == 123)
  · have e : Wd.stepP ⟨1, op, items⟩ c = none := by simp at hc; simp [Wd.stepP, hc]
    rw [e]
    clear e
    go_enter Try.func78, Try.ntmps78
    go_wp2
    go_ret
    exact ⟨below_set (Below.refl _ _) _, rfl⟩
  · have e : Wd.stepP ⟨1, op, items⟩ c = some ⟨2, op, items⟩ := by simp at hc; simp [Wd.stepP, hc]
    rw [e]
    clear e
    go_enter Try.func78, Try.ntmps78
    go_wp2
    go_ret
    exact ⟨below_set (Below.refl _ _) _, rfl, HS.out.want 2⟩

theorem take_w3 (c : Int) (w : World) (b : Nat) (st : Wd.St) (hw : st.want = 3) (hi : st.items ≤ 8) (hol : st.op.length ≤ 10000) (h0 : 0 ≤ c) (h1 : c ≤ 255) (hsc : Sc w b st) :
    Calls Try.prog 78 #[.pointer (some ⟨b, 0, none⟩), .int .u8 c] w (ScPost w b (Wd.stepP st c)) := by
  obtain ⟨want, op, items⟩ := st
  simp only at hw
  subst hw
  obtain ⟨v, hh, hown⟩ := id hsc
  simp only at hh hown
  have c0 := row_cell (j := 0) hh rfl
  have f0 := frozen_of_row _ b 0 _ _ hh
  have HS := hide hsc
  clear hh hown hsc
  by_cases ha : 97 ≤ c
  · by_cases hb : c < 103
    · have e : Wd.stepP ⟨3, op, items⟩ c = some ⟨2, op, items⟩ := by
        have : Wd.lk c = true := by simp [Wd.lk]; omega
        simp [Wd.stepP, this]
      rw [e]
      clear e
      go_enter Try.func78, Try.ntmps78
      go_wp2
      go_ret
      exact ⟨below_set (Below.refl _ _) _, rfl, HS.out.want 2⟩
    · have e : Wd.stepP ⟨3, op, items⟩ c = none := by
        have : Wd.lk c = false := by simp [Wd.lk]; omega
        simp [Wd.stepP, this]
      rw [e]
      clear e
      go_enter Try.func78, Try.ntmps78
      go_wp2
      go_ret
      exact ⟨below_set (Below.refl _ _) _, rfl⟩
  · have e : Wd.stepP ⟨3, op, items⟩ c = none := by
      have : Wd.lk c = false := by simp [Wd.lk]; omega
      simp [Wd.stepP, this]
    rw [e]
    clear e
    go_enter Try.func78, Try.ntmps78
    go_wp2
    go_ret
    exact ⟨below_set (Below.refl _ _) _, rfl⟩

theorem take_w4 (c : Int) (w : World) (b : Nat) (st : Wd.St) (hw : st.want = 4) (hi : st.items ≤ 8) (hol : st.op.length ≤ 10000) (h0 : 0 ≤ c) (h1 : c ≤ 255) (hsc : Sc w b st) :
    Calls Try.prog 78 #[.pointer (some ⟨b, 0, none⟩), .int .u8 c] w (ScPost w b (Wd.stepP st c)) := by
  obtain ⟨want, op, items⟩ := st
  simp only at hw
  subst hw
  obtain ⟨v, hh, hown⟩ := id hsc
  simp only at hh hown
  have c0 := row_cell (j := 0) hh rfl
  have f0 := frozen_of_row _ b 0 _ _ hh
  have HS := hide hsc
  clear hh hown hsc
  by_cases ha : 48 ≤ c
  · by_cases hb : c < 52
    · have e : Wd.stepP ⟨4, op, items⟩ c = some ⟨2, op, items⟩ := by
        have : Wd.cl c = true := by simp [Wd.cl]; omega
        simp [Wd.stepP, this]
      rw [e]
      clear e
      go_enter Try.func78, Try.ntmps78
      go_wp2
      go_ret
      exact ⟨below_set (Below.refl _ _) _, rfl, HS.out.want 2⟩
    · have e : Wd.stepP ⟨4, op, items⟩ c = none := by
        have : Wd.cl c = false := by simp [Wd.cl]; omega
        simp [Wd.stepP, this]
      rw [e]
      clear e
      go_enter Try.func78, Try.ntmps78
      go_wp2
      go_ret
      exact ⟨below_set (Below.refl _ _) _, rfl⟩
  · have e : Wd.stepP ⟨4, op, items⟩ c = none := by
      have : Wd.cl c = false := by simp [Wd.cl]; omega
      simp [Wd.stepP, this]
    rw [e]
    clear e
    go_enter Try.func78, Try.ntmps78
    go_wp2
    go_ret
    exact ⟨below_set (Below.refl _ _) _, rfl⟩

theorem take_w2 (c : Int) (w : World) (b : Nat) (st : Wd.St) (hw : st.want = 2) (hi : st.items ≤ 8) (hol : st.op.length ≤ 10000) (h0 : 0 ≤ c) (h1 : c ≤ 255) (hsc : Sc w b st) :
    Calls Try.prog 78 #[.pointer (some ⟨b, 0, none⟩), .int .u8 c] w (ScPost w b (Wd.stepP st c)) := by
  have HX := hide (inBody_any c w b st h0 h1 hol hsc)
  obtain ⟨want, op, items⟩ := st
  simp only at hw
  subst hw
  obtain ⟨v, hh, hown⟩ := id hsc
  simp only at hh hown
  have c0 := row_cell (j := 0) hh rfl
  have f0 := frozen_of_row _ b 0 _ _ hh
  have HS := hide hsc
  clear hh hown hsc
  have e : Wd.stepP ⟨2, op, items⟩ c = Wd.bodyP ⟨2, op, items⟩ c := by simp [Wd.stepP]
  rw [e]
  clear e
  cases hr : Wd.bodyP ⟨2, op, items⟩ c with
  | none =>
    rw [hr] at HX
    clear hr
    go_enter Try.func78, Try.ntmps78
    go_wp2_with fail
    refine HX.out.mono ?_
    rintro e w' ⟨hbe, rfl⟩
    have HB := hide hbe
    clear hbe
    go_wp2_with fail
    go_ret
    exact ⟨HB.out, rfl⟩
  | some st' =>
    rw [hr] at HX
    clear hr
    go_enter Try.func78, Try.ntmps78
    go_wp2_with fail
    refine HX.out.mono ?_
    rintro e w' ⟨hbe, rfl, hsc'⟩
    have HB := hide hbe
    have HC := hide hsc'
    clear hbe hsc'
    go_wp2_with fail
    go_ret
    exact ⟨HB.out, rfl, HC.out⟩

/-- The program's reader: what is to come is one of the five; the items are at most eight; no more is open than bytes were read. -/
def Wd.St.fine (st : Wd.St) (k : Nat) : Prop := st.items ≤ 8 ∧ st.op.length ≤ k ∧ (st.want = 0 ∨ st.want = 1 ∨ st.want = 2 ∨ st.want = 3 ∨ st.want = 4)

theorem take_any (c : Int) (w : World) (b k : Nat) (st : Wd.St) (hf : st.fine k) (hk : k ≤ 10000) (h0 : 0 ≤ c) (h1 : c ≤ 255) (hsc : Sc w b st) :
    Calls Try.prog 78 #[.pointer (some ⟨b, 0, none⟩), .int .u8 c] w (ScPost w b (Wd.stepP st c)) := by
  obtain ⟨hi, hol, hw⟩ := hf
  rcases hw with hw | hw | hw | hw | hw
  · exact take_w0 c w b st hw hi (by omega) h0 h1 hsc
  · exact take_w1 c w b st hw hi (by omega) h0 h1 hsc
  · exact take_w2 c w b st hw hi (by omega) h0 h1 hsc
  · exact take_w3 c w b st hw hi (by omega) h0 h1 hsc
  · exact take_w4 c w b st hw hi (by omega) h0 h1 hsc

theorem shut_len {o o' : List UInt8} {c : Int} (h : Wd.shut o c = some o') : o'.length + 1 ≤ o.length := by
  simp only [Wd.shut] at h
  split at h
  · cases h; simp; omega
  · cases h

theorem step_fine {st st' : Wd.St} {c : Int} {k : Nat} (hf : st.fine k) (h : Wd.stepP st c = some st') : st'.fine (k + 1) := by
  obtain ⟨want, op, items⟩ := st
  obtain ⟨h1, h2, h3⟩ := hf
  simp only at h1 h2 h3
  unfold Wd.stepP at h
  simp only at h
  split at h
  · split at h
    · cases h; exact ⟨by simp; omega, by simp; omega, by simp⟩
    · cases h
  split at h
  · split at h
    · cases h; exact ⟨h1, by simp; omega, by simp⟩
    · cases h
  split at h
  · split at h
    · cases h; exact ⟨h1, by simp; omega, by simp⟩
    · cases h
  split at h
  · split at h
    · cases h; exact ⟨h1, by simp; omega, by simp⟩
    · cases h
  have hw : want = 2 := by omega
  subst hw
  unfold Wd.bodyP at h
  simp only at h
  repeat' (split at h)
  all_goals first
    | (cases h; done)
    | (rename_i hq; cases h; have := shut_len hq; refine ⟨h1, ?_, ?_⟩ <;> simp <;> omega)
    | (cases h; refine ⟨h1, ?_, ?_⟩ <;> simp <;> omega)
    | (cases h; refine ⟨h1, ?_, ?_⟩ <;> simp)

set_option maxHeartbeats 1000000 in
theorem faultOfText_any (s : ByteArray) (w : World) (hs : s.size ≤ 9000) :
    Calls Try.prog 60 #[.string s] w fun e w' => e = .returned (.int .i64 (Wd.toInt (Wd.fault s.data.toList))) ∧ Below w.heap.size w w' := by
  go_enter Try.func60, Try.ntmps60
  go_wp2
  have s0 : Sc (w.alloc (.cells #[.int .i64 0, .int .i64 0, .slice none 0 0] 151)) w.heap.size ⟨0, [], 0⟩ := ⟨_, heap_alloc_last _ _, World.ownsRow_nil _ _ _ _⟩
  have s1 : Below w.heap.size w (w.alloc (.cells #[.int .i64 0, .int .i64 0, .slice none 0 0] 151)) := (Below.refl _ _).alloc (Nat.le_refl _) _
  generalize w.alloc (.cells #[.int .i64 0, .int .i64 0, .slice none 0 0] 151) = W at *
  go_loopw [4] (fun a wr => ∃ (k : Nat) (st : Wd.St), k ≤ s.size ∧ a = .int .i64 k ∧ st.fine k ∧ Wd.fault s.data.toList = Wd.faultFrom (s.data.toList.drop k) k st ∧ Sc wr w.heap.size st ∧ Below w.heap.size w wr) (fun a _ => s.size - (intOf a).toNat)
  case atStart => exact ⟨0, ⟨0, [], 0⟩, Nat.zero_le _, rfl, ⟨by decide, by decide, Or.inl rfl⟩, rfl, s0, s1⟩
  case round =>
    clear s0 s1
    obtain ⟨k, st, hk, rfl, hf, hp, hsc, hbe⟩ := hrel
    have HF := hide hf
    have HP := hide hp
    have HS := hide hsc
    have HB := hide hbe
    clear hf hp hbe
    by_cases hlt : k < s.size
    · clear hsc
      have b0 := Wd.at_lo s.data.toList k
      have b1 := Wd.at_hi s.data.toList k
      rw [← Wd.at_str s k hlt] at b0 b1
      have HT := take_any ((s[k].toNat : Nat) : Int) wr w.heap.size k st HF.out (by omega) b0 b1 HS.out
      have HE := hide (Wd.faultFrom_step s k st hlt)
      cases hr : Wd.stepP st ((s[k].toNat : Nat) : Int) with
      | none =>
        rw [hr] at HT HE
        have HTT := hide HT
        clear HT hr
        go_wp2_with (go_at_call 78; refine HTT.out.mono ?_; rintro e w' ⟨hbe, rfl⟩)
        go_ret
        exact ⟨ret_int (by rw [HP.out, HE.out]; rfl), HB.out.trans hbe⟩
      | some st' =>
        have HF' := hide (step_fine HF.out hr)
        rw [hr] at HT HE
        have HTT := hide HT
        clear HT hr
        go_wp2_with (go_at_call 78; refine HTT.out.mono ?_; rintro e w' ⟨hbe, rfl, hsc'⟩)
        go_roundw
        case rel => exact ⟨k + 1, st', by omega, by go_num, HF'.out, by rw [HP.out, HE.out], hsc', HB.out.trans hbe⟩
        case measure => simp [intOf]; omega
    · obtain ⟨v, hh, hown⟩ := hsc
      have c0 := row_cell (j := 0) hh rfl
      have c1 := row_cell (j := 1) hh rfl
      clear hh hown
      have HE := hide (Wd.faultFrom_end s k st (by omega) hk)
      cases hw : (st.want != 0)
      · cases hi : ((st.items : Int) == 0)
        · go_wp2
          go_ret
          refine ⟨ret_int ?_, HB.out⟩
          simp at hw hi
          rw [HP.out, HE.out]; simp [hw, hi, Wd.toInt]
        · go_wp2
          go_ret
          refine ⟨ret_int ?_, HB.out⟩
          simp at hw hi
          rw [HP.out, HE.out]; simp [hw, hi, Wd.toInt]
      · go_wp2
        go_ret
        refine ⟨ret_int ?_, HB.out⟩
        simp at hw
        rw [HP.out, HE.out]; simp [hw, Wd.toInt]
end Go.Proofs.Ytecmfdkhcffpmab
/- Contract of the program's 'add': a part is laid behind the others; a function's body goes to its place. -/
namespace Go.Proofs.Ytecmfdkhcffpmab
open Go.RowKit
set_option linter.unusedSimpArgs false
set_option linter.unusedVariables false
set_option maxHeartbeats 800000

/-- The program in block b, its parts in a row of their own above b. -/
def Pg (w : World) (b : Nat) (ps : List Wd.Part) (F : Nat → Wd.Fn) : Prop := ∃ v, w.heap[b]? = some (.cells (Wd.pgA v F) 128 (0, 0)) ∧ w.ownsRow (b + 1) 154 3 v ps.length (Wd.partsV ps)

theorem Try.info66 : (Try.prog.info? 154).map (fun i => (i.zero, i.size, i.bytes)) = some (some (.agg #[.int .u8 0, .int .i64 0, .string ByteArray.empty]), 3, 32) := by kernel_rfl

theorem news3 {w : World} {B : Nat} {a b c : Value} {t : TypeId} (hb : w.heap[B]? = some (.cells #[a, b, c] t (0, 0))) : ∀ j u, [a, b, c][j]? = some u → w.cell? ((⟨B, 0, none⟩ : Addr).add j) = some u :=
  World.news_of_block (cs := #[a, b, c]) hb

theorem Pg.slice {w : World} {b : Nat} {ps : List Wd.Part} {F : Nat → Wd.Fn} {v v' : Value} (h1 : w.heap[b]? = some (.cells (Wd.pgA v F) 128 (0, 0))) (h2 : w.ownsRow (b + 1) 154 3 v' ps.length (Wd.partsV ps)) : Pg (w.setCell ⟨b, 0, none⟩ v') b ps F :=
  ⟨v', by rw [heap_setCell_same _ _ _ _ _ _ h1, Wd.pgA_slice], ownsRow_setCell_below h2 (by simp) _⟩
theorem Pg.fn {w : World} {b : Nat} {ps : List Wd.Part} {F : Nat → Wd.Fn} {v : Value} (h1 : w.heap[b]? = some (.cells (Wd.pgA v F) 128 (0, 0))) (h2 : w.ownsRow (b + 1) 154 3 v ps.length (Wd.partsV ps)) (i : Nat) (hi : i < 8) (f : Wd.Fn) :
    Pg (((((w.setCell ⟨b, 1 + i * 5, none⟩ (.bool f.there)).setCell ⟨b, 1 + i * 5 + 1, none⟩ (.string (Wd.mkS f.body))).setCell ⟨b, 1 + i * 5 + 2, none⟩ (.bool f.done)).setCell ⟨b, 1 + i * 5 + 3, none⟩ (.bool f.fits)).setCell ⟨b, 1 + i * 5 + 4, none⟩ (.string (Wd.mkS f.text))) b ps (fun j => if j = i then f else F j) := by
  have a1 := heap_setCell_same w b (1 + i * 5) _ _ (.bool f.there) h1
  have a2 := heap_setCell_same _ b (1 + i * 5 + 1) _ _ (.string (Wd.mkS f.body)) a1
  have a3 := heap_setCell_same _ b (1 + i * 5 + 2) _ _ (.bool f.done) a2
  have a4 := heap_setCell_same _ b (1 + i * 5 + 3) _ _ (.bool f.fits) a3
  have a5 := heap_setCell_same _ b (1 + i * 5 + 4) _ _ (.string (Wd.mkS f.text)) a4
  rw [Wd.pgA_set v F i f hi] at a5
  exact ⟨v, a5, ownsRow_setCell_below (ownsRow_setCell_below (ownsRow_setCell_below (ownsRow_setCell_below (ownsRow_setCell_below h2 (by simp) _) (by simp) _) (by simp) _) (by simp) _) (by simp) _⟩
theorem Pg.draw {w : World} {b : Nat} {ps : List Wd.Part} {F : Nat → Wd.Fn} (h : Pg w b ps F) : Pg w.drew b ps F := h
theorem parts_snoc {w : World} {base g cap : Nat} {ps : List Wd.Part} {p : Wd.Part} {l : List Value} (hl : l = Wd.partV p) (h : w.ownsRow base 154 3 (.slice (some ⟨g, 0, none⟩) (ps.length + 1) cap) (ps.length + 1) (Wd.partsV ps ++ l)) :
    w.ownsRow base 154 3 (.slice (some ⟨g, 0, none⟩) (ps.length + 1) cap) (ps ++ [p]).length (Wd.partsV (ps ++ [p])) := by
  rw [Wd.partsV_snoc, ← hl, List.length_append]; exact h

set_option maxRecDepth 100000 in
theorem add_one (w : World) (b : Nat) (ps : List Wd.Part) (F : Nat → Wd.Fn) (letter : Int) (pos : Nat) (s : ByteArray) (h0 : 0 ≤ letter) (h1 : letter ≤ 255) (hl : ps.length ≤ 10000) (hpg : Pg w b ps F) (hup : Wd.up letter = false) :
    Calls Try.prog 79 #[.pointer (some ⟨b, 0, none⟩), .agg #[.int .u8 letter, .int .i64 (pos : Int), .string s]] w fun e w' => e = .returned (.tuple #[]) ∧ Pg w' b (ps ++ [⟨letter, pos, s.data.toList⟩]) F ∧ Below b w w' := by
  obtain ⟨v, hh, hown⟩ := hpg
  obtain ⟨i0, hi0, hz0, hz1, hz2⟩ := info_parts Try.info66
  have hb := row_lt hh
  have hvN0 : v.ownBlock ≠ some w.heap.size := fun e => by have := (hown.lt _ e).2; omega
  have HO := hide hown
  have HH := hide hh
  clear hown hh
  go_enter Try.func79, Try.ntmps79
  go_wp2_with fail
  have g1 : (w.alloc (.cells #[.int .u8 letter, .int .i64 (pos : Int), .string s] 154)).heap[b]? = some (.cells (Wd.pgA v F) 128 (0, 0)) := by
    rw [heap_alloc_old _ _ hb]; exact HH.out
  have g2 := heap_alloc_last w (.cells #[.int .u8 letter, .int .i64 (pos : Int), .string s] 154)
  have g3 := HO.out.alloc (.cells #[.int .u8 letter, .int .i64 (pos : Int), .string s] 154)
  have g4 : Below b w (w.alloc (.cells #[.int .u8 letter, .int .i64 (pos : Int), .string s] 154)) := (Below.refl _ _).alloc (by omega) _
  have g5 : (w.alloc (.cells #[.int .u8 letter, .int .i64 (pos : Int), .string s] 154)).heap.size = w.heap.size + 1 := by simp
  generalize w.alloc (.cells #[.int .u8 letter, .int .i64 (pos : Int), .string s] 154) = W at *
  generalize w.heap.size = N at *
  clear HO HH
  have c0 : W.cell? ⟨b, 0, none⟩ = some v := row_cell g1 rfl
  have f0 := frozen_of_row _ b 0 _ _ g1
  have d0 : W.cell? ⟨N, 0, none⟩ = some (.int .u8 letter) := row_cell g2 rfl
  have d1 : W.cell? ⟨N, 1, none⟩ = some (.int .i64 (pos : Int)) := row_cell g2 rfl
  have d2 : W.cell? ⟨N, 2, none⟩ = some (.string s) := row_cell g2 rfl
  have G1 := hide g1
  have G2 := hide g2
  have G3 := hide g3
  have G4 := hide g4
  have G5 := hide g5
  have hbN : b < N := hb
  have hvb : v.ownBlock ≠ some b := fun e => by have := (G3.out.lt b e).1; omega
  clear g1 g2 g3 g4 g5 hb
  have HU : Hid (∀ (w1 : World), (W.alloc (.cells #[.int .u8 letter, .int .i64 (pos : Int), .string s] 154)).drew.grownBy w1 v.ownBlock → (w1.heap[b]? = some (.cells (Wd.pgA v F) 128 (0, 0)) ∧ w1.heap[N]? = some (.cells #[.int .u8 letter, .int .i64 (pos : Int), .string s] 154 (0, 0)) ∧ Below b w w1)) := by
    apply hide
    intro w1 hg
    have s5 := G5.out
    refine ⟨?_, ?_, ?_⟩
    · rw [hg.block b (by simp; omega) (Ne.symm hvb), heap_drew, heap_alloc_old _ _ (by omega)]; exact G1.out
    · rw [hg.block N (by simp; omega) (Ne.symm hvN0), heap_drew, heap_alloc_old _ _ (by omega)]; exact G2.out
    · exact ((G4.out.alloc (by omega) _).drew).grown hg (by simp; omega) (fun k hk => by have := (G3.out.lt k hk).1; omega)
  have c0' : (W.alloc (.cells #[.int .u8 letter, .int .i64 (pos : Int), .string s] 154)).cell? ⟨b, 0, none⟩ = some v := by rw [World.cell?_alloc_past _ _ _ (by rw [G5.out]; show b < N + 1; omega)]; exact c0
  go_region_law ((refine step_append_lies _ (by rfl) _ _ _ (by rfl) (b + 1) 154 i0 _ 3 32 Try.underlying123 hi0 hz0 hz1 hz2 rfl (by omega) v ps.length (Wd.partsV ps) (by rfl) ((G3.out.alloc _).drew) ⟨W.heap.size, 0, none⟩ 1 1 [.int .u8 letter, .int .i64 (pos : Int), .string s] (by rfl) (by rfl) (news3 (heap_alloc_new W _)) (by simp [Value.oneCell']) (by omega) (by unfold maxLen; omega) (by omega) (by simp [G5.out]; omega) (W.heap.size + 1) (by simp) ?_; intro gg cap w1 hown1 hgrow hat hlt; have k0 : w1.cell? ⟨b, 0, none⟩ = some v := row_cell (HU.out w1 hgrow).1 rfl; have e0 := frozen_of_row _ b 0 _ _ (HU.out w1 hgrow).1; have m0 : w1.cell? ⟨N, 0, none⟩ = some (.int .u8 letter) := row_cell (HU.out w1 hgrow).2.1 rfl; have m2 : w1.cell? ⟨N, 2, none⟩ = some (.string s) := row_cell (HU.out w1 hgrow).2.1 rfl; have HG := hide hgrow; have HW := hide hown1; clear hgrow hown1 hat hlt))
  all_goals go_wp2_with (go_at_call 80; refine (isFunction_any _ _ h0 h1).mono ?_; rw [hup]; rintro e w' ⟨rfl, rfl⟩)
  all_goals go_end0
  all_goals exact ⟨rfl, Pg.slice (HU.out _ HG.out).1 (parts_snoc (p := ⟨letter, pos, s.data.toList⟩) rfl HW.out), below_set (HU.out _ HG.out).2.2 _⟩

set_option maxRecDepth 100000 in
set_option maxHeartbeats 3000000 in
theorem add_fn (w : World) (b : Nat) (ps : List Wd.Part) (F : Nat → Wd.Fn) (letter : Int) (pos : Nat) (s : ByteArray) (h0 : 0 ≤ letter) (h1 : letter ≤ 255) (hl : ps.length ≤ 10000) (hpg : Pg w b ps F) (hup : Wd.up letter = true) :
    Calls Try.prog 79 #[.pointer (some ⟨b, 0, none⟩), .agg #[.int .u8 letter, .int .i64 (pos : Int), .string s]] w fun e w' => e = .returned (.tuple #[]) ∧ Pg w' b (ps ++ [⟨letter, pos, s.data.toList⟩]) (fun j => if j = (letter - 65).toNat then ⟨true, s.data.toList, false, false, []⟩ else F j) ∧ Below b w w' := by
  obtain ⟨v, hh, hown⟩ := hpg
  obtain ⟨i0, hi0, hz0, hz1, hz2⟩ := info_parts Try.info66
  have hb := row_lt hh
  have hvN0 : v.ownBlock ≠ some w.heap.size := fun e => by have := (hown.lt _ e).2; omega
  have HO := hide hown
  have HH := hide hh
  clear hown hh
  have hup' := hup
  simp [Wd.up] at hup'
  go_enter Try.func79, Try.ntmps79
  go_wp2_with fail
  have g1 : (w.alloc (.cells #[.int .u8 letter, .int .i64 (pos : Int), .string s] 154)).heap[b]? = some (.cells (Wd.pgA v F) 128 (0, 0)) := by
    rw [heap_alloc_old _ _ hb]; exact HH.out
  have g2 := heap_alloc_last w (.cells #[.int .u8 letter, .int .i64 (pos : Int), .string s] 154)
  have g3 := HO.out.alloc (.cells #[.int .u8 letter, .int .i64 (pos : Int), .string s] 154)
  have g4 : Below b w (w.alloc (.cells #[.int .u8 letter, .int .i64 (pos : Int), .string s] 154)) := (Below.refl _ _).alloc (by omega) _
  have g5 : (w.alloc (.cells #[.int .u8 letter, .int .i64 (pos : Int), .string s] 154)).heap.size = w.heap.size + 1 := by simp
  generalize w.alloc (.cells #[.int .u8 letter, .int .i64 (pos : Int), .string s] 154) = W at *
  generalize w.heap.size = N at *
  clear HO HH
  have c0 : W.cell? ⟨b, 0, none⟩ = some v := row_cell g1 rfl
  have f0 := frozen_of_row _ b 0 _ _ g1
  have d0 : W.cell? ⟨N, 0, none⟩ = some (.int .u8 letter) := row_cell g2 rfl
  have d1 : W.cell? ⟨N, 1, none⟩ = some (.int .i64 (pos : Int)) := row_cell g2 rfl
  have d2 : W.cell? ⟨N, 2, none⟩ = some (.string s) := row_cell g2 rfl
  have G1 := hide g1
  have G2 := hide g2
  have G3 := hide g3
  have G4 := hide g4
  have G5 := hide g5
  have hbN : b < N := hb
  have hvb : v.ownBlock ≠ some b := fun e => by have := (G3.out.lt b e).1; omega
  clear g1 g2 g3 g4 g5 hb
  have HU : Hid (∀ (w1 : World), (W.alloc (.cells #[.int .u8 letter, .int .i64 (pos : Int), .string s] 154)).drew.grownBy w1 v.ownBlock → (w1.heap[b]? = some (.cells (Wd.pgA v F) 128 (0, 0)) ∧ w1.heap[N]? = some (.cells #[.int .u8 letter, .int .i64 (pos : Int), .string s] 154 (0, 0)) ∧ Below b w w1)) := by
    apply hide
    intro w1 hg
    have s5 := G5.out
    refine ⟨?_, ?_, ?_⟩
    · rw [hg.block b (by simp; omega) (Ne.symm hvb), heap_drew, heap_alloc_old _ _ (by omega)]; exact G1.out
    · rw [hg.block N (by simp; omega) (Ne.symm hvN0), heap_drew, heap_alloc_old _ _ (by omega)]; exact G2.out
    · exact ((G4.out.alloc (by omega) _).drew).grown hg (by simp; omega) (fun k hk => by have := (G3.out.lt k hk).1; omega)
  have c0' : (W.alloc (.cells #[.int .u8 letter, .int .i64 (pos : Int), .string s] 154)).cell? ⟨b, 0, none⟩ = some v := by rw [World.cell?_alloc_past _ _ _ (by rw [G5.out]; show b < N + 1; omega)]; exact c0
  go_region_law ((refine step_append_lies _ (by rfl) _ _ _ (by rfl) (b + 1) 154 i0 _ 3 32 Try.underlying123 hi0 hz0 hz1 hz2 rfl (by omega) v ps.length (Wd.partsV ps) (by rfl) ((G3.out.alloc _).drew) ⟨W.heap.size, 0, none⟩ 1 1 [.int .u8 letter, .int .i64 (pos : Int), .string s] (by rfl) (by rfl) (news3 (heap_alloc_new W _)) (by simp [Value.oneCell']) (by omega) (by unfold maxLen; omega) (by omega) (by simp [G5.out]; omega) (W.heap.size + 1) (by simp) ?_; intro gg cap w1 hown1 hgrow hat hlt; have k0 : w1.cell? ⟨b, 0, none⟩ = some v := row_cell (HU.out w1 hgrow).1 rfl; have e0 := frozen_of_row _ b 0 _ _ (HU.out w1 hgrow).1; have m0 : w1.cell? ⟨N, 0, none⟩ = some (.int .u8 letter) := row_cell (HU.out w1 hgrow).2.1 rfl; have m2 : w1.cell? ⟨N, 2, none⟩ = some (.string s) := row_cell (HU.out w1 hgrow).2.1 rfl; have HG := hide hgrow; have HW := hide hown1; clear hgrow hown1 hat hlt))
  all_goals go_wp2_with (go_at_call 80; refine (isFunction_any _ _ h0 h1).mono ?_; rw [hup]; rintro e w' ⟨rfl, rfl⟩)
  all_goals
    have q1 : (w1.setCell ⟨b, 0, none⟩ (.slice (some ⟨gg, 0, none⟩) (ps.length + 1) cap)).heap[b]? = some (.cells (Wd.pgA (.slice (some ⟨gg, 0, none⟩) (ps.length + 1) cap) F) 128 (0, 0)) := by
      rw [heap_setCell_same _ _ _ _ _ _ (HU.out _ HG.out).1, Wd.pgA_slice]
    have q2 : (w1.setCell ⟨b, 0, none⟩ (.slice (some ⟨gg, 0, none⟩) (ps.length + 1) cap)).heap[N]? = some (.cells #[.int .u8 letter, .int .i64 (pos : Int), .string s] 154 (0, 0)) := by
      rw [heap_setCell_other _ _ _ _ (by show N ≠ b; omega)]; exact (HU.out _ HG.out).2.1
    have q3 := ownsRow_setCell_below (a := ⟨b, 0, none⟩) (parts_snoc (p := ⟨letter, pos, s.data.toList⟩) rfl HW.out) (by simp) (.slice (some ⟨gg, 0, none⟩) (ps.length + 1) cap)
    have q4 := below_set (o := 0) (HU.out _ HG.out).2.2 (.slice (some ⟨gg, 0, none⟩) (ps.length + 1) cap)
    clear k0 e0 m0 m2 c0 c0' f0 d0 d1 d2
    generalize w1.setCell ⟨b, 0, none⟩ (.slice (some ⟨gg, 0, none⟩) (ps.length + 1) cap) = W2 at *
    generalize Value.slice (some ⟨gg, 0, none⟩) (ps.length + 1) cap = V at *
    have hi8 : (letter - 65).toNat < 8 := by omega
    have r0 : W2.cell? ⟨b, 1 + (letter - 65).toNat * 5, none⟩ = some (.bool (F (letter - 65).toNat).there) := row_cell q1 (Wd.pgA_at _ F _ 0 hi8 _ rfl)
    have r1 : W2.cell? ⟨b, 1 + (letter - 65).toNat * 5 + 1, none⟩ = some (.string (Wd.mkS (F (letter - 65).toNat).body)) := row_cell q1 (Wd.pgA_at _ F _ 1 hi8 _ rfl)
    have r2 : W2.cell? ⟨b, 1 + (letter - 65).toNat * 5 + 2, none⟩ = some (.bool (F (letter - 65).toNat).done) := row_cell q1 (Wd.pgA_at _ F _ 2 hi8 _ rfl)
    have r3 : W2.cell? ⟨b, 1 + (letter - 65).toNat * 5 + 3, none⟩ = some (.bool (F (letter - 65).toNat).fits) := row_cell q1 (Wd.pgA_at _ F _ 3 hi8 _ rfl)
    have r4 : W2.cell? ⟨b, 1 + (letter - 65).toNat * 5 + 4, none⟩ = some (.string (Wd.mkS (F (letter - 65).toNat).text)) := row_cell q1 (Wd.pgA_at _ F _ 4 hi8 _ rfl)
    have z0 := frozen_of_row W2 b (1 + (letter - 65).toNat * 5) _ _ q1
    have z1 := frozen_of_row W2 b (1 + (letter - 65).toNat * 5 + 1) _ _ q1
    have z2 := frozen_of_row W2 b (1 + (letter - 65).toNat * 5 + 2) _ _ q1
    have z3 := frozen_of_row W2 b (1 + (letter - 65).toNat * 5 + 3) _ _ q1
    have z4 := frozen_of_row W2 b (1 + (letter - 65).toNat * 5 + 4) _ _ q1
    have m0 : W2.cell? ⟨N, 0, none⟩ = some (.int .u8 letter) := row_cell q2 rfl
    have m2 : W2.cell? ⟨N, 2, none⟩ = some (.string s) := row_cell q2 rfl
    have Q1 := hide q1
    have Q3 := hide q3
    have Q4 := hide q4
    clear q1 q2 q3 q4
    go_region
  all_goals go_wp2
  all_goals go_end0
  all_goals exact ⟨rfl, Pg.draw (Pg.fn Q1.out Q3.out (letter - 65).toNat hi8 ⟨true, s.data.toList, false, false, []⟩), (below_set (below_set (below_set (below_set (below_set Q4.out _) _) _) _) _).drew⟩

theorem add_any (w : World) (b : Nat) (ps : List Wd.Part) (F : Nat → Wd.Fn) (letter : Int) (pos : Nat) (s : ByteArray) (h0 : 0 ≤ letter) (h1 : letter ≤ 255) (hl : ps.length ≤ 10000) (hpg : Pg w b ps F) :
    Calls Try.prog 79 #[.pointer (some ⟨b, 0, none⟩), .agg #[.int .u8 letter, .int .i64 (pos : Int), .string s]] w fun e w' => e = .returned (.tuple #[]) ∧ Pg w' b (ps ++ [⟨letter, pos, s.data.toList⟩]) (Wd.addF F ⟨letter, pos, s.data.toList⟩) ∧ Below b w w' := by
  cases hup : Wd.up letter
  · have e : Wd.addF F ⟨letter, pos, s.data.toList⟩ = F := by simp [Wd.addF, hup]
    rw [e]
    exact add_one w b ps F letter pos s h0 h1 hl hpg hup
  · have e : Wd.addF F ⟨letter, pos, s.data.toList⟩ = (fun j => if j = (letter - 65).toNat then ⟨true, s.data.toList, false, false, []⟩ else F j) := by simp [Wd.addF, hup]
    rw [e]
    exact add_fn w b ps F letter pos s h0 h1 hl hpg hup
end Go.Proofs.Ytecmfdkhcffpmab
