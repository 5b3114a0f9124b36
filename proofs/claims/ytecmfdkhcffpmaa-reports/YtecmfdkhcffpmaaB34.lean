/- RefJ, SrcF. -/
import Derived.Test.YtecmfdkhcffpmaaB15
import Derived.Test.YtecmfdkhcffpmaaB05
import Derived.Test.YtecmfdkhcffpmaaB18
import Derived.Lib.AppendStr
/- Contract of the document's 'unfolded'. -/
namespace Go.Proofs.Ytecmfdkhcffpmaa
open Go.RowKit
set_option linter.unusedSimpArgs false
set_option linter.unusedVariables false
set_option maxHeartbeats 800000

set_option maxRecDepth 100000 in
set_option maxHeartbeats 2000000 in
theorem unfolded_any (s t : ByteArray) (of : Nat → Int) (w : World) (hs : s.size ≤ 10000) (ho : ∀ j, 0 ≤ of j ∧ of j ≤ 301) (hH : ∀ c : Int, Wd.up c = true → 0 < of (c - 65).toNat → ∃ i, Wd.head s.data.toList c = some i) (hB : ∀ p, p ≤ 8 → (Wd.passN s.data.toList of t.data.toList p).length ≤ 100000) :
    Calls Try.prog 51 #[.string s, .string t, .agg (Wd.arr8 of)] w fun e w' => ∃ u : ByteArray, e = .returned (.string u) ∧ u.data.toList = Wd.passN s.data.toList of t.data.toList 8 ∧ Below w.heap.size w w' := by
  have HO := hide ho
  have HH := hide hH
  have HB := hide hB
  clear ho hH hB
  unfold Wd.arr8
  go_enter Try.func51, Try.ntmps51
  go_wp2
  have hN := heap_alloc_last w (.cells (Wd.arr8 of) 75)
  have hbe0 : Below w.heap.size w (w.alloc (.cells (Wd.arr8 of) 75)) := (Below.refl _ _).alloc (Nat.le_refl _) _
  rw [show (w.alloc (.cells #[.int .i64 (of 0), .int .i64 (of 1), .int .i64 (of 2), .int .i64 (of 3), .int .i64 (of 4), .int .i64 (of 5), .int .i64 (of 6), .int .i64 (of 7)] 75)) = w.alloc (.cells (Wd.arr8 of) 75) from rfl]
  generalize w.alloc (.cells (Wd.arr8 of) 75) = W at *
  have HN := hide hN
  have HB0 := hide hbe0
  clear hN hbe0
  go_loop [1, 7] (fun a b => ∃ (k : Nat) (u : ByteArray), k ≤ 8 ∧ b = .int .i64 k ∧ a = .string u ∧ u.data.toList = Wd.passN s.data.toList of t.data.toList k) (fun _ b => 8 - (intOf b).toNat)
  case atStart => exact ⟨0, t, by omega, rfl, rfl, rfl⟩
  case round =>
    obtain ⟨k, u, hk, rfl, rfl, hu⟩ := hrel
    have HU := hide hu
    clear hu
    by_cases hlt : k < 8
    · have hus : u.size ≤ 100000 := by rw [← Wd.len_str, HU.out]; exact HB.out k hk
      have hps : (Wd.pass s.data.toList of u.data.toList).length ≤ 100000 := by
        have := HB.out (k + 1) (by omega)
        rw [Wd.passN, ← HU.out] at this; exact this
      go_wp2_with fail
      go_loop [8, 9] (fun a b => ∃ (i : Nat) (o : ByteArray), i ≤ u.size ∧ b = .int .i64 i ∧ a = .string o ∧ o.data.toList = Wd.pass s.data.toList of (u.data.toList.take i)) (fun _ b => u.size - (intOf b).toNat)
      case atStart => exact ⟨0, ⟨#[]⟩, Nat.zero_le _, rfl, rfl, rfl⟩
      case round =>
        obtain ⟨i, o, hi, rfl, rfl, ho⟩ := hrel
        have HOO := hide ho
        have hos : o.size ≤ 100000 := by
          rw [← Wd.len_str, HOO.out]
          have := Wd.pass_take s.data.toList of u.data.toList i
          omega
        clear ho
        by_cases hil : i < u.size
        · have HS := hide (Wd.pass_snoc s.data.toList of u i hil)
          have b0 := Wd.at_lo u.data.toList i
          have b1 := Wd.at_hi u.data.toList i
          rw [← Wd.at_str u i hil] at b0 b1
          cases hup : Wd.up ((u[i].toNat : Nat) : Int)
          · have HC : Hid (Wd.passC s.data.toList of u[i] = [u[i]]) := by
              have : Wd.up (Wd.bt u[i]) = false := hup
              simp [Hid, Wd.passC, this]
            go_wp2_with (go_at_call 73; refine (upper_any _ _ b0 b1).mono ?_; rw [hup]; rintro e w' ⟨rfl, rfl⟩)
            refine ⟨⟨i + 1, _, by omega, by go_num, rfl, ?_⟩, by simp [intOf]; omega⟩
            rw [HS.out, HC.out, ← HOO.out]
            simp only [ByteArray.data_append, Array.toList_append, Wd.extract_str]
            congr 1
            rw [Nat.add_sub_cancel_left, Wd.drop_cons u i hil]; rfl
          · have hu' := hup
            simp [Wd.up] at hu'
            have HUP : Hid (Wd.up (Wd.bt u[i]) = true) := hup
            have hidx : Hid ((Wd.bt u[i] - 65).toNat = u[i].toNat - 65) := by apply hide; unfold Wd.bt; omega
            have ho' := HO.out (u[i].toNat - 65)
            have c1 := row_cell HN.out (Wd.arr8_at of (u[i].toNat - 65) (by omega))
            by_cases hg : 0 < of (u[i].toNat - 65)
            · obtain ⟨h, hh⟩ := HH.out ((u[i].toNat : Nat) : Int) hup (by rw [show (((u[i].toNat : Nat) : Int) - 65).toNat = u[i].toNat - 65 from by omega]; exact hg)
              have hhs : h + 2 ≤ s.size := by have := (Wd.head_some hh).1; rw [Wd.len_str] at this; omega
              have HC : Hid (Wd.passC s.data.toList of u[i] = Wd.body s.data.toList h) := by
                have e1 : Wd.head s.data.toList (Wd.bt u[i]) = some h := hh
                simp [Hid, Wd.passC, HUP.out, hidx.out, hg, e1]
              have HHD : Hid (Wd.toInt (Wd.head s.data.toList ((u[i].toNat : Nat) : Int)) = (h : Int)) := by rw [hh]; rfl
              have HLB : Hid (Wd.pass s.data.toList of (u.data.toList.take (i + 1)) = Wd.pass s.data.toList of (u.data.toList.take i) ++ Wd.body s.data.toList h) := by rw [HS.out, HC.out]; rfl
              have hlb : o.size + (Wd.body s.data.toList h).length ≤ 100000 := by
                rw [← Wd.len_str, HOO.out, ← List.length_append, ← HLB.out]
                have := Wd.pass_take s.data.toList of u.data.toList (i + 1)
                omega
              clear hh
              go_wp2_with (first | (go_at_call 73; refine (upper_any _ _ b0 b1).mono ?_; rw [hup]; rintro e w' ⟨rfl, rfl⟩) | (go_at_call 77; refine (head_any _ _ _ (by omega) b0 b1).mono ?_; rw [HHD.out]; rintro e w' ⟨rfl, rfl⟩) | (go_at_call 49; refine (body_any s h _ (by omega) hhs).mono ?_; rintro e w' ⟨tt, rfl, htt, htts, rfl⟩; have htl : tt.size = (Wd.body s.data.toList h).length := by rw [← Wd.len_str, htt]))
              refine ⟨⟨i + 1, _, by omega, by go_num, rfl, ?_⟩, by simp [intOf]; omega⟩
              rw [HLB.out, ← HOO.out, ← htt]
              simp
            · have HC : Hid (Wd.passC s.data.toList of u[i] = []) := by
                simp [Hid, Wd.passC, HUP.out, hidx.out, hg]
              go_wp2_with (first | (go_at_call 73; refine (upper_any _ _ b0 b1).mono ?_; rw [hup]; rintro e w' ⟨rfl, rfl⟩))
              refine ⟨⟨i + 1, o, by omega, by go_num, rfl, ?_⟩, by simp [intOf]; omega⟩
              rw [HS.out, HC.out, ← HOO.out]; simp
        · go_wp2
          refine ⟨⟨k + 1, o, by omega, by go_num, rfl, ?_⟩, by simp [intOf]; omega⟩
          rw [HOO.out, Wd.passN, ← HU.out, List.take_of_length_le (by rw [Wd.len_str]; omega)]
    · go_wp2
      go_ret
      obtain rfl : k = 8 := by omega
      exact ⟨u, rfl, HU.out, HB0.out⟩
end Go.Proofs.Ytecmfdkhcffpmaa
/- Contracts of the program's 'unknownName', 'allDone', 'unfold'. -/
namespace Go.Proofs.Ytecmfdkhcffpmaa
open Go.RowKit
set_option linter.unusedSimpArgs false
set_option linter.unusedVariables false
set_option maxHeartbeats 800000

theorem unknownName_any (s : ByteArray) (F : Nat → Wd.Fn) (v : Value) (b : Nat) (w : World) (hs : s.size ≤ 10000) (hb : w.heap[b]? = some (.cells (Wd.pgA v F) 167 (0, 0))) :
    Calls Try.prog 136 #[.pointer (some ⟨b, 0, none⟩), .string s] w fun e w' => e = .returned (.int .i64 (Wd.toInt (Wd.unknown F s.data.toList))) ∧ w' = w := by
  have HL := hide (Wd.len_str s)
  have HH := hide hb
  clear hb
  go_enter Try.func136, Try.ntmps136
  go_wp2
  go_loop [5] (fun i => ∃ k : Nat, k ≤ s.size ∧ i = .int .i64 k ∧ (∀ j, j < k → Wd.unkP F s.data.toList j = false)) (fun i => s.size - (intOf i).toNat)
  case atStart => exact ⟨0, Nat.zero_le _, rfl, fun j hj => by omega⟩
  case round =>
    obtain ⟨k, hk, rfl, hno⟩ := hrel
    have HN := hide hno
    clear hno
    by_cases hlt : k < s.size
    · have HP := hide (Wd.unkP_str F s k hlt)
      have b0 := Wd.at_lo s.data.toList k
      have b1 := Wd.at_hi s.data.toList k
      rw [← Wd.at_str s k hlt] at b0 b1
      cases hu : Wd.up ((s[k].toNat : Nat) : Int)
      · go_wp2_with (go_at_call 135; refine (isFunction_any _ _ b0 b1).mono ?_; rw [hu]; rintro e w' ⟨rfl, rfl⟩)
        go_round
        case rel => exact ⟨k + 1, by omega, by go_num, fun j hj => by
          by_cases e : j = k
          · subst e; rw [HP.out, hu]; rfl
          · exact HN.out j (by omega)⟩
        case measure => simp [intOf]; omega
      · have hu' := hu
        simp [Wd.up] at hu'
        have c0 : w.cell? ⟨b, 1 + (s[k].toNat - 65) * 5, none⟩ = some (.bool (F (s[k].toNat - 65)).there) := row_cell HH.out (Wd.pgA_at _ F _ 0 (by omega) _ rfl)
        cases ht : (F (s[k].toNat - 65)).there
        · rw [ht] at c0
          go_wp2_with (go_at_call 135; refine (isFunction_any _ _ b0 b1).mono ?_; rw [hu]; rintro e w' ⟨rfl, rfl⟩)
          go_ret
          refine ⟨ret_int ?_, rfl⟩
          rw [Wd.unknown, HL.out, Wd.first_yes hlt (by rw [HP.out, hu, ht]; rfl) HN.out]; rfl
        · rw [ht] at c0
          go_wp2_with (go_at_call 135; refine (isFunction_any _ _ b0 b1).mono ?_; rw [hu]; rintro e w' ⟨rfl, rfl⟩)
          go_round
          case rel => exact ⟨k + 1, by omega, by go_num, fun j hj => by
            by_cases e : j = k
            · subst e; rw [HP.out, hu, ht]; rfl
            · exact HN.out j (by omega)⟩
          case measure => simp [intOf]; omega
    · go_wp2
      go_ret
      refine ⟨ret_int ?_, rfl⟩
      rw [Wd.unknown, HL.out, Wd.first_no (fun j hj => HN.out j (by omega))]; rfl

theorem allDone_any (s : ByteArray) (F : Nat → Wd.Fn) (v : Value) (b : Nat) (w : World) (hs : s.size ≤ 10000) (hb : w.heap[b]? = some (.cells (Wd.pgA v F) 167 (0, 0))) :
    Calls Try.prog 159 #[.pointer (some ⟨b, 0, none⟩), .string s] w fun e w' => e = .returned (.bool (Wd.allDone F s.data.toList)) ∧ w' = w := by
  have HL := hide (Wd.len_str s)
  have HH := hide hb
  clear hb
  go_enter Try.func159, Try.ntmps159
  go_wp2
  go_loop [5] (fun i => ∃ k : Nat, k ≤ s.size ∧ i = .int .i64 k ∧ (∀ j, j < k → Wd.undoneP F s.data.toList j = false)) (fun i => s.size - (intOf i).toNat)
  case atStart => exact ⟨0, Nat.zero_le _, rfl, fun j hj => by omega⟩
  case round =>
    obtain ⟨k, hk, rfl, hno⟩ := hrel
    have HN := hide hno
    clear hno
    by_cases hlt : k < s.size
    · have HP := hide (Wd.undoneP_str F s k hlt)
      have b0 := Wd.at_lo s.data.toList k
      have b1 := Wd.at_hi s.data.toList k
      rw [← Wd.at_str s k hlt] at b0 b1
      cases hu : Wd.up ((s[k].toNat : Nat) : Int)
      · go_wp2_with (go_at_call 135; refine (isFunction_any _ _ b0 b1).mono ?_; rw [hu]; rintro e w' ⟨rfl, rfl⟩)
        go_round
        case rel => exact ⟨k + 1, by omega, by go_num, fun j hj => by
          by_cases e : j = k
          · subst e; rw [HP.out, hu]; rfl
          · exact HN.out j (by omega)⟩
        case measure => simp [intOf]; omega
      · have hu' := hu
        simp [Wd.up] at hu'
        have c0 : w.cell? ⟨b, 1 + (s[k].toNat - 65) * 5 + 2, none⟩ = some (.bool (F (s[k].toNat - 65)).done) := row_cell HH.out (Wd.pgA_at _ F _ 2 (by omega) _ rfl)
        cases ht : (F (s[k].toNat - 65)).done
        · rw [ht] at c0
          go_wp2_with (go_at_call 135; refine (isFunction_any _ _ b0 b1).mono ?_; rw [hu]; rintro e w' ⟨rfl, rfl⟩)
          go_ret
          exact ⟨by rw [Wd.allDone, HL.out, Wd.first_yes hlt (by rw [HP.out, hu, ht]; rfl) HN.out]; rfl, rfl⟩
        · rw [ht] at c0
          go_wp2_with (go_at_call 135; refine (isFunction_any _ _ b0 b1).mono ?_; rw [hu]; rintro e w' ⟨rfl, rfl⟩)
          go_round
          case rel => exact ⟨k + 1, by omega, by go_num, fun j hj => by
            by_cases e : j = k
            · subst e; rw [HP.out, hu, ht]; rfl
            · exact HN.out j (by omega)⟩
          case measure => simp [intOf]; omega
    · go_wp2
      go_ret
      exact ⟨by rw [Wd.allDone, HL.out, Wd.first_no (fun j hj => HN.out j (by omega))]; rfl, rfl⟩

/-- What 'unfold' leaves: the text and yes, or nothing and no; nothing old has turned. -/
def UnfPost (w : World) (r : Option (List UInt8)) (e : Ending) (w' : World) : Prop :=
  Below w.heap.size w w' ∧ (match r with | some t => e = .returned (.tuple #[.string (Wd.mkS t), .bool true]) | none => e = .returned (.tuple #[.string ⟨#[]⟩, .bool false]))

theorem own_some {w : World} {base : Nat} {e : TypeId} {size : Nat} {v : Value} {n : Nat} {xs : List Value} (h : w.ownsRow base e size v n xs) (hv : v ≠ .slice none 0 0) : ∃ g cap, v = .slice (some ⟨g, 0, none⟩) n cap := by
  rcases h.2 with ⟨h1, _⟩ | ⟨g, cap, cur, h1, _⟩
  · exact absurd h1 hv
  · exact ⟨g, cap, h1⟩
theorem own_bytes {w : World} {base : Nat} {g cap : Nat} {l : List UInt8} (h : w.ownsRow base 5 1 (.slice (some ⟨g, 0, none⟩) l.length cap) l.length (Wd.bytesV l)) :
    ∀ j (hj : j < l.length), w.cell? ((⟨g, 0, none⟩ : Addr).add j) = some (.int .u8 ((l[j].toNat : Nat) : Int)) := by
  intro j hj
  have := h.cells (g := g) rfl j (.int .u8 ((l[j].toNat : Nat) : Int)) (by simp [Wd.bytesV, Wd.bt, hj])
  exact this
theorem bytesV_app (a b : List UInt8) : Wd.bytesV (a ++ b) = Wd.bytesV a ++ Wd.bytesV b := by simp [Wd.bytesV]
theorem strCells_mkS (l : List UInt8) : Lib.strCells (Wd.mkS l) = Wd.bytesV l := rfl

set_option maxRecDepth 100000 in
set_option maxHeartbeats 1600000 in
theorem unfold_any (s : ByteArray) (F : Nat → Wd.Fn) (v : Value) (b : Nat) (w : World) (hs : s.size ≤ 10000) (hF : ∀ j, (F j).text.length ≤ 300) (hb : w.heap[b]? = some (.cells (Wd.pgA v F) 167 (0, 0))) :
    Calls Try.prog 138 #[.pointer (some ⟨b, 0, none⟩), .string s] w (UnfPost w (Wd.unfold F s.data.toList)) := by
  have HH := hide hb
  have HF := hide hF
  clear hb hF
  obtain ⟨i0, hi, hz0, hz1, hz2⟩ := info_parts Try.info5
  have hr0 : Hid (Wd.unfold F s.data.toList = Wd.unf F (s.data.toList.drop 0) []) := rfl
  generalize hr : Wd.unfold F s.data.toList = r at *
  clear hr
  go_enter Try.func138, Try.ntmps138
  go_wp2
  have s0 : (w.alloc (.cells #[] 5)).ownsRow w.heap.size 5 1 (.slice (some ⟨w.heap.size, 0, none⟩) 0 0) 0 [] := World.ownsRow_made w #[] 0 (Nat.le_refl _) (by unfold maxLen; omega) rfl
  have s1 : Below w.heap.size w (w.alloc (.cells #[] 5)) := (Below.refl _ _).alloc (Nat.le_refl _) _
  generalize w.alloc (.cells #[] 5) = W at *
  go_loopw [6, 7] (fun a b wr => ∃ (k : Nat) (acc : List UInt8) (g cap : Nat), k ≤ s.size ∧ b = .int .i64 k ∧ acc.length ≤ 300 ∧ a = .slice (some ⟨g, 0, none⟩) acc.length cap ∧ wr.ownsRow w.heap.size 5 1 (.slice (some ⟨g, 0, none⟩) acc.length cap) acc.length (Wd.bytesV acc) ∧ r = Wd.unf F (s.data.toList.drop k) acc ∧ Below w.heap.size w wr) (fun _ b _ => s.size - (intOf b).toNat)
  case atStart => exact ⟨0, [], w.heap.size, 0, Nat.zero_le _, rfl, by simp, rfl, s0, hr0.out, s1⟩
  case round =>
    clear s0 s1 hr0
    obtain ⟨k, acc, g, cap, hk, rfl, hal, rfl, hown, hr, hbe⟩ := hrel
    have HO := hide hown
    have HR := hide hr
    have HB := hide hbe
    clear hown hr hbe
    by_cases hlt : k < s.size
    · have HS := hide (Wd.unf_step F s k acc hlt)
      have b0 := Wd.at_lo s.data.toList k
      have b1 := Wd.at_hi s.data.toList k
      rw [← Wd.at_str s k hlt] at b0 b1
      cases hu : Wd.up ((s[k].toNat : Nat) : Int)
      · have HE : Hid (r = if 300 < (acc ++ [s[k]]).length then none else Wd.unf F (s.data.toList.drop (k + 1)) (acc ++ [s[k]])) := by
          apply hide; rw [HR.out, HS.out, hu]; rfl
        by_cases hg : 300 < acc.length + 1
        · have HE2 : Hid (r = none) := by apply hide; rw [HE.out, if_pos (by simp; omega)]
          go_wp2_with (first | (go_at_call 135; refine (isFunction_any _ _ b0 b1).mono ?_; rw [hu]; rintro e w' ⟨rfl, rfl⟩) | (at_builtin; refine wpList_append_own _ rfl _ _ 83 rfl w.heap.size 5 i0 (.int .u8 0) 1 1 Try.underlying83 hi hz0 hz1 hz2 rfl (by decide) _ _ _ rfl (HO.out.alloc _) ⟨_, 0, none⟩ 1 1 [.int .u8 ((s[k].toNat : Nat) : Int)] rfl rfl (cell_one_new _ _ _) (fun x hx => by simp at hx; subst hx; rfl) (by unfold maxLen; omega) (by omega) (by have := HB.out.size; simp; omega) ?_; intro v' w3 hown' hgrow3 hnil3; obtain ⟨g', cap', rfl⟩ := own_some hown' (fun e => by have h9 := (hnil3.1 e).1; cases h9); have HG := hide hgrow3; have HW := hide hown'; clear hgrow3 hown' hnil3))
          go_ret2
          rw [HE2.out]
          exact ⟨((HB.out.alloc HB.out.size _).grown HG.out (by have := HB.out.size; simp; omega) (fun q hq => (HO.out.lt q hq).1)), rfl⟩
        · have HE2 : Hid (r = Wd.unf F (s.data.toList.drop (k + 1)) (acc ++ [s[k]])) := by apply hide; rw [HE.out, if_neg (by simp; omega)]
          go_wp2_with (first | (go_at_call 135; refine (isFunction_any _ _ b0 b1).mono ?_; rw [hu]; rintro e w' ⟨rfl, rfl⟩) | (at_builtin; refine wpList_append_own _ rfl _ _ 83 rfl w.heap.size 5 i0 (.int .u8 0) 1 1 Try.underlying83 hi hz0 hz1 hz2 rfl (by decide) _ _ _ rfl (HO.out.alloc _) ⟨_, 0, none⟩ 1 1 [.int .u8 ((s[k].toNat : Nat) : Int)] rfl rfl (cell_one_new _ _ _) (fun x hx => by simp at hx; subst hx; rfl) (by unfold maxLen; omega) (by omega) (by have := HB.out.size; simp; omega) ?_; intro v' w3 hown' hgrow3 hnil3; obtain ⟨g', cap', rfl⟩ := own_some hown' (fun e => by have h9 := (hnil3.1 e).1; cases h9); have HG := hide hgrow3; have HW := hide hown'; clear hgrow3 hown' hnil3))
          refine ⟨⟨k + 1, acc ++ [s[k]], g', cap', by omega, by go_num, by simp; omega, by simp, ?_, HE2.out, ((HB.out.alloc HB.out.size _).grown HG.out (by have := HB.out.size; simp; omega) (fun q hq => (HO.out.lt q hq).1))⟩, by simp [intOf]; omega⟩
          rw [bytesV_app]
          have := HW.out
          simpa [Wd.bytesV, Wd.bt] using this
      · have hu' := hu
        simp [Wd.up] at hu'
        have HBl := hide (below_row HB.out HH.out)
        have r0 : wr.cell? ⟨b, 1 + (s[k].toNat - 65) * 5, none⟩ = some (.bool (F (s[k].toNat - 65)).there) := row_cell HBl.out (Wd.pgA_at _ F _ 0 (by omega) _ rfl)
        have r1 : wr.cell? ⟨b, 1 + (s[k].toNat - 65) * 5 + 1, none⟩ = some (.string (Wd.mkS (F (s[k].toNat - 65)).body)) := row_cell HBl.out (Wd.pgA_at _ F _ 1 (by omega) _ rfl)
        have r2 : wr.cell? ⟨b, 1 + (s[k].toNat - 65) * 5 + 2, none⟩ = some (.bool (F (s[k].toNat - 65)).done) := row_cell HBl.out (Wd.pgA_at _ F _ 2 (by omega) _ rfl)
        have r3 : wr.cell? ⟨b, 1 + (s[k].toNat - 65) * 5 + 3, none⟩ = some (.bool (F (s[k].toNat - 65)).fits) := row_cell HBl.out (Wd.pgA_at _ F _ 3 (by omega) _ rfl)
        have r4 : wr.cell? ⟨b, 1 + (s[k].toNat - 65) * 5 + 4, none⟩ = some (.string (Wd.mkS (F (s[k].toNat - 65)).text)) := row_cell HBl.out (Wd.pgA_at _ F _ 4 (by omega) _ rfl)
        have htl := HF.out (s[k].toNat - 65)
        have HE : Hid (r = if (F (s[k].toNat - 65)).fits = true then (if 300 < (acc ++ (F (s[k].toNat - 65)).text).length then none else Wd.unf F (s.data.toList.drop (k + 1)) (acc ++ (F (s[k].toNat - 65)).text)) else none) := by
          apply hide; rw [HR.out, HS.out, hu]; rfl
        generalize F (s[k].toNat - 65) = f at *
        obtain ⟨fth, fbd, fdn, fft, ftx⟩ := f
        simp only at r0 r1 r2 r3 r4 htl HE
        have htx : (Wd.mkS ftx).size = ftx.length := Wd.mkS_size ftx
        have hsc : Hid (Lib.strCells (Wd.mkS ftx) = Wd.bytesV ftx) := rfl
        generalize Wd.mkS ftx = tx at *
        generalize Wd.mkS fbd = bd at *
        have hts : tx.size ≤ 300 := by omega
        have HTX := hide htx
        clear htx
        cases fft
        · have HE2 : Hid (r = none) := by apply hide; rw [HE.out]; rfl
          go_wp2_with (go_at_call 135; refine (isFunction_any _ _ b0 b1).mono ?_; rw [hu]; rintro e w' ⟨rfl, rfl⟩)
          go_ret2
          rw [HE2.out]
          exact ⟨HB.out.alloc HB.out.size _, rfl⟩
        · by_cases hg : 300 < acc.length + tx.size
          · have HE2 : Hid (r = none) := by
              have := HTX.out
              apply hide; rw [HE.out, if_pos rfl, if_pos (by simp; omega)]
            go_wp2_with (first | (go_at_call 135; refine (isFunction_any _ _ b0 b1).mono ?_; rw [hu]; rintro e w' ⟨rfl, rfl⟩) | (at_builtin; refine Lib.wpList_append_own_string _ rfl _ _ 83 9 rfl w.heap.size 5 i0 Try.underlying83 Try.underlying9 hi hz0 hz1 hz2 _ _ _ rfl (HO.out.alloc _) tx rfl (by unfold maxLen; omega) (by omega) (by have := HB.out.size; simp; omega) ?_; intro v' w3 hown' hgrow3 hnil3; obtain ⟨g', cap', rfl⟩ := own_some hown' (fun e => by have h9 := (hnil3.1 e).1; cases h9); have HG := hide hgrow3; have HW := hide hown'; clear hgrow3 hown' hnil3))
            go_ret2
            rw [HE2.out]
            exact ⟨(((HB.out.alloc HB.out.size _)).grown HG.out (by have := HB.out.size; simp; omega) (fun q hq => (HO.out.lt q hq).1)), rfl⟩
          · have HE2 : Hid (r = Wd.unf F (s.data.toList.drop (k + 1)) (acc ++ ftx)) := by
              have := HTX.out
              apply hide; rw [HE.out, if_pos rfl, if_neg (by simp; omega)]
            go_wp2_with (first | (go_at_call 135; refine (isFunction_any _ _ b0 b1).mono ?_; rw [hu]; rintro e w' ⟨rfl, rfl⟩) | (at_builtin; refine Lib.wpList_append_own_string _ rfl _ _ 83 9 rfl w.heap.size 5 i0 Try.underlying83 Try.underlying9 hi hz0 hz1 hz2 _ _ _ rfl (HO.out.alloc _) tx rfl (by unfold maxLen; omega) (by omega) (by have := HB.out.size; simp; omega) ?_; intro v' w3 hown' hgrow3 hnil3; obtain ⟨g', cap', rfl⟩ := own_some hown' (fun e => by have h9 := (hnil3.1 e).1; cases h9); have HG := hide hgrow3; have HW := hide hown'; clear hgrow3 hown' hnil3))
            have htx := HTX.out
            refine ⟨⟨k + 1, acc ++ ftx, g', cap', by omega, by go_num, by simp; omega, by simp [htx], ?_, HE2.out, (((HB.out.alloc HB.out.size _)).grown HG.out (by have := HB.out.size; simp; omega) (fun q hq => (HO.out.lt q hq).1))⟩, by simp [intOf]; omega⟩
            rw [bytesV_app, List.length_append, ← htx, ← hsc.out]
            exact HW.out
    · have hcv := run_convert_bytes_back (P := Try.prog) wr 83 9 5 ⟨g, 0, none⟩ cap acc Try.underlying83 Try.underlying5 Try.underlying9 (own_bytes HO.out)
      go_wp2
      go_ret2
      rw [HR.out, Wd.unf_end F s k acc (by omega)]
      exact ⟨HB.out, rfl⟩
end Go.Proofs.Ytecmfdkhcffpmaa
