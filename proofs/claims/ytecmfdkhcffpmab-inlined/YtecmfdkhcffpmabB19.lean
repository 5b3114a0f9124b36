/- RunK, SrcG, SrcH. -/
import Derived.Test.YtecmfdkhcffpmabB18
import Derived.Test.YtecmfdkhcffpmabB09
import Derived.Laws.BytesArg
import Derived.Laws.IdiomStrings
import Derived.Test.YtecmfdkhcffpmabB01
/- What Run answers, plain; what both machines' traces need. -/
namespace Go.Proofs.Ytecmfdkhcffpmab
open Go.RowKit
set_option linter.unusedSimpArgs false
set_option linter.unusedVariables false
set_option maxHeartbeats 8000000
open Mc
theorem conv_own {w : World} {base : Nat} {v : Value} {l : List UInt8} (h : w.ownsRow base 5 1 v l.length (Wd.bytesV l)) : (convert 30 9 v).run Try.prog w = .ok (.string (Wd.mkS l)) w := by
  rcases h.2 with ⟨rfl, h0⟩ | ⟨g, cap, cur, rfl, _⟩
  · rw [run_convert_bytes_nil w 30 5 Try.underlying30 Try.underlying5 0 0 9 Try.underlying9, List.eq_nil_of_length_eq_zero h0]; rfl
  · exact run_convert_bytes_back (P := Try.prog) w 30 9 5 ⟨g, 0, none⟩ cap l Try.underlying30 Try.underlying5 Try.underlying9 (own_bytes h)
theorem traceB_cons (its : List Wd.It) (n : Nat) (S : Ma) (s : ByteArray) (k : Nat) (h : k + 1 < s.size) : traceB its n S (s.data.toList.drop k) = u8 (command its S n (((s[k].toNat : Nat) : Int) - 48).toNat ((s[k + 1].toNat : Nat) : Int)).1 :: (if bad (command its S n (((s[k].toNat : Nat) : Int) - 48).toNat ((s[k + 1].toNat : Nat) : Int)).1 = true then [] else traceB its n (command its S n (((s[k].toNat : Nat) : Int) - 48).toNat ((s[k + 1].toNat : Nat) : Int)).2 (s.data.toList.drop (k + 2))) := by
  rw [Wd.drop_cons s k (by omega), Wd.drop_cons s (k + 1) h]; rfl
theorem traceB_end (its : List Wd.It) (n : Nat) (S : Ma) (s : ByteArray) (k : Nat) (h : ¬ k + 1 < s.size) : traceB its n S (s.data.toList.drop k) = [] := by
  have hl : (s.data.toList.drop k).length ≤ 1 := by rw [List.length_drop, Wd.len_str]; omega
  generalize s.data.toList.drop k = l at hl
  match l, hl with
  | [], _ => rfl
  | [_], _ => rfl
theorem scriptB_two (n : Int) (s : ByteArray) (k : Nat) (h : k + 1 < s.size) : scriptB n (s.data.toList.drop k) = (decide (48 ≤ ((s[k].toNat : Nat) : Int)) && decide (((s[k].toNat : Nat) : Int) - 48 < n) && isOrd ((s[k + 1].toNat : Nat) : Int) && scriptB n (s.data.toList.drop (k + 2))) := by
  rw [Wd.drop_cons s k (by omega), Wd.drop_cons s (k + 1) h]; rfl
theorem scriptB_end (n : Int) (s : ByteArray) (k : Nat) (h : s.size ≤ k) : scriptB n (s.data.toList.drop k) = true := by
  rw [List.drop_of_length_le (by rw [Wd.len_str]; exact h)]; rfl
theorem script_at {n : Int} {s : ByteArray} {k : Nat} (h : k + 1 < s.size) (hb : scriptB n (s.data.toList.drop k) = true) : 48 ≤ ((s[k].toNat : Nat) : Int) ∧ ((s[k].toNat : Nat) : Int) - 48 < n ∧ isOrd ((s[k + 1].toNat : Nat) : Int) = true ∧ scriptB n (s.data.toList.drop (k + 2)) = true := by
  rw [scriptB_two n s k h] at hb
  simp only [Bool.and_eq_true, decide_eq_true_eq] at hb
  exact ⟨hb.1.1.1, hb.1.1.2, hb.1.2, hb.2⟩
theorem Try.infoU8 : (Try.prog.info? 5).map (fun i => (i.zero, i.size, i.bytes)) = some (some (.int .u8 0), 1, 1) := by kernel_rfl
theorem itsV_at (its : List Wd.It) (i : Nat) (hi : i < its.length * 2) : (Wd.itsV its)[i]? = some (itF its i) := by
  induction its generalizing i with
  | nil => simp at hi
  | cons x r ih =>
    have e : Wd.itsV (x :: r) = .bool x.handler :: .string (Wd.mkS x.body) :: Wd.itsV r := rfl
    rw [e]
    match i, hi with
    | 0, _ => rfl
    | 1, _ => rfl
    | i + 2, hi =>
      rw [List.getElem?_cons_succ, List.getElem?_cons_succ, ih i (by simp at hi; omega)]
      unfold itF
      rw [show (i + 2) % 2 = i % 2 by omega, show (i + 2) / 2 = i / 2 + 1 by omega]
      rfl
theorem own_items {w : World} {base : Nat} {v : Value} {its : List Wd.It} (h : w.ownsRow base 69 2 v its.length (Wd.itsV its)) : ∃ ai ci, v = .slice ai its.length ci ∧ its.length ≤ ci ∧ ci ≤ maxLen ∧ (0 < its.length → ∃ g, ai = some ⟨g, 0, none⟩ ∧ Blk w g (its.length * 2) (itF its)) := by
  rcases h.2 with ⟨rfl, h0⟩ | ⟨g, cap, cur, rfl, hb, hg, h1, h2, h3, h4⟩
  · exact ⟨none, 0, by rw [h0], by omega, Nat.zero_le _, fun h => by omega⟩
  · refine ⟨some ⟨g, 0, none⟩, cap, rfl, h1, h2, fun _ => ⟨g, rfl, ⟨_, _, hg, fun i hi => ?_⟩⟩⟩
    rw [← itsV_at its i hi, ← h4, List.getElem?_take, if_pos hi, Array.getElem?_toList]
theorem own_snoc {w : World} {B : Nat} {v : Value} {acc : List UInt8} {L : Int} (h0 : 0 ≤ L) (h1 : L ≤ 255) (h : w.ownsRow B 5 1 v (acc.length + 1) (Wd.bytesV acc ++ [.int .u8 L])) : w.ownsRow B 5 1 v (acc ++ [u8 L]).length (Wd.bytesV (acc ++ [u8 L])) := by
  have e : Wd.bytesV (acc ++ [u8 L]) = Wd.bytesV acc ++ [.int .u8 L] := by simp [Wd.bytesV, bt_u8 h0 h1]
  rw [e, List.length_append]; exact h
theorem grown_min {w w' : World} {B : Nat} {e : TypeId} {size n : Nat} {v : Value} {xs : List Value} {o : Obj} (hg : (w.alloc o).grownBy w' v.ownBlock) (ho : w.ownsRow B e size v n xs) : Below (min B w.heap.size) w w' :=
  ((Below.refl _ _).alloc (Nat.min_le_right _ _) o).grown hg (by simp; omega) (fun q hq => Nat.le_trans (Nat.min_le_left _ _) (ho.lt q hq).1)
end Go.Proofs.Ytecmfdkhcffpmab
/- Contract of the program's 'faultOfNames'. -/
namespace Go.Proofs.Ytecmfdkhcffpmab
open Go.RowKit
set_option linter.unusedSimpArgs false
set_option linter.unusedVariables false
set_option maxHeartbeats 800000

/-- The program in block b, for reading: its parts lie in a row of their own. -/
def PgR (w : World) (b : Nat) (ps : List Wd.Part) (F : Nat → Wd.Fn) : Prop := ∃ v, w.heap[b]? = some (.cells (Wd.pgA v F) 128 (0, 0)) ∧ w.ownsRow 0 154 3 v ps.length (Wd.partsV ps) ∧ ∀ g, v.ownBlock = some g → g < b

theorem own_three {w : World} {base : Nat} {e : TypeId} {v : Value} {ps : List Wd.Part} (h : w.ownsRow base e 3 v ps.length (Wd.partsV ps)) :
    ∃ ao cap, v = .slice ao ps.length cap ∧ ps.length ≤ cap ∧ cap ≤ maxLen ∧ (∀ j (hj : j < ps.length), ∃ g, ao = some ⟨g, 0, none⟩ ∧ g < w.heap.size ∧ w.cell? ⟨g, j * 3, none⟩ = some (.int .u8 (ps[j]).letter) ∧ w.cell? ⟨g, j * 3 + 1, none⟩ = some (.int .i64 ((ps[j]).pos : Int)) ∧ w.cell? ⟨g, j * 3 + 2, none⟩ = some (.string (Wd.mkS (ps[j]).body))) := by
  obtain ⟨hl, h2⟩ := id h
  rcases h2 with ⟨hv, h0⟩ | ⟨g, cap, cur, hv, hg, hh, hn, hm, hs, ht⟩
  · refine ⟨none, 0, by rw [hv, h0], by omega, by unfold maxLen; omega, fun j hj => by omega⟩
  · refine ⟨some ⟨g, 0, none⟩, cap, hv, hn, hm, fun j hj => ⟨g, rfl, row_lt hh, ?_, ?_, ?_⟩⟩
    · have := h.cells (g := g) (by rw [hv]; rfl) (j * 3) _ (Wd.partsV_at ps j 0 hj (by omega))
      rw [Addr.add_mid] at this; simpa using this
    · have := h.cells (g := g) (by rw [hv]; rfl) (j * 3 + 1) _ (Wd.partsV_at ps j 1 hj (by omega))
      rw [Addr.add_mid] at this; simpa using this
    · have := h.cells (g := g) (by rw [hv]; rfl) (j * 3 + 2) _ (Wd.partsV_at ps j 2 hj (by omega))
      rw [Addr.add_mid] at this; simpa using this

theorem namesFrom_step (F : Nat → Wd.Fn) (ps : List Wd.Part) (seen : Nat → Bool) (k : Nat) (hk : k < ps.length) : Wd.namesFrom F (ps.drop k) seen =
    if Wd.up (ps[k]).letter = true ∧ seen ((ps[k]).letter - 65).toNat = true then some (ps[k]).pos
    else match Wd.unknown F (ps[k]).body with
      | some u => some ((ps[k]).pos + 2 + u)
      | none => Wd.namesFrom F (ps.drop (k + 1)) (if Wd.up (ps[k]).letter = true then (fun j => if j = ((ps[k]).letter - 65).toNat then true else seen j) else seen) := by
  rw [List.drop_eq_getElem_cons hk]; rfl

set_option maxRecDepth 100000 in
set_option maxHeartbeats 1600000 in
theorem faultOfNames_any (ps : List Wd.Part) (F : Nat → Wd.Fn) (b : Nat) (w : World) (hps : ∀ p ∈ ps, p.fine) (hpl : ps.length ≤ 10000) (hpg : PgR w b ps F) :
    Calls Try.prog 62 #[.pointer (some ⟨b, 0, none⟩)] w fun e w' => e = .returned (.int .i64 (Wd.toInt (Wd.names F ps))) ∧ Below w.heap.size w w' := by
  obtain ⟨v, hh, hown, _⟩ := hpg
  obtain ⟨ao, cap, rfl, hnc, hcap, hcell⟩ := own_three hown
  unfold maxLen at hcap
  have c0 : w.cell? ⟨b, 0, none⟩ = some (.slice ao ps.length cap) := row_cell hh rfl
  have c0' : ∀ o, (w.alloc o).cell? ⟨b, 0, none⟩ = some (.slice ao ps.length cap) := fun o => by rw [World.cell?_alloc_past _ _ _ (row_lt hh)]; exact c0
  have HH := hide hh
  have HCL := hide hcell
  have HPS := hide hps
  clear hh hown hcell hps
  go_enter Try.func62, Try.ntmps62
  go_wp2
  have s0 := heap_alloc_last w (.cells #[.bool false, .bool false, .bool false, .bool false, .bool false, .bool false, .bool false, .bool false] 156)
  have s1 : Below w.heap.size w (w.alloc (.cells #[.bool false, .bool false, .bool false, .bool false, .bool false, .bool false, .bool false, .bool false] 156)) := (Below.refl _ _).alloc (Nat.le_refl _) _
  generalize w.alloc (.cells #[.bool false, .bool false, .bool false, .bool false, .bool false, .bool false, .bool false, .bool false] 156) = W at *
  go_loopw [13] (fun a wr => ∃ (k : Nat) (seen : Nat → Bool), k ≤ ps.length ∧ a = .int .i64 k ∧ Wd.names F ps = Wd.namesFrom F (ps.drop k) seen ∧ wr.heap[w.heap.size]? = some (.cells (Wd.arr8b seen) 156 (0, 0)) ∧ Below w.heap.size w wr) (fun a _ => ps.length - (intOf a).toNat)
  case atStart => exact ⟨0, fun _ => false, Nat.zero_le _, rfl, rfl, s0, s1⟩
  case round =>
    clear s0 s1 c0 c0'
    obtain ⟨k, seen, hk, rfl, hnm, hS, hbe⟩ := hrel
    have HNM := hide hnm
    have HS := hide hS
    have HB := hide hbe
    clear hnm hS hbe
    by_cases hlt : k < ps.length
    · have HST := hide (namesFrom_step F ps seen k hlt)
      obtain ⟨g, rfl, hg, q0, q1, q2⟩ := HCL.out k hlt
      obtain ⟨b0, b1, b2, b3⟩ := HPS.out ps[k] (List.getElem_mem hlt)
      have d0 := (HB.out.cell (p := ⟨g, k * 3, none⟩) hg).trans q0
      have d1 := (HB.out.cell (p := ⟨g, k * 3 + 1, none⟩) hg).trans q1
      have d2 := (HB.out.cell (p := ⟨g, k * 3 + 2, none⟩) hg).trans q2
      have HBR := hide (below_row HB.out HH.out)
      clear q0 q1 q2
      generalize ps[k] = p at *
      obtain ⟨letter, pos, body⟩ := p
      simp only at b0 b1 b2 b3 d0 d1 d2 HST
      have hbs : (Wd.mkS body).size ≤ 10000 := by rw [Wd.mkS_size]; exact b3
      have HML : Hid ((Wd.mkS body).data.toList = body) := rfl
      have HUN := hide (show Wd.unknown F body = Wd.unknown F body from rfl)
      generalize Wd.mkS body = sb at *
      have HB2 : Hid ((wr.alloc (.cells #[.int .u8 letter, .int .i64 (pos : Int), .string sb] 154)).heap[b]? = some (.cells (Wd.pgA (.slice (some ⟨g, 0, none⟩) ps.length cap) F) 128 (0, 0))) := by
        apply hide; rw [heap_alloc_old _ _ (row_lt HBR.out)]; exact HBR.out
      have HS2 : Hid ((wr.alloc (.cells #[.int .u8 letter, .int .i64 (pos : Int), .string sb] 154)).heap[w.heap.size]? = some (.cells (Wd.arr8b seen) 156 (0, 0))) := by
        apply hide; rw [heap_alloc_old _ _ (row_lt HS.out)]; exact HS.out
      cases hu : Wd.up letter
      · have HE : Hid (Wd.names F ps = match Wd.unknown F body with | some u => some (pos + 2 + u) | none => Wd.namesFrom F (ps.drop (k + 1)) seen) := by
          apply hide; rw [HNM.out, HST.out, hu]; rfl
        cases hq : Wd.unknown F body with
        | some u =>
          rw [hq] at HE
          have hul := Wd.unknown_lt hq
          have HUQ := hide hq
          have hne : ((u : Int) != -1) = true := by rw [bne_iff_ne]; omega
          clear hq
          go_wp2_with (first | (go_at_call 80; refine (isFunction_any _ _ b0 b1).mono ?_; rw [hu]; rintro e w' ⟨rfl, rfl⟩) | (go_at_call 81; refine (unknownName_any _ F _ b _ hbs HB2.out).mono ?_; rw [HML.out, HUQ.out, show Wd.toInt (some u) = (u : Int) from rfl]; rintro e w' ⟨rfl, rfl⟩))
          go_ret
          exact ⟨ret_int (by rw [HE.out]; simp [Wd.toInt]), HB.out.alloc HB.out.size _⟩
        | none =>
          rw [hq] at HE
          have HUQ := hide hq
          clear hq
          go_wp2_with (first | (go_at_call 80; refine (isFunction_any _ _ b0 b1).mono ?_; rw [hu]; rintro e w' ⟨rfl, rfl⟩) | (go_at_call 81; refine (unknownName_any _ F _ b _ hbs HB2.out).mono ?_; rw [HML.out, HUQ.out, show Wd.toInt none = -1 from rfl]; rintro e w' ⟨rfl, rfl⟩))
          refine ⟨⟨k + 1, seen, by omega, by go_num, HE.out, HS2.out, HB.out.alloc HB.out.size _⟩, by simp [intOf]; omega⟩
      · have hu' := hu
        simp [Wd.up] at hu'
        have hi8 : (letter - 65).toNat < 8 := by omega
        have e1 := row_cell HS2.out (Wd.arr8b_at seen _ hi8)
        have e2 := frozen_of_row _ w.heap.size (letter - 65).toNat _ _ HS2.out
        cases hsn : seen (letter - 65).toNat
        · rw [hsn] at e1
          have HE : Hid (Wd.names F ps = match Wd.unknown F body with | some u => some (pos + 2 + u) | none => Wd.namesFrom F (ps.drop (k + 1)) (fun j => if j = (letter - 65).toNat then true else seen j)) := by
            apply hide; rw [HNM.out, HST.out, hu, hsn]; simp
          have hbh : b < w.heap.size := row_lt HH.out
          have HB3 : Hid (((wr.setCell ⟨w.heap.size, (letter - 65).toNat, none⟩ (.bool true)).alloc (.cells #[.int .u8 letter, .int .i64 (pos : Int), .string sb] 154)).heap[b]? = some (.cells (Wd.pgA (.slice (some ⟨g, 0, none⟩) ps.length cap) F) 128 (0, 0))) := by
            apply hide; rw [heap_alloc_old _ _ (by have := row_lt HBR.out; simp [World.setCell]; omega), heap_setCell_other _ _ _ _ (by show b ≠ w.heap.size; omega)]; exact HBR.out
          have HS3 : Hid (((wr.setCell ⟨w.heap.size, (letter - 65).toNat, none⟩ (.bool true)).alloc (.cells #[.int .u8 letter, .int .i64 (pos : Int), .string sb] 154)).heap[w.heap.size]? = some (.cells (Wd.arr8b (fun j => if j = (letter - 65).toNat then true else seen j)) 156 (0, 0))) := by
            apply hide; rw [heap_alloc_old _ _ (by have := row_lt HS.out; simp [World.setCell]; omega), heap_setCell_same _ _ _ _ _ _ HS.out, Wd.arr8b_set _ _ _ hi8]
          have hhw : w.heap.size < wr.heap.size := row_lt HS.out
          have hhb : b < wr.heap.size := row_lt HBR.out
          cases hq : Wd.unknown F body with
          | some u =>
            rw [hq] at HE
            have hul := Wd.unknown_lt hq
            have HUQ := hide hq
            have hne : ((u : Int) != -1) = true := by rw [bne_iff_ne]; omega
            clear hq
            go_wp2_with (first | (go_at_call 80; refine (isFunction_any _ _ b0 b1).mono ?_; rw [hu]; rintro e w' ⟨rfl, rfl⟩) | (go_at_call 81; refine (unknownName_any _ F _ b _ hbs HB3.out).mono ?_; rw [HML.out, HUQ.out, show Wd.toInt (some u) = (u : Int) from rfl]; rintro e w' ⟨rfl, rfl⟩))
            go_ret
            exact ⟨ret_int (by rw [HE.out]; simp [Wd.toInt]), (below_set HB.out _).alloc (by have := HB.out.size; simp [World.setCell]; omega) _⟩
          | none =>
            rw [hq] at HE
            have HUQ := hide hq
            clear hq
            go_wp2_with (first | (go_at_call 80; refine (isFunction_any _ _ b0 b1).mono ?_; rw [hu]; rintro e w' ⟨rfl, rfl⟩) | (go_at_call 81; refine (unknownName_any _ F _ b _ hbs HB3.out).mono ?_; rw [HML.out, HUQ.out, show Wd.toInt none = -1 from rfl]; rintro e w' ⟨rfl, rfl⟩))
            refine ⟨⟨k + 1, fun j => if j = (letter - 65).toNat then true else seen j, by omega, by go_num, HE.out, HS3.out, (below_set HB.out _).alloc (by have := HB.out.size; simp [World.setCell]; omega) _⟩, by simp [intOf]; omega⟩
        · rw [hsn] at e1
          have HE : Hid (Wd.names F ps = some pos) := by
            apply hide; rw [HNM.out, HST.out, hu, hsn]; simp
          go_wp2_with (first | (go_at_call 80; refine (isFunction_any _ _ b0 b1).mono ?_; rw [hu]; rintro e w' ⟨rfl, rfl⟩))
          go_ret
          exact ⟨ret_int (by rw [HE.out]; rfl), HB.out.alloc HB.out.size _⟩
    · go_wp2
      go_ret
      exact ⟨ret_int (by rw [HNM.out, List.drop_of_length_le (by omega)]; rfl), HB.out⟩
end Go.Proofs.Ytecmfdkhcffpmab
/- Contracts of the program's 'unfoldReady' and 'unfoldFunctions'. -/
namespace Go.Proofs.Ytecmfdkhcffpmab
open Go.RowKit
set_option linter.unusedSimpArgs false
set_option linter.unusedVariables false
set_option maxHeartbeats 800000

theorem PgR.below {w w' : World} {b : Nat} {ps : List Wd.Part} {F : Nat → Wd.Fn} (h : PgR w b ps F) (hb : Below w.heap.size w w') : PgR w' b ps F := by
  obtain ⟨v, h1, h2, h3⟩ := h
  refine ⟨v, below_row hb h1, ?_, h3⟩
  obtain ⟨a1, a2⟩ := h2
  refine ⟨a1, ?_⟩
  rcases a2 with a2 | ⟨g, cap, cur, hv, hg, hh, r⟩
  · exact .inl a2
  · exact .inr ⟨g, cap, cur, hv, hg, below_row hb hh, r⟩
theorem PgR.fn {w : World} {b : Nat} {ps : List Wd.Part} {F : Nat → Wd.Fn} (h : PgR w b ps F) (i : Nat) (hi : i < 8) (f : Wd.Fn) :
    PgR (((((w.setCell ⟨b, 1 + i * 5, none⟩ (.bool f.there)).setCell ⟨b, 1 + i * 5 + 1, none⟩ (.string (Wd.mkS f.body))).setCell ⟨b, 1 + i * 5 + 2, none⟩ (.bool f.done)).setCell ⟨b, 1 + i * 5 + 3, none⟩ (.bool f.fits)).setCell ⟨b, 1 + i * 5 + 4, none⟩ (.string (Wd.mkS f.text))) b ps (fun j => if j = i then f else F j) := by
  obtain ⟨v, h1, h2, h3⟩ := h
  have a1 := heap_setCell_same w b (1 + i * 5) _ _ (.bool f.there) h1
  have a2 := heap_setCell_same _ b (1 + i * 5 + 1) _ _ (.string (Wd.mkS f.body)) a1
  have a3 := heap_setCell_same _ b (1 + i * 5 + 2) _ _ (.bool f.done) a2
  have a4 := heap_setCell_same _ b (1 + i * 5 + 3) _ _ (.bool f.fits) a3
  have a5 := heap_setCell_same _ b (1 + i * 5 + 4) _ _ (.string (Wd.mkS f.text)) a4
  rw [Wd.pgA_set v F i f hi] at a5
  refine ⟨v, a5, ?_, h3⟩
  obtain ⟨a1, a2⟩ := h2
  refine ⟨a1, ?_⟩
  rcases a2 with a2 | ⟨g, cap, cur, hv, hg, hh, r⟩
  · exact .inl a2
  · have hgb : g < b := h3 g (by rw [hv]; rfl)
    refine .inr ⟨g, cap, cur, hv, hg, ?_, r⟩
    rw [heap_setCell_other _ _ _ _ (by show g ≠ b; omega), heap_setCell_other _ _ _ _ (by show g ≠ b; omega), heap_setCell_other _ _ _ _ (by show g ≠ b; omega), heap_setCell_other _ _ _ _ (by show g ≠ b; omega), heap_setCell_other _ _ _ _ (by show g ≠ b; omega)]
    exact hh
theorem PgR.above {w : World} {b : Nat} {ps : List Wd.Part} {F : Nat → Wd.Fn} (h : PgR w b ps F) {N : Nat} (hN : b < N) (o : Nat) (u : Value) : PgR (w.setCell ⟨N, o, none⟩ u) b ps F := by
  obtain ⟨v, h1, h2, h3⟩ := h
  refine ⟨v, by rw [heap_setCell_other _ _ _ _ (by show b ≠ N; omega)]; exact h1, ?_, h3⟩
  obtain ⟨a1, a2⟩ := h2
  refine ⟨a1, ?_⟩
  rcases a2 with a2 | ⟨g, cap, cur, hv, hg, hh, r⟩
  · exact .inl a2
  · have hgb : g < b := h3 g (by rw [hv]; rfl)
    exact .inr ⟨g, cap, cur, hv, hg, by rw [heap_setCell_other _ _ _ _ (by show g ≠ N; omega)]; exact hh, r⟩
theorem PgR.draw {w : World} {b : Nat} {ps : List Wd.Part} {F : Nat → Wd.Fn} (h : PgR w b ps F) : PgR w.drew b ps F := h

set_option maxRecDepth 100000 in
set_option maxHeartbeats 3000000 in
theorem unfoldReady_any (ps : List Wd.Part) (F : Nat → Wd.Fn) (b : Nat) (w : World) (hF : Wd.FnFine F) (hpg : PgR w b ps F) :
    Calls Try.prog 82 #[.pointer (some ⟨b, 0, none⟩)] w fun e w' => e = .returned (.tuple #[]) ∧ PgR w' b ps (Wd.readyTo F 8) ∧ Below b w w' := by
  have HF := hide hF
  have HP := hide hpg
  clear hF hpg
  go_enter Try.func82, Try.ntmps82
  go_wp2
  go_loopw [2] (fun a wr => ∃ k : Nat, k ≤ 8 ∧ a = .int .i64 k ∧ PgR wr b ps (Wd.readyTo F k) ∧ Below b w wr) (fun a _ => 8 - (intOf a).toNat)
  case atStart => exact ⟨0, by omega, rfl, HP.out, Below.refl _ _⟩
  case round =>
    clear HP
    obtain ⟨k, hk, rfl, hp, hbe⟩ := hrel
    have HP := hide hp
    have HB := hide hbe
    clear hp hbe
    by_cases hlt : k < 8
    · have HG := hide (Wd.readyTo_fine HF.out k)
      have HS := hide (show Wd.readyTo F (k + 1) = Wd.readyStep (Wd.readyTo F k) k from rfl)
      generalize Wd.readyTo F k = G at *
      obtain ⟨v, hh, _⟩ := HP.out
      have HH := hide hh
      have r0 : wr.cell? ⟨b, 1 + k * 5, none⟩ = some (.bool (G k).there) := row_cell hh (Wd.pgA_at _ G _ 0 hlt _ rfl)
      have r1 : wr.cell? ⟨b, 1 + k * 5 + 1, none⟩ = some (.string (Wd.mkS (G k).body)) := row_cell hh (Wd.pgA_at _ G _ 1 hlt _ rfl)
      have r2 : wr.cell? ⟨b, 1 + k * 5 + 2, none⟩ = some (.bool (G k).done) := row_cell hh (Wd.pgA_at _ G _ 2 hlt _ rfl)
      have r3 : wr.cell? ⟨b, 1 + k * 5 + 3, none⟩ = some (.bool (G k).fits) := row_cell hh (Wd.pgA_at _ G _ 3 hlt _ rfl)
      have r4 : wr.cell? ⟨b, 1 + k * 5 + 4, none⟩ = some (.string (Wd.mkS (G k).text)) := row_cell hh (Wd.pgA_at _ G _ 4 hlt _ rfl)
      have hbl := row_lt hh
      clear hh
      have hml : (Wd.mkS (G k).body).size ≤ 10000 := by rw [Wd.mkS_size]; exact (HG.out k).2
      have HML : Hid ((Wd.mkS (G k).body).data.toList = (G k).body) := rfl
      have HMK : Hid (Wd.mkS (G k).body = Wd.mkS (G k).body) := rfl
      generalize hsb : Wd.mkS (G k).body = sb at *
      have HSB := hide hsb
      clear hsb HMK
      generalize hst : Wd.mkS (G k).text = st at *
      have HST := hide hst
      clear hst
      go_wp2_with fail
      have HP2 := hide (HP.out.below ((Below.refl _ _).alloc (Nat.le_refl _) (.cells #[.bool (G k).there, .string sb, .bool (G k).done, .bool (G k).fits, .string st] 125)))
      have HN := hide (heap_alloc_last wr (.cells #[.bool (G k).there, .string sb, .bool (G k).done, .bool (G k).fits, .string st] 125))
      have HB2 : Hid (Below b w (wr.alloc (.cells #[.bool (G k).there, .string sb, .bool (G k).done, .bool (G k).fits, .string st] 125))) := HB.out.alloc (by omega) _
      generalize wr.alloc (.cells #[.bool (G k).there, .string sb, .bool (G k).done, .bool (G k).fits, .string st] 125) = W at *
      generalize wr.heap.size = N at *
      clear r0 r1 r2 r3 r4
      obtain ⟨v2, hh2, hown2, hlt2⟩ := HP2.out
      have HH2 := hide hh2
      refine (allDone_any sb G v2 b W hml hh2).mono ?_
      rw [HML.out]
      rintro e w1 ⟨rfl, rfl⟩
      have n0 : w1.cell? ⟨N, 0, none⟩ = some (.bool (G k).there) := row_cell HN.out rfl
      have n1 : w1.cell? ⟨N, 1, none⟩ = some (.string sb) := row_cell HN.out rfl
      have n2 : w1.cell? ⟨N, 2, none⟩ = some (.bool (G k).done) := row_cell HN.out rfl
      clear hh2 hown2 hlt2
      cases h1 : (G k).there
      · rw [h1] at n0
        go_wp2_with fail
        refine ⟨⟨k + 1, by omega, by go_num, ?_, HB2.out⟩, by simp [intOf]; omega⟩
        rw [HS.out, Wd.readyStep, if_neg (by simp [h1])]
        exact HP2.out
      · cases h2 : (G k).done
        · cases h3 : Wd.allDone G (G k).body
          · rw [h1] at n0
            rw [h2] at n2
            go_wp2_with fail
            refine ⟨⟨k + 1, by omega, by go_num, ?_, HB2.out⟩, by simp [intOf]; omega⟩
            rw [HS.out, Wd.readyStep, if_neg (by simp [h3])]
            exact HP2.out
          · rw [h1] at n0
            rw [h2] at n2
            have HX := unfold_any sb G v2 b w1 hml (fun j => (HG.out j).1) HH2.out
            rw [HML.out] at HX
            have HSS : Hid (Wd.readyTo F (k + 1) = fun j => if j = k then Wd.newFn G (G k) else G j) := by
              apply hide; rw [HS.out, Wd.readyStep, if_pos ⟨h1, h2, h3⟩]
            have HUF : Hid (∃ (t : List UInt8) (ft : Bool), Wd.newFn G (G k) = ⟨(G k).there, (G k).body, true, ft, t⟩ ∧ UnfPost w1 (Wd.unfold G (G k).body) = fun e w' => Below w1.heap.size w1 w' ∧ e = .returned (.tuple #[.string (Wd.mkS t), .bool ft])) := by
              apply hide
              cases hq : Wd.unfold G (G k).body with
              | some x => exact ⟨x, true, by simp [Wd.newFn, hq], rfl⟩
              | none => exact ⟨[], false, by simp [Wd.newFn, hq], rfl⟩
            obtain ⟨t, ft, hnf, hpo⟩ := HUF.out
            rw [hpo] at HX
            have HXX := hide HX
            have HNF := hide hnf
            clear HX hnf hpo HUF h3
            go_wp2_with fail
            refine HXX.out.mono ?_
            rintro e w2 ⟨hb2, rfl⟩
            have q1 := below_row hb2 HN.out
            have HP3 := hide (HP2.out.below hb2)
            have HB3 := hide (HB2.out.trans (hb2.mono (by have := row_lt HH2.out; omega)))
            have k0 : w2.cell? ⟨N, 0, none⟩ = some (.bool (G k).there) := row_cell q1 rfl
            have k1 : w2.cell? ⟨N, 1, none⟩ = some (.string sb) := row_cell q1 rfl
            have k2 : w2.cell? ⟨N, 2, none⟩ = some (.bool (G k).done) := row_cell q1 rfl
            have k3 : w2.cell? ⟨N, 3, none⟩ = some (.bool (G k).fits) := row_cell q1 rfl
            have k4 : w2.cell? ⟨N, 4, none⟩ = some (.string st) := row_cell q1 rfl
            have z2 := frozen_of_row w2 N 2 _ _ q1
            have z3 := frozen_of_row w2 N 3 _ _ q1
            have z4 := frozen_of_row w2 N 4 _ _ q1
            have HQ1 := hide q1
            clear hb2 q1 n0 n1 n2
            go_wp2_with fail
            have hbN : b < N := hbl
            have p1 : (((w2.setCell ⟨N, 2, none⟩ (.bool true)).setCell ⟨N, 3, none⟩ (.bool ft)).setCell ⟨N, 4, none⟩ (.string (Wd.mkS t))).heap[N]? = some (.cells #[.bool true, .string sb, .bool true, .bool ft, .string (Wd.mkS t)] 125 (0, 0)) := by
              have x1 := heap_setCell_same w2 N 2 _ _ (.bool true) HQ1.out
              have x2 := heap_setCell_same _ N 3 _ _ (.bool ft) x1
              have x3 := heap_setCell_same _ N 4 _ _ (.string (Wd.mkS t)) x2
              rw [x3, h1]; rfl
            have p2 : PgR (((w2.setCell ⟨N, 2, none⟩ (.bool true)).setCell ⟨N, 3, none⟩ (.bool ft)).setCell ⟨N, 4, none⟩ (.string (Wd.mkS t))) b ps G := ((HP3.out.above hbN _ _).above hbN _ _).above hbN _ _
            have p3 : Below b w (((w2.setCell ⟨N, 2, none⟩ (.bool true)).setCell ⟨N, 3, none⟩ (.bool ft)).setCell ⟨N, 4, none⟩ (.string (Wd.mkS t))) := ((HB3.out.setCell (p := ⟨N, 2, none⟩) (by show b ≤ N; omega) _).setCell (p := ⟨N, 3, none⟩) (by show b ≤ N; omega) _).setCell (p := ⟨N, 4, none⟩) (by show b ≤ N; omega) _
            clear k0 k1 k2 k3 k4 z2 z3 z4
            generalize (((w2.setCell ⟨N, 2, none⟩ (.bool true)).setCell ⟨N, 3, none⟩ (.bool ft)).setCell ⟨N, 4, none⟩ (.string (Wd.mkS t))) = W3 at *
            obtain ⟨v3, hh3, hown3, hlt3⟩ := id p2
            have d0 : W3.cell? ⟨N, 0, none⟩ = some (.bool true) := row_cell p1 rfl
            have d1 : W3.cell? ⟨N, 1, none⟩ = some (.string sb) := row_cell p1 rfl
            have d2 : W3.cell? ⟨N, 2, none⟩ = some (.bool true) := row_cell p1 rfl
            have d3 : W3.cell? ⟨N, 3, none⟩ = some (.bool ft) := row_cell p1 rfl
            have d4 : W3.cell? ⟨N, 4, none⟩ = some (.string (Wd.mkS t)) := row_cell p1 rfl
            have r0 : W3.cell? ⟨b, 1 + k * 5, none⟩ = some (.bool (G k).there) := row_cell hh3 (Wd.pgA_at _ G _ 0 hlt _ rfl)
            have r1 : W3.cell? ⟨b, 1 + k * 5 + 1, none⟩ = some (.string (Wd.mkS (G k).body)) := row_cell hh3 (Wd.pgA_at _ G _ 1 hlt _ rfl)
            have r2 : W3.cell? ⟨b, 1 + k * 5 + 2, none⟩ = some (.bool (G k).done) := row_cell hh3 (Wd.pgA_at _ G _ 2 hlt _ rfl)
            have r3 : W3.cell? ⟨b, 1 + k * 5 + 3, none⟩ = some (.bool (G k).fits) := row_cell hh3 (Wd.pgA_at _ G _ 3 hlt _ rfl)
            have r4 : W3.cell? ⟨b, 1 + k * 5 + 4, none⟩ = some (.string (Wd.mkS (G k).text)) := row_cell hh3 (Wd.pgA_at _ G _ 4 hlt _ rfl)
            have z0 := frozen_of_row W3 b (1 + k * 5) _ _ hh3
            have z1 := frozen_of_row W3 b (1 + k * 5 + 1) _ _ hh3
            have z2 := frozen_of_row W3 b (1 + k * 5 + 2) _ _ hh3
            have z3 := frozen_of_row W3 b (1 + k * 5 + 3) _ _ hh3
            have z4 := frozen_of_row W3 b (1 + k * 5 + 4) _ _ hh3
            have P2 := hide p2
            have P3 := hide p3
            clear hh3 hown3 hlt3 p1 p2 p3
            go_region
            all_goals go_wp2
            all_goals
              refine ⟨⟨k + 1, by omega, by go_num, ?_, (below_set (below_set (below_set (below_set (below_set P3.out _) _) _) _) _).drew⟩, by simp [intOf]; omega⟩
              rw [HSS.out, HNF.out, ← HSB.out, h1]
              exact PgR.draw (P2.out.fn k hlt ⟨true, (G k).body, true, ft, t⟩)
        · rw [h1] at n0
          rw [h2] at n2
          go_wp2_with fail
          refine ⟨⟨k + 1, by omega, by go_num, ?_, HB2.out⟩, by simp [intOf]; omega⟩
          rw [HS.out, Wd.readyStep, if_neg (by simp [h2])]
          exact HP2.out
    · go_wp2
      go_end0
      obtain rfl : k = 8 := by omega
      exact ⟨rfl, HP.out, HB.out⟩
end Go.Proofs.Ytecmfdkhcffpmab
