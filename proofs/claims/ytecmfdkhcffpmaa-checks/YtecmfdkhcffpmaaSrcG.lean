/- Contract of the program's 'faultOfNames'. -/
import Derived.Test.YtecmfdkhcffpmaaSrcF
import Derived.Test.YtecmfdkhcffpmaaPure8
namespace Go.Proofs.Ytecmfdkhcffpmaa
open Go.RowKit
set_option linter.unusedSimpArgs false
set_option linter.unusedVariables false
set_option maxHeartbeats 800000

/-- The program in block b, for reading: its parts lie in a row of their own. -/
def PgR (w : World) (b : Nat) (ps : List Wd.Part) (F : Nat → Wd.Fn) : Prop := ∃ v, w.heap[b]? = some (.cells (Wd.pgA v F) 167 (0, 0)) ∧ w.ownsRow 0 200 3 v ps.length (Wd.partsV ps) ∧ ∀ g, v.ownBlock = some g → g < b

theorem own_three {w : World} {base : Nat} {e : TypeId} {v : Value} {ps : List Wd.Part} (h : w.ownsRow base e 3 v ps.length (Wd.partsV ps)) :
    ∃ ao cap, v = .slice ao ps.length cap ∧ ps.length ≤ cap ∧ cap ≤ maxLen ∧ (∀ j (hj : j < ps.length), ∃ g, ao = some ⟨g, 0, none⟩ ∧ g < w.heap.size ∧ w.cell? ⟨g, j * 3, none⟩ = some (.int .u8 (ps[j]).letter) ∧ w.cell? ⟨g, j * 3 + 1, none⟩ = some (.int .i64 ((ps[j]).pos : Int)) ∧ w.cell? ⟨g, j * 3 + 2, none⟩ = some (.string (Wd.mkS (ps[j]).body))) := by
  obtain ⟨hl, h2⟩ := id h
  rcases h2 with ⟨hv, h0⟩ | ⟨g, cap, cur, hv, hg, hh, hn, hm, hs, ht⟩
  · refine ⟨none, 0, by rw [hv, h0], by omega, by unfold maxLen; omega, fun j hj => by omega⟩
  · refine ⟨some ⟨g, 0, none⟩, cap, hv, hn, hm, fun j hj => ⟨g, rfl, row_lt hh, ?_, ?_, ?_⟩⟩
    · have := h.cells (g := g) (by rw [hv]; rfl) (j * 3) _ (Wd.partsV_at ps j 0 hj (by omega))
      rw [Addr.add_mid] at this; simpa using this
    · have := h.cells (g := g) (by rw [hv]; rfl) (j * 3 + 1) _ (Wd.partsV_at ps j 1 hj (by omega))
      rw [Addr.add_mid] at this; simpa using this
    · have := h.cells (g := g) (by rw [hv]; rfl) (j * 3 + 2) _ (Wd.partsV_at ps j 2 hj (by omega))
      rw [Addr.add_mid] at this; simpa using this

theorem namesFrom_step (F : Nat → Wd.Fn) (ps : List Wd.Part) (seen : Nat → Bool) (k : Nat) (hk : k < ps.length) : Wd.namesFrom F (ps.drop k) seen =
    if Wd.up (ps[k]).letter = true ∧ seen ((ps[k]).letter - 65).toNat = true then some (ps[k]).pos
    else match Wd.unknown F (ps[k]).body with
      | some u => some ((ps[k]).pos + 2 + u)
      | none => Wd.namesFrom F (ps.drop (k + 1)) (if Wd.up (ps[k]).letter = true then (fun j => if j = ((ps[k]).letter - 65).toNat then true else seen j) else seen) := by
  rw [List.drop_eq_getElem_cons hk]; rfl

set_option maxRecDepth 100000 in
set_option maxHeartbeats 1600000 in
theorem faultOfNames_any (ps : List Wd.Part) (F : Nat → Wd.Fn) (b : Nat) (w : World) (hps : ∀ p ∈ ps, p.fine) (hpl : ps.length ≤ 10000) (hpg : PgR w b ps F) :
    Calls Try.prog 108 #[.pointer (some ⟨b, 0, none⟩)] w fun e w' => e = .returned (.int .i64 (Wd.toInt (Wd.names F ps))) ∧ Below w.heap.size w w' := by
  obtain ⟨v, hh, hown, _⟩ := hpg
  obtain ⟨ao, cap, rfl, hnc, hcap, hcell⟩ := own_three hown
  unfold maxLen at hcap
  have c0 : w.cell? ⟨b, 0, none⟩ = some (.slice ao ps.length cap) := row_cell hh rfl
  have c0' : ∀ o, (w.alloc o).cell? ⟨b, 0, none⟩ = some (.slice ao ps.length cap) := fun o => by rw [World.cell?_alloc_past _ _ _ (row_lt hh)]; exact c0
  have HH := hide hh
  have HCL := hide hcell
  have HPS := hide hps
  clear hh hown hcell hps
  go_enter Try.func108, Try.ntmps108
  go_wp2
  have s0 := heap_alloc_last w (.cells #[.bool false, .bool false, .bool false, .bool false, .bool false, .bool false, .bool false, .bool false] 106)
  have s1 : Below w.heap.size w (w.alloc (.cells #[.bool false, .bool false, .bool false, .bool false, .bool false, .bool false, .bool false, .bool false] 106)) := (Below.refl _ _).alloc (Nat.le_refl _) _
  generalize w.alloc (.cells #[.bool false, .bool false, .bool false, .bool false, .bool false, .bool false, .bool false, .bool false] 106) = W at *
  go_loopw [13] (fun a wr => ∃ (k : Nat) (seen : Nat → Bool), k ≤ ps.length ∧ a = .int .i64 k ∧ Wd.names F ps = Wd.namesFrom F (ps.drop k) seen ∧ wr.heap[w.heap.size]? = some (.cells (Wd.arr8b seen) 106 (0, 0)) ∧ Below w.heap.size w wr) (fun a _ => ps.length - (intOf a).toNat)
  case atStart => exact ⟨0, fun _ => false, Nat.zero_le _, rfl, rfl, s0, s1⟩
  case round =>
    clear s0 s1 c0 c0'
    obtain ⟨k, seen, hk, rfl, hnm, hS, hbe⟩ := hrel
    have HNM := hide hnm
    have HS := hide hS
    have HB := hide hbe
    clear hnm hS hbe
    by_cases hlt : k < ps.length
    · have HST := hide (namesFrom_step F ps seen k hlt)
      obtain ⟨g, rfl, hg, q0, q1, q2⟩ := HCL.out k hlt
      obtain ⟨b0, b1, b2, b3⟩ := HPS.out ps[k] (List.getElem_mem hlt)
      have d0 := (HB.out.cell (p := ⟨g, k * 3, none⟩) hg).trans q0
      have d1 := (HB.out.cell (p := ⟨g, k * 3 + 1, none⟩) hg).trans q1
      have d2 := (HB.out.cell (p := ⟨g, k * 3 + 2, none⟩) hg).trans q2
      have HBR := hide (below_row HB.out HH.out)
      clear q0 q1 q2
      generalize ps[k] = p at *
      obtain ⟨letter, pos, body⟩ := p
      simp only at b0 b1 b2 b3 d0 d1 d2 HST
      have hbs : (Wd.mkS body).size ≤ 10000 := by rw [Wd.mkS_size]; exact b3
      have HML : Hid ((Wd.mkS body).data.toList = body) := rfl
      have HUN := hide (show Wd.unknown F body = Wd.unknown F body from rfl)
      generalize Wd.mkS body = sb at *
      have HB2 : Hid ((wr.alloc (.cells #[.int .u8 letter, .int .i64 (pos : Int), .string sb] 200)).heap[b]? = some (.cells (Wd.pgA (.slice (some ⟨g, 0, none⟩) ps.length cap) F) 167 (0, 0))) := by
        apply hide; rw [heap_alloc_old _ _ (row_lt HBR.out)]; exact HBR.out
      have HS2 : Hid ((wr.alloc (.cells #[.int .u8 letter, .int .i64 (pos : Int), .string sb] 200)).heap[w.heap.size]? = some (.cells (Wd.arr8b seen) 106 (0, 0))) := by
        apply hide; rw [heap_alloc_old _ _ (row_lt HS.out)]; exact HS.out
      cases hu : Wd.up letter
      · have HE : Hid (Wd.names F ps = match Wd.unknown F body with | some u => some (pos + 2 + u) | none => Wd.namesFrom F (ps.drop (k + 1)) seen) := by
          apply hide; rw [HNM.out, HST.out, hu]; rfl
        cases hq : Wd.unknown F body with
        | some u =>
          rw [hq] at HE
          have hul := Wd.unknown_lt hq
          have HUQ := hide hq
          have hne : ((u : Int) != -1) = true := by rw [bne_iff_ne]; omega
          clear hq
          go_wp2_with (first | (go_at_call 135; refine (isFunction_any _ _ b0 b1).mono ?_; rw [hu]; rintro e w' ⟨rfl, rfl⟩) | (go_at_call 136; refine (unknownName_any _ F _ b _ hbs HB2.out).mono ?_; rw [HML.out, HUQ.out, show Wd.toInt (some u) = (u : Int) from rfl]; rintro e w' ⟨rfl, rfl⟩))
          go_ret
          exact ⟨ret_int (by rw [HE.out]; simp [Wd.toInt]), HB.out.alloc HB.out.size _⟩
        | none =>
          rw [hq] at HE
          have HUQ := hide hq
          clear hq
          go_wp2_with (first | (go_at_call 135; refine (isFunction_any _ _ b0 b1).mono ?_; rw [hu]; rintro e w' ⟨rfl, rfl⟩) | (go_at_call 136; refine (unknownName_any _ F _ b _ hbs HB2.out).mono ?_; rw [HML.out, HUQ.out, show Wd.toInt none = -1 from rfl]; rintro e w' ⟨rfl, rfl⟩))
          refine ⟨⟨k + 1, seen, by omega, by go_num, HE.out, HS2.out, HB.out.alloc HB.out.size _⟩, by simp [intOf]; omega⟩
      · have hu' := hu
        simp [Wd.up] at hu'
        have hi8 : (letter - 65).toNat < 8 := by omega
        have e1 := row_cell HS2.out (Wd.arr8b_at seen _ hi8)
        have e2 := frozen_of_row _ w.heap.size (letter - 65).toNat _ _ HS2.out
        cases hsn : seen (letter - 65).toNat
        · rw [hsn] at e1
          have HE : Hid (Wd.names F ps = match Wd.unknown F body with | some u => some (pos + 2 + u) | none => Wd.namesFrom F (ps.drop (k + 1)) (fun j => if j = (letter - 65).toNat then true else seen j)) := by
            apply hide; rw [HNM.out, HST.out, hu, hsn]; simp
          have hbh : b < w.heap.size := row_lt HH.out
          have HB3 : Hid (((wr.setCell ⟨w.heap.size, (letter - 65).toNat, none⟩ (.bool true)).alloc (.cells #[.int .u8 letter, .int .i64 (pos : Int), .string sb] 200)).heap[b]? = some (.cells (Wd.pgA (.slice (some ⟨g, 0, none⟩) ps.length cap) F) 167 (0, 0))) := by
            apply hide; rw [heap_alloc_old _ _ (by have := row_lt HBR.out; simp [World.setCell]; omega), heap_setCell_other _ _ _ _ (by show b ≠ w.heap.size; omega)]; exact HBR.out
          have HS3 : Hid (((wr.setCell ⟨w.heap.size, (letter - 65).toNat, none⟩ (.bool true)).alloc (.cells #[.int .u8 letter, .int .i64 (pos : Int), .string sb] 200)).heap[w.heap.size]? = some (.cells (Wd.arr8b (fun j => if j = (letter - 65).toNat then true else seen j)) 106 (0, 0))) := by
            apply hide; rw [heap_alloc_old _ _ (by have := row_lt HS.out; simp [World.setCell]; omega), heap_setCell_same _ _ _ _ _ _ HS.out, Wd.arr8b_set _ _ _ hi8]
          have hhw : w.heap.size < wr.heap.size := row_lt HS.out
          have hhb : b < wr.heap.size := row_lt HBR.out
          cases hq : Wd.unknown F body with
          | some u =>
            rw [hq] at HE
            have hul := Wd.unknown_lt hq
            have HUQ := hide hq
            have hne : ((u : Int) != -1) = true := by rw [bne_iff_ne]; omega
            clear hq
            go_wp2_with (first | (go_at_call 135; refine (isFunction_any _ _ b0 b1).mono ?_; rw [hu]; rintro e w' ⟨rfl, rfl⟩) | (go_at_call 136; refine (unknownName_any _ F _ b _ hbs HB3.out).mono ?_; rw [HML.out, HUQ.out, show Wd.toInt (some u) = (u : Int) from rfl]; rintro e w' ⟨rfl, rfl⟩))
            go_ret
            exact ⟨ret_int (by rw [HE.out]; simp [Wd.toInt]), (below_set HB.out _).alloc (by have := HB.out.size; simp [World.setCell]; omega) _⟩
          | none =>
            rw [hq] at HE
            have HUQ := hide hq
            clear hq
            go_wp2_with (first | (go_at_call 135; refine (isFunction_any _ _ b0 b1).mono ?_; rw [hu]; rintro e w' ⟨rfl, rfl⟩) | (go_at_call 136; refine (unknownName_any _ F _ b _ hbs HB3.out).mono ?_; rw [HML.out, HUQ.out, show Wd.toInt none = -1 from rfl]; rintro e w' ⟨rfl, rfl⟩))
            refine ⟨⟨k + 1, fun j => if j = (letter - 65).toNat then true else seen j, by omega, by go_num, HE.out, HS3.out, (below_set HB.out _).alloc (by have := HB.out.size; simp [World.setCell]; omega) _⟩, by simp [intOf]; omega⟩
        · rw [hsn] at e1
          have HE : Hid (Wd.names F ps = some pos) := by
            apply hide; rw [HNM.out, HST.out, hu, hsn]; simp
          go_wp2_with (first | (go_at_call 135; refine (isFunction_any _ _ b0 b1).mono ?_; rw [hu]; rintro e w' ⟨rfl, rfl⟩))
          go_ret
          exact ⟨ret_int (by rw [HE.out]; rfl), HB.out.alloc HB.out.size _⟩
    · go_wp2
      go_ret
      exact ⟨ret_int (by rw [HNM.out, List.drop_of_length_le (by omega)]; rfl), HB.out⟩
end Go.Proofs.Ytecmfdkhcffpmaa
