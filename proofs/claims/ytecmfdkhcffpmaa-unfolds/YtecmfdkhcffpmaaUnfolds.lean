/- For every text, wardenlaw.Unfolds returns true: the program's Unfold answers with the document's items, or its error, each time anew; what came out first is the caller's (P4, P2). No condition. -/
import Derived.Test.YtecmfdkhcffpmaaRows
import Derived.Test.YtecmfdkhcffpmaaSrcL
import Derived.Test.YtecmfdkhcffpmaaRefK
import Derived.Test.YtecmfdkhcffpmaaSameU
import Derived.ProofKit
import Derived.OpenShut
import Derived.ShutString
namespace Go.Proofs.Ytecmfdkhcffpmaa
open Go.ChangeShapes Go.WideShapes Go.ChangeAt Go.RowKit
open Go.ChangeMaps (open_string shut_string)
set_option linter.unusedSimpArgs false
set_option linter.unusedVariables false

theorem Try.ownKnobU : ownKnob Try.prog.godebug = none := by kernel_rfl

theorem own_other {w w' : World} {base : Nat} {e : TypeId} {size : Nat} {v : Value} {n : Nat} {xs : List Value} (h : w.ownsRow base e size v n xs) (g : Nat) (hb : ∀ b, b ≠ g → w'.heap[b]? = w.heap[b]?) (hv : v.ownBlock ≠ some g) : w'.ownsRow base e size v n xs := by
  obtain ⟨a1, a2⟩ := h
  refine ⟨a1, ?_⟩
  rcases a2 with a2 | ⟨g', cap, cur, hv', hg, hh, r⟩
  · exact .inl a2
  · refine .inr ⟨g', cap, cur, hv', hg, ?_, r⟩
    rw [hb g' (fun e => hv (by rw [hv', e]; rfl))]; exact hh

set_option maxHeartbeats 800000 in
theorem unfolds_no (s : ByteArray) (hs : s.size ≤ maxLen) (w : World) (x : Int × Int) (hx : Wd.readP s.data.toList = .error x) (hne : x.1 ≠ 0) :
    Calls Try.prog 4 #[.string s] w fun e w' => e = .returned (.bool true) ∧ Below w.heap.size w w' := by
  have hc : (Wd.checkR s.data.toList).1 = x.1 := by rw [← Wd.check_same, Wd.checkP, hx]
  have H1 := fun w => refUnfold_no s w hs (by rw [hc]; exact hne)
  rw [hc] at H1
  have H2 := fun w => wardenUnfold_any s w hs
  rw [hx] at H2
  have HH1 := hide H1
  have HH2 := hide H2
  clear H1 H2 hc hx
  obtain ⟨a, b⟩ := x
  simp only at hne HH1
  have n1 : (a != a) = false := by simp
  have n2 : (a != 0) = true := by rw [bne_iff_ne]; exact hne
  have n3 : (a == a) = true := by simp
  clear hne
  go_enter Try.func4, Try.ntmps4
  go_wp2_with fail
  refine (HH1.out _).mono ?_
  rintro e w1 ⟨rfl, hb1⟩
  have HB1 := hide hb1
  clear hb1
  go_wp2_with fail
  refine (HH2.out _).mono ?_
  rintro e w2 ⟨hb2, rfl⟩
  have HB2 := hide (HB1.out.trans (hb2.mono HB1.out.size))
  clear hb2
  go_wp2_with fail
  refine (HH2.out _).mono ?_
  rintro e w3 ⟨hb3, rfl⟩
  have HB3 := hide (HB2.out.trans (hb3.mono HB2.out.size))
  clear hb3
  go_wp2_with fail
  refine (sameItems_eq [] _ _ _ 0 0 (by simp) (World.ownsRow_nil _ _ _ _) (World.ownsRow_nil _ _ _ _)).mono ?_
  rintro e w4 ⟨rfl, hb4⟩
  have HB4 := hide (HB3.out.trans (hb4.mono HB3.out.size))
  clear hb4
  go_wp2_with fail
  go_loop [10] (fun i => i = .int .i64 0) (fun _ => 0)
  case atStart => exact rfl
  case round =>
    subst hrel
    go_wp2_with fail
    refine (sameItems_eq [] _ _ _ 0 0 (by simp) (World.ownsRow_nil _ _ _ _) (World.ownsRow_nil _ _ _ _)).mono ?_
    rintro e w5 ⟨rfl, hb5⟩
    have HB5 := hide (HB4.out.trans (hb5.mono HB4.out.size))
    clear hb5
    go_wp2_with fail
    go_ret
    exact ⟨rfl, HB5.out⟩

set_option maxRecDepth 100000 in
set_option maxHeartbeats 2000000 in
theorem unfolds_ok (s : ByteArray) (hs : s.size ≤ 240) (w : World) (its : List Wd.It) (hx : Wd.readP s.data.toList = .ok its) (hu : its = Wd.unfoldR s.data.toList) (hlen : its.length ≤ 240) (hL : ∀ i ∈ Wd.starts s.data.toList, ∀ p, p ≤ 8 → (Wd.passN s.data.toList (Wd.sizesN s.data.toList 8) (Wd.body s.data.toList i) p).length ≤ 100000) :
    Calls Try.prog 4 #[.string s] w fun e w' => e = .returned (.bool true) ∧ Below w.heap.size w w' := by
  have hc : (Wd.checkR s.data.toList).1 = 0 := by rw [← Wd.check_same, Wd.checkP, hx]
  have H1 := fun w => refUnfold_ok s w hs hc hL
  rw [← hu] at H1
  have H2 := fun w => wardenUnfold_any s w (by unfold maxLen; omega)
  rw [hx] at H2
  have HH1 := hide H1
  have HH2 := hide H2
  clear H1 H2 hc hx hu hL
  go_enter Try.func4, Try.ntmps4
  go_wp2_with fail
  refine (HH1.out _).mono ?_
  rintro e w1 ⟨v0, rfl, ho0, hb1⟩
  have HB1 := hide hb1
  have HO0 := hide ho0
  clear hb1 ho0
  go_wp2_with fail
  refine (HH2.out _).mono ?_
  rintro e w2 ⟨hb2, g1, cap1, rfl, ho1⟩
  have HB2 := hide (HB1.out.trans (hb2.mono HB1.out.size))
  have HO02 := hide (own_below HO0.out hb2)
  have HO1 := hide ho1
  have HS2 : Hid (w1.heap.size ≤ w2.heap.size) := hb2.size
  clear hb2 ho1
  go_wp2_with fail
  refine (HH2.out _).mono ?_
  rintro e w3 ⟨hb3, g2, cap2, rfl, ho2⟩
  have HB3 := hide (HB2.out.trans (hb3.mono HB2.out.size))
  have HO03 := hide (own_below HO02.out hb3)
  have HO13 := hide (own_below HO1.out hb3)
  have HO2 := hide ho2
  have hg1 := HO1.out.lt g1 rfl
  have hg2 := HO2.out.lt g2 rfl
  have hg0 : v0.ownBlock ≠ some g1 := fun e => by have := (HO0.out.lt g1 e).2; omega
  have hg12 : (Value.slice (some ⟨g2, 0, none⟩) its.length cap2).ownBlock ≠ some g1 := fun e => by simp [Value.ownBlock] at e; omega
  have hwg : w.heap.size ≤ g1 := by have := HB1.out.size; omega
  clear hb3 ho2
  go_wp2_with fail
  refine (sameItems_eq its _ _ _ _ _ (by omega) HO13.out HO03.out).mono ?_
  rintro e w4 ⟨rfl, hb4⟩
  have HB4 := hide (HB3.out.trans (hb4.mono HB3.out.size))
  have HO04 := hide (own_below HO03.out hb4)
  have HO14 := hide (own_below HO13.out hb4)
  have HO24 := hide (own_below HO2.out hb4)
  clear hb4
  have hcp : cap1 ≤ maxLen := by
    obtain ⟨ao, cap, e1, _, hm, _⟩ := own_two HO14.out
    cases e1; exact hm
  have hnc : its.length ≤ cap1 := by
    obtain ⟨ao, cap, e1, hm, _, _⟩ := own_two HO14.out
    cases e1; exact hm
  unfold maxLen at hcp
  have HXS : Hid (∀ j, j < its.length → ∃ h : Bool, (Wd.itsV its)[j * 2]? = some (.bool h)) := fun j hj => ⟨_, by rw [show j * 2 = j * 2 + 0 from rfl, itsV_at its j 0 hj (by omega)]; rfl⟩
  have HXL : Hid ((Wd.itsV its).length = its.length * 2) := HO14.out.1
  go_wp2_with fail
  go_loopw [10] (fun a wr => ∃ (k : Nat) (xs : List Value), k ≤ its.length ∧ a = .int .i64 k ∧ xs.length = its.length * 2 ∧ (∀ j, j < its.length → ∃ h : Bool, xs[j * 2]? = some (.bool h)) ∧ wr.ownsRow w1.heap.size 31 2 (.slice (some ⟨g1, 0, none⟩) its.length cap1) its.length xs ∧ (∀ b, b ≠ g1 → wr.heap[b]? = w4.heap[b]?) ∧ Below w.heap.size w wr) (fun a _ => its.length - (intOf a).toNat)
  case atStart => exact ⟨0, Wd.itsV its, Nat.zero_le _, rfl, HXL.out, HXS.out, HO14.out, fun _ _ => rfl, HB4.out⟩
  case round =>
    obtain ⟨k, xs, hk, rfl, hxl, hxs, hO, hbl, hbe⟩ := hrel
    have HO := hide hO
    have HBL := hide hbl
    have HB := hide hbe
    have HXS' := hide hxs
    have HXL' := hide hxl
    by_cases hlt : k < its.length
    · obtain ⟨h, hh⟩ := hxs k hlt
      have d0 := (HO.out.cellAt (k * 2) (by omega)).trans hh
      have hx1 : k * 2 + 1 < xs.length := by omega
      have d1 := (HO.out.cellAt (k * 2 + 1) (by omega)).trans (List.getElem?_eq_getElem hx1)
      have f0 := HO.out.frozenAt (k * 2)
      have f1 := HO.out.frozenAt (k * 2 + 1)
      generalize xs[k * 2 + 1] = u1 at *
      clear hxl hxs hO hbl hbe hh
      go_wp2_with fail
      refine ⟨⟨k + 1, (xs.set (k * 2) (.bool !h)).set (k * 2 + 1) (.string ⟨#[120]⟩), by omega, by go_num, by simp [HXL'.out], ?_, ((HO.out.stored _ _).1.stored _ _).1, ?_, (HB.out.setCell (p := ⟨g1, k * 2, none⟩) hwg _).setCell (p := ⟨g1, k * 2 + 1, none⟩) hwg _⟩, by simp [intOf]; omega⟩
      · intro j hj
        obtain ⟨h', e⟩ := HXS'.out j hj
        have hxl := HXL'.out
        rw [List.getElem?_set_ne (by omega)]
        by_cases ej : j = k
        · subst ej; exact ⟨!h, by rw [List.getElem?_set_self (by omega)]⟩
        · exact ⟨h', by rw [List.getElem?_set_ne (by omega)]; exact e⟩
      · intro b hb
        rw [heap_setCell_other _ _ _ _ hb, heap_setCell_other _ _ _ _ hb]; exact HBL.out b hb
    · clear hxl hxs hO hbl hbe
      go_wp2_with fail
      refine (sameItems_eq its _ _ _ _ _ (by omega) (own_other HO24.out g1 HBL.out hg12) (own_other HO04.out g1 HBL.out hg0)).mono ?_
      rintro e w5 ⟨rfl, hb5⟩
      have HB5 := hide (HB.out.trans (hb5.mono HB.out.size))
      clear hb5
      go_wp2_with fail
      go_ret
      exact ⟨rfl, HB5.out⟩

theorem unfolds_walk (s : ByteArray) (hs : s.size ≤ maxLen) (w : World) :
    Calls Try.prog 4 #[.string s] w fun e w' => e = .returned (.bool true) ∧ Below w.heap.size w w' := by
  cases hx : Wd.readP s.data.toList with
  | error x => exact unfolds_no s hs w x hx (Wd.readP_err hx)
  | ok its =>
    obtain ⟨h1, h2, h3, h4⟩ := Wd.readP_good hx
    exact unfolds_ok s (by rw [← Wd.len_str]; exact h1) w its hx h2 h3 h4

set_option maxRecDepth 100000 in
theorem unfolds_lifted (os : Os) (started : os.Started) (H : Type) (enc : TypeId × Value → H) :
    ReturnsInHanded {} Try.checked os 4 .any (Rows.unfoldsSpec.pre6 enc Try.prog Try.f4 Rows.unfoldsRow.domain false) (Rows.unfoldsSpec.post enc Try.prog Try.f4 false true false false) := by
  refine returnsInHanded_of_change (C := Try.checked) Try.ownKnobU started (by kernel_rfl) Try.func4
    (ChangeSpec.witness6 (enc := enc) (C := Try.checked) false ⟨#[], #[.string ByteArray.empty], []⟩ 8 (by kernel_rfl) (by kernel_rfl) (by kernel_rfl) (by kernel_rfl)) ?_
  intro W base args ds gs before hval0 hW hcnd _
  have hval : ∀ (j : Nat) t v, Try.f4.params[j]? = some t → args[j]? = some v → Value.okWide Try.prog W .any base t v := hval0
  have hW' := hW
  obtain ⟨p, q, hA0, hV, rfl, hfz, hnd⟩ := hW
  have hA : DataW.TrodAll enc Try.prog W 0 (fun _ => true) true Try.f4.params.toList args.toList ds p := hA0
  rw [Try.params4] at hA hval
  obtain ⟨v0, vs0, d0, ds0, p0, q0, hargs, rfl, rfl, h0, r0⟩ := trodAll_cons hA
  obtain ⟨rfl, rfl, rfl⟩ := trodAll_nil r0
  obtain rfl : args = #[v0] := by cases args; simp_all
  obtain ⟨rfl, rfl⟩ := trodVars_none hV
  obtain ⟨a0, rfl, rfl, rfl, w0⟩ := open_string Try.underlying9 (hval 0 9 v0 rfl rfl) h0
  clear hA0 hval0
  simp only [List.append_nil] at hW'
  refine (unfolds_walk a0 w0 W).mono fun e W' ⟨he, hg⟩ => ?_
  subst he
  refine ⟨_, rfl, _, _, _, [], [], [], hW', ?_, ?_, ?_, hg.frame _, fun h => by cases h⟩
  · exact trodAll_cons_mk (shut_bool Try.underlying4 _) trodAll_mk0
  · exact trodAll_cons_mk (shut_string Try.underlying9 w0) trodAll_mk0
  · rfl

theorem unfolds_holds : Rows.UnfoldsSaid :=
  OpenClaim.holds_of_wide 4 Try.f4 rfl rfl rfl rfl rfl rfl rfl ⟨rfl, rfl, rfl, rfl, rfl⟩ rfl rfl rfl rfl rfl (by kernel_rfl) Try.func4 (by kernel_rfl)
    (of_decide_eq_true (by kernel_rfl)) (by unfold Func.isWrapper; first | (rw [if_pos (by decide +kernel)]; kernel_rfl) | (rw [if_neg (by decide +kernel)]; exact ⟨rfl, rfl⟩))
    (fun os started H enc _ => unfolds_lifted os started H enc)
#print axioms unfolds_holds
end Go.Proofs.Ytecmfdkhcffpmaa
