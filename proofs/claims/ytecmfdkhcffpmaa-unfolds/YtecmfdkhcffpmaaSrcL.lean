/- Contracts of the program's 'Unfold' and of the law's 'sameItems' at equal lists. -/
import Derived.Test.YtecmfdkhcffpmaaSrcK
import Derived.Deep.QuietTactic
import Derived.BigQuiet
namespace Go.Proofs.Ytecmfdkhcffpmaa
open Go.RowKit
set_option linter.unusedSimpArgs false
set_option linter.unusedVariables false
set_option maxHeartbeats 800000

/-- What 'Unfold' leaves: the items in memory of their own; or the error. -/
def UPost (w : World) (r : Except (Int × Int) (List Wd.It)) (e : Ending) (w' : World) : Prop :=
  Below w.heap.size w w' ∧ (match r with
    | .ok its => ∃ g cap, e = .returned (.tuple #[.slice (some ⟨g, 0, none⟩) its.length cap, .int .i64 0]) ∧ w'.ownsRow w.heap.size 31 2 (.slice (some ⟨g, 0, none⟩) its.length cap) its.length (Wd.itsV its)
    | .error x => e = .returned (.tuple #[.slice none 0 0, .int .i64 x.1]))

theorem sourceUnfold_any (s : ByteArray) (w : World) (hs : s.size ≤ maxLen) :
    Calls Try.prog 52 #[.string s] w (UPost w (Wd.readP s.data.toList)) := by
  have HX := read_any s w hs
  cases hq : Wd.readP s.data.toList with
  | error x =>
    rw [hq] at HX
    have HXX := hide HX
    clear HX hq
    go_enter Try.func52, Try.ntmps52
    go_wp2_with (go_at_call 72; refine HXX.out.mono ?_; rintro e w' ⟨hb, rfl⟩)
    go_ret2
    exact ⟨hb, rfl⟩
  | ok its =>
    rw [hq] at HX
    have HXX := hide HX
    clear HX hq
    go_enter Try.func52, Try.ntmps52
    go_wp2_with (go_at_call 72; refine HXX.out.mono ?_; rintro e w' ⟨hb, g, cp, rfl, hown⟩)
    go_ret2
    exact ⟨hb, g, cp, rfl, hown⟩

theorem wardenUnfold_any (s : ByteArray) (w : World) (hs : s.size ≤ maxLen) :
    Calls Try.prog 17 #[.string s] w (UPost w (Wd.readP s.data.toList)) := by
  have HX := sourceUnfold_any s w hs
  cases hq : Wd.readP s.data.toList with
  | error x =>
    rw [hq] at HX
    have HXX := hide HX
    clear HX hq
    go_enter Try.func17, Try.ntmps17
    go_wp2_with (go_at_call 52; refine HXX.out.mono ?_; rintro e w' ⟨hb, rfl⟩)
    go_ret2
    exact ⟨hb, rfl⟩
  | ok its =>
    rw [hq] at HX
    have HXX := hide HX
    clear HX hq
    go_enter Try.func17, Try.ntmps17
    go_wp2_with (go_at_call 52; refine HXX.out.mono ?_; rintro e w' ⟨hb, g, cp, rfl, hown⟩)
    go_ret2
    exact ⟨hb, g, cp, rfl, hown⟩

theorem itsV_at (ps : List Wd.It) (j k : Nat) (hj : j < ps.length) (hk : k < 2) : (Wd.itsV ps)[j * 2 + k]? = (Wd.itV ps[j])[k]? := by
  induction ps generalizing j with
  | nil => simp at hj
  | cons p r ih =>
    have e : Wd.itsV (p :: r) = Wd.itV p ++ Wd.itsV r := rfl
    rw [e]
    cases j with
    | zero =>
      rw [List.getElem?_append_left (by simp [Wd.itV]; omega)]
      simp
    | succ j =>
      rw [List.getElem?_append_right (by simp [Wd.itV]; omega)]
      have e2 : (j + 1) * 2 + k - (Wd.itV p).length = j * 2 + k := by simp [Wd.itV]; omega
      rw [e2, ih j (by simpa using hj)]
      simp

theorem own_two {w : World} {base : Nat} {e : TypeId} {v : Value} {ps : List Wd.It} (h : w.ownsRow base e 2 v ps.length (Wd.itsV ps)) :
    ∃ ao cap, v = .slice ao ps.length cap ∧ ps.length ≤ cap ∧ cap ≤ maxLen ∧ (∀ j (hj : j < ps.length), ∃ g, ao = some ⟨g, 0, none⟩ ∧ base ≤ g ∧ g < w.heap.size ∧ w.cell? ⟨g, j * 2, none⟩ = some (.bool (ps[j]).handler) ∧ w.cell? ⟨g, j * 2 + 1, none⟩ = some (.string (Wd.mkS (ps[j]).body))) := by
  obtain ⟨hl, h2⟩ := id h
  rcases h2 with ⟨hv, h0⟩ | ⟨g, cap, cur, hv, hg, hh, hn, hm, hs, ht⟩
  · refine ⟨none, 0, by rw [hv, h0], by omega, by unfold maxLen; omega, fun j hj => by omega⟩
  · refine ⟨some ⟨g, 0, none⟩, cap, hv, hn, hm, fun j hj => ⟨g, rfl, hg, row_lt hh, ?_, ?_⟩⟩
    · have := h.cells (g := g) (by rw [hv]; rfl) (j * 2) _ (itsV_at ps j 0 hj (by omega))
      rw [Addr.add_mid] at this; simpa using this
    · have := h.cells (g := g) (by rw [hv]; rfl) (j * 2 + 1) _ (itsV_at ps j 1 hj (by omega))
      rw [Addr.add_mid] at this; simpa using this

set_option maxRecDepth 100000 in
set_option maxHeartbeats 2000000 in
theorem sameItems_eq (its : List Wd.It) (v1 v2 : Value) (w : World) (b1 b2 : Nat) (hl : its.length ≤ 10000) (h1 : w.ownsRow b1 31 2 v1 its.length (Wd.itsV its)) (h2 : w.ownsRow b2 31 2 v2 its.length (Wd.itsV its)) :
    Calls Try.prog 18 #[v1, v2] w fun e w' => e = .returned (.bool true) ∧ Below w.heap.size w w' := by
  obtain ⟨ao, cap1, rfl, hc1, hm1, hcell1⟩ := own_two h1
  obtain ⟨bo, cap2, rfl, hc2, hm2, hcell2⟩ := own_two h2
  have HC1 := hide hcell1
  have HC2 := hide hcell2
  unfold maxLen at hm1 hm2
  clear h1 h2 hcell1 hcell2
  have hne : (((its.length : Nat) : Int) != ((its.length : Nat) : Int)) = false := by simp
  go_enter Try.func18, Try.ntmps18
  go_wp2
  go_loopw [5] (fun a wr => ∃ k : Nat, k ≤ its.length ∧ a = .int .i64 k ∧ Below w.heap.size w wr) (fun a _ => its.length - (intOf a).toNat)
  case atStart => exact ⟨0, Nat.zero_le _, rfl, Below.refl _ _⟩
  case round =>
    obtain ⟨k, hk, rfl, hbe⟩ := hrel
    have HB := hide hbe
    clear hbe
    by_cases hlt : k < its.length
    · obtain ⟨g1, rfl, _, hg1, q1, q2⟩ := HC1.out k hlt
      obtain ⟨g2, rfl, _, hg2, q3, q4⟩ := HC2.out k hlt
      have d1 := (HB.out.cell (p := ⟨g1, k * 2, none⟩) hg1).trans q1
      have d2 := (HB.out.cell (p := ⟨g1, k * 2 + 1, none⟩) hg1).trans q2
      have d3 := (HB.out.cell (p := ⟨g2, k * 2, none⟩) hg2).trans q3
      have d4 := (HB.out.cell (p := ⟨g2, k * 2 + 1, none⟩) hg2).trans q4
      clear q1 q2 q3 q4
      generalize its[k] = it at *
      obtain ⟨hd, bd⟩ := it
      simp only at d1 d2 d3 d4
      generalize Wd.mkS bd = sb at *
      have hki : (k : Int) < (its.length : Int) := by omega
      have hk0 : (0 : Int) ≤ (k : Int) := by omega
      have hbb : (hd != hd) = false := by simp
      go_wp2_with fail
      go_quiet (fail)
      go_wp2
      exact ⟨⟨k + 1, by omega, by go_num, below_drewN HB.out _⟩, by simp [intOf]; omega⟩
    · go_wp2
      go_ret
      exact ⟨rfl, HB.out⟩
end Go.Proofs.Ytecmfdkhcffpmaa
