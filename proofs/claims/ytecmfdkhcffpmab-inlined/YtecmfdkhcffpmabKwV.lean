/- Contracts: the n-th raw number, the raw numbers of a body. -/
import Derived.Test.YtecmfdkhcffpmabB08
namespace Go.Proofs.Ytecmfdkhcffpmab
open Go.RowKit
set_option linter.unusedSimpArgs false
set_option linter.unusedVariables false
set_option maxHeartbeats 8000000
open Wd

theorem nth_any (v : Value) (zs : List Int) (i : Nat) (w : World) (hv : IntsIn w v zs) (hi : i ≤ 1000) :
    Calls Try.prog 25 #[v, .int .i64 i] w fun e w' => e = .returned (.int .i64 (zs.getD i 0)) ∧ w' = w := by
  obtain ⟨ao, cap, rfl, hlen, hran, hcell⟩ := hv
  have HC := hide hcell
  clear hcell hran
  by_cases h : i < zs.length
  · obtain ⟨b, rfl, hbb, hcl⟩ := HC.out i h
    have HE : Hid (zs.getD i 0 = zs[i]) := hide (by simp [List.getD, h])
    have hi0 : (0 : Int) ≤ (i : Int) := by omega
    have hil : (i : Int) < (zs.length : Int) := by omega
    generalize zs[i] = z at *
    go_enter Try.func25, Try.ntmps25
    go_wp2
    go_ret
    exact ⟨ret_int (by rw [HE.out]), rfl⟩
  · have HE : Hid (zs.getD i 0 = 0) := hide (by simp [List.getD, h])
    go_enter Try.func25, Try.ntmps25
    go_wp2
    go_ret
    exact ⟨ret_int (by rw [HE.out]), rfl⟩
/-- Bodies of raw numbers in memory. -/
def BodsIn (w : World) (v : Value) (bs : List (List Int)) : Prop :=
  ∃ (ao : Option Addr) (cap : Nat), v = .slice ao bs.length cap ∧ bs.length ≤ maxLen ∧
    ∀ i (h : i < bs.length), ∃ b, ao = some b ∧ b.block < w.heap.size ∧ ∃ u, w.cell? (b.add i) = some u ∧ IntsIn w u bs[i]
theorem BodsIn.below {w w' : World} {v : Value} {bs : List (List Int)} (h : BodsIn w v bs) {B : Nat} (hb : Below B w w') (hB : w.heap.size ≤ B) : BodsIn w' v bs := by
  obtain ⟨ao, cap, h1, h2, h4⟩ := h
  refine ⟨ao, cap, h1, h2, fun i hi => ?_⟩
  obtain ⟨b, e1, e2, u, e3, e4⟩ := h4 i hi
  exact ⟨b, e1, Nat.lt_of_lt_of_le e2 hb.size, u, by rw [hb.cell (by rw [add_blk]; omega)]; exact e3, e4.below hb hB⟩
theorem IntsIn.nil (w : World) : IntsIn w (.slice none 0 0) [] := ⟨none, 0, rfl, by simp, by simp, fun i hi => by simp at hi⟩
theorem some_any (v : Value) (bs : List (List Int)) (i : Nat) (w : World) (hv : BodsIn w v bs) (hi : i ≤ 1000) :
    Calls Try.prog 24 #[v, .int .i64 i] w fun e w' => (∃ u, e = .returned u ∧ IntsIn w u (bs.getD i [])) ∧ w' = w := by
  obtain ⟨ao, cap, rfl, hlen, hcell⟩ := hv
  have HC := hide hcell
  clear hcell
  by_cases h : i < bs.length
  · obtain ⟨b, rfl, hbb, u, hcl, hin⟩ := HC.out i h
    have HE : Hid (IntsIn w u (bs.getD i [])) := hide (by simp [List.getD, h]; exact hin)
    obtain ⟨ao2, m, cap2, hu⟩ : ∃ ao m cap, u = .slice ao m cap := by
      obtain ⟨ao2, cap2, hu, _⟩ := hin
      exact ⟨ao2, _, cap2, hu⟩
    clear hin
    subst hu
    have hi0 : (0 : Int) ≤ (i : Int) := by omega
    have hil : (i : Int) < (bs.length : Int) := by omega
    go_enter Try.func24, Try.ntmps24
    go_wp2
    go_ret
    exact ⟨⟨_, rfl, HE.out⟩, rfl⟩
  · have HE : Hid (IntsIn w (.slice none 0 0) (bs.getD i [])) := hide (by simp [List.getD, h]; exact IntsIn.nil w)
    go_enter Try.func24, Try.ntmps24
    go_wp2
    go_ret
    exact ⟨⟨_, rfl, HE.out⟩, rfl⟩
end Go.Proofs.Ytecmfdkhcffpmab
