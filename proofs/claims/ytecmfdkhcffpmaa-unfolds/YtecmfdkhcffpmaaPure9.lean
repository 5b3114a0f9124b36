/- The plain function of the program's 'read': the error and the place, or the items. -/
import Derived.Test.YtecmfdkhcffpmaaPure8
namespace Go.Proofs.Ytecmfdkhcffpmaa
open Go.RowKit
set_option linter.unusedSimpArgs false
set_option linter.unusedVariables false
namespace Wd
theorem partOf_fine (l : List UInt8) (b i : Nat) (hl : l.length ≤ 10000) (hb : b ≤ 10000) : (partOf l b i).fine := by
  refine ⟨at_lo _ _, at_hi _ _, hb, ?_⟩
  simp [partOf]; omega
theorem splitTo_fine (l : List UInt8) (hl : l.length ≤ 10000) (k : Nat) (hk : k ≤ 10000) : (∀ p ∈ (splitTo l k).ps, p.fine) ∧ FnFine (splitTo l k).F := by
  induction k with
  | zero => exact ⟨by simp [splitTo], fun j => by simp [splitTo, fn0]⟩
  | succ k ih =>
    obtain ⟨h1, h2⟩ := ih (by omega)
    have hb := splitTo_begin l k
    simp only [splitTo, splitStep]
    split
    · have hf := partOf_fine l (splitTo l k).begin k hl (by omega)
      refine ⟨?_, ?_⟩
      · intro p hp
        simp at hp
        rcases hp with hp | hp
        · exact h1 p hp
        · rw [hp]; exact hf
      · intro j
        simp only [addF]
        split
        · by_cases e : j = ((partOf l (splitTo l k).begin k).letter - 65).toNat
          · simp only [e, if_true]; exact ⟨by simp, hf.2.2.2⟩
          · simp only [e, if_false]; exact h2 j
        · exact h2 j
    · exact ⟨h1, h2⟩
def readP (l : List UInt8) : Except (Int × Int) (List It) :=
  if 240 < l.length then .error (1, 0)
  else match fault l with
    | some i => .error (2, (i : Int))
    | none => match names (split l).F (split l).ps with
      | some i => .error (3, (i : Int))
      | none => if left (roundsTo (split l).F 8) = true then .error (4, 0) else match items (roundsTo (split l).F 8) (split l).ps with
        | .error n => .error (5, (n : Int))
        | .ok its => .ok its
theorem readP_long {l : List UInt8} (h : 240 < l.length) : readP l = .error (1, 0) := by simp [readP, h]
theorem readP_text {l : List UInt8} (h : ¬ 240 < l.length) {i : Nat} (h1 : fault l = some i) : readP l = .error (2, (i : Int)) := by simp only [readP, if_neg h, h1]
theorem readP_name {l : List UInt8} (h : ¬ 240 < l.length) {i : Nat} (h1 : fault l = none) (h2 : names (split l).F (split l).ps = some i) : readP l = .error (3, (i : Int)) := by simp only [readP, if_neg h, h1, h2]
theorem readP_round {l : List UInt8} (h : ¬ 240 < l.length) (h1 : fault l = none) (h2 : names (split l).F (split l).ps = none) (h3 : left (roundsTo (split l).F 8) = true) : readP l = .error (4, 0) := by simp only [readP, if_neg h, h1, h2, if_pos h3]
theorem readP_big {l : List UInt8} (h : ¬ 240 < l.length) (h1 : fault l = none) (h2 : names (split l).F (split l).ps = none) (h3 : left (roundsTo (split l).F 8) = false) {n : Nat} (h4 : items (roundsTo (split l).F 8) (split l).ps = .error n) : readP l = .error (5, (n : Int)) := by simp [readP, if_neg h, h1, h2, h3, h4]
theorem readP_ok {l : List UInt8} (h : ¬ 240 < l.length) (h1 : fault l = none) (h2 : names (split l).F (split l).ps = none) (h3 : left (roundsTo (split l).F 8) = false) {its : List It} (h4 : items (roundsTo (split l).F 8) (split l).ps = .ok its) : readP l = .ok its := by simp [readP, if_neg h, h1, h2, h3, h4]
def checkP (l : List UInt8) : Int × Int := match readP l with
  | .ok _ => (0, 0)
  | .error x => x
end Wd
end Go.Proofs.Ytecmfdkhcffpmaa
