/- The plain function of the document's 'Unfold'. -/
import Derived.Test.YtecmfdkhcffpmaaUnf1
namespace Go.Proofs.Ytecmfdkhcffpmaa
set_option linter.unusedSimpArgs false
set_option linter.unusedVariables false
namespace Wd
def itemR (l : List UInt8) (i : Nat) : It := ⟨at_ l i == 104, passN l (sizesN l 8) (body l i) 8⟩
def unfoldR (l : List UInt8) : List It := (starts l).map (itemR l)
theorem sizesN_none (l : List UInt8) (f k : Nat) (h : head l (65 + (f : Int)) = none) : sizesN l k f = 0 := by
  induction k with
  | zero => rfl
  | succ k ih => simp only [sizesN, sizesStep, h, ih]
theorem sizesN_head (l : List UInt8) (c : Int) (hu : up c = true) (hp : 0 < sizesN l 8 (c - 65).toNat) : ∃ i, head l c = some i := by
  cases hh : head l c with
  | some i => exact ⟨i, rfl⟩
  | none =>
    simp [up] at hu
    have := sizesN_none l (c - 65).toNat 8 (by rw [show 65 + (((c - 65).toNat : Nat) : Int) = c from by omega]; exact hh)
    omega
end Wd
end Go.Proofs.Ytecmfdkhcffpmaa
