/- The plain function of the document's 'unfolded': every name replaced, again and again. -/
import Derived.Test.YtecmfdkhcffpmaaPure4
import Derived.Test.YtecmfdkhcffpmaaPure9
namespace Go.Proofs.Ytecmfdkhcffpmaa
set_option linter.unusedSimpArgs false
set_option linter.unusedVariables false
namespace Wd
/-- What a byte becomes in one pass. -/
def passC (l : List UInt8) (of : Nat → Int) (c : UInt8) : List UInt8 :=
  if up (bt c) = true then (if 0 < of (bt c - 65).toNat then body l ((head l (bt c)).getD 0) else []) else [c]
def pass (l : List UInt8) (of : Nat → Int) (b : List UInt8) : List UInt8 := b.flatMap (passC l of)
def passN (l : List UInt8) (of : Nat → Int) (b : List UInt8) : Nat → List UInt8
  | 0 => b
  | k + 1 => pass l of (passN l of b k)
theorem pass_snoc (l : List UInt8) (of : Nat → Int) (s : ByteArray) (k : Nat) (h : k < s.size) : pass l of (s.data.toList.take (k + 1)) = pass l of (s.data.toList.take k) ++ passC l of s[k] := by
  rw [List.take_succ_eq_append_getElem (by rw [len_str]; exact h)]
  simp [pass]
  rfl
theorem pass_take (l : List UInt8) (of : Nat → Int) (b : List UInt8) (k : Nat) : (pass l of (b.take k)).length ≤ (pass l of b).length := by
  have : pass l of b = pass l of (b.take k) ++ pass l of (b.drop k) := by
    rw [pass, pass, pass, ← List.flatMap_append, List.take_append_drop]
  rw [this]; simp
end Wd
end Go.Proofs.Ytecmfdkhcffpmaa
