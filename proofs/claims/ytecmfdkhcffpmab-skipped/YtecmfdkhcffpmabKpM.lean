/- Plain: the commands at which something was done, one more. -/
import Derived.Test.YtecmfdkhcffpmabB13
namespace Go.Proofs.Ytecmfdkhcffpmab
open Go.RowKit
set_option linter.unusedSimpArgs false
set_option linter.unusedVariables false
namespace Mc
open Wd
theorem restP_step : ∀ (k : Nat) (T s : List UInt8) (h : k < T.length) (h1 : 2 * k < s.length) (h2 : 2 * k + 1 < s.length), restP (T.take (k + 1)) s = restP (T.take k) s ++ (if keptB T[k] = true then [s[2 * k], s[2 * k + 1]] else [])
  | k, [], s, h, _, _ => by simp at h
  | k, c :: t, [], _, h1, _ => by simp at h1
  | k, c :: t, [_], _, h1, h2 => by simp at h2
  | 0, c :: t, a :: o :: r, _, _, _ => by
    simp only [List.take_succ_cons, List.take_zero, restP, List.getElem_cons_zero, Nat.mul_zero, List.nil_append]
    split
    · cases r <;> simp [restP]
    · cases r <;> simp [restP]
  | k + 1, c :: t, a :: o :: r, h, h1, h2 => by
    have ih := restP_step k t r (by simpa using h) (by simp at h1; omega) (by simp at h2; omega)
    rw [List.take_succ_cons, restP, List.take_succ_cons, restP, ih]
    have e1 : (a :: o :: r)[2 * (k + 1)] = r[2 * k]'(by simp at h1; omega) := by simp [show 2 * (k + 1) = 2 * k + 1 + 1 from rfl]
    have e2 : (a :: o :: r)[2 * (k + 1) + 1] = r[2 * k + 1]'(by simp at h2; omega) := by simp [show 2 * (k + 1) + 1 = 2 * k + 1 + 1 + 1 from rfl]
    rw [e1, e2, List.getElem_cons_succ]
    split <;> simp
theorem filter_step (k : Nat) (T : List UInt8) (h : k < T.length) : (T.take (k + 1)).filter keptB = (T.take k).filter keptB ++ (if keptB T[k] = true then [T[k]] else []) := by
  rw [List.take_succ_eq_append_getElem h, List.filter_append]
  congr 1
  simp only [List.filter_cons, List.filter_nil]
end Mc
end Go.Proofs.Ytecmfdkhcffpmab
