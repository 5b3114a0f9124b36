/- Contracts: the same reports; of two sources the same is told, and they go the same way. -/
import Derived.Test.YtecmfdkhcffpmaaB46
import Derived.Deep.QuietTactic
import Derived.BigQuiet
namespace Go.Proofs.Ytecmfdkhcffpmaa
open Go.RowKit
set_option linter.unusedSimpArgs false
set_option linter.unusedVariables false
set_option maxHeartbeats 8000000
open Wd Mc
theorem Src.edges {l : List UInt8} {its : List It} (h : Src l its) (w : World) : Calls Try.prog 28 #[.string (Wd.mkS l)] w fun e w' =>
    Below w.heap.size w w' ∧ ∃ ao cc, e = .returned (.tuple #[.slice ao (edgeL (edgeS its) 6).length cc, .int .i64 0]) ∧ w'.ownsRow w.heap.size 50 2 (.slice ao (edgeL (edgeS its) 6).length cc) (edgeL (edgeS its) 6).length ((edgeL (edgeS its) 6).flatMap edV) := by
  have := wEdges_any (Wd.mkS l) w (by rw [Wd.mkS_size]; have := h.len; unfold maxLen; omega)
  rw [mkS_list, h.read] at this
  exact this
end Go.Proofs.Ytecmfdkhcffpmaa
