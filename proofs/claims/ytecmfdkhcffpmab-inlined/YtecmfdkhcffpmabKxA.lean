/- Contracts of Check and Unfold, once more. -/
import Derived.Test.YtecmfdkhcffpmabB01
import Derived.Test.YtecmfdkhcffpmabB20
import Derived.Test.YtecmfdkhcffpmabB35
namespace Go.Proofs.Ytecmfdkhcffpmab
open Go.RowKit
set_option linter.unusedSimpArgs false
set_option linter.unusedVariables false
namespace Wd
def checkPX (l : List UInt8) : Int × Int := match readP l with
  | .ok _ => (0, 0)
  | .error x => x
end Wd
end Go.Proofs.Ytecmfdkhcffpmab

namespace Go.Proofs.Ytecmfdkhcffpmab
open Go.RowKit
set_option linter.unusedSimpArgs false
set_option linter.unusedVariables false
set_option maxHeartbeats 800000

theorem sourceCheck_anyX (s : ByteArray) (w : World) (hs : s.size ≤ maxLen) :
    Calls Try.prog 38 #[.string s] w fun e w' => e = .returned (.tuple #[.int .i64 (Wd.checkPX s.data.toList).1, .int .i64 (Wd.checkPX s.data.toList).2]) ∧ Below w.heap.size w w' := by
  have HX := read_any s w hs
  unfold Wd.checkPX
  cases hq : Wd.readP s.data.toList with
  | error x =>
    rw [hq] at HX
    have HXX := hide HX
    clear HX hq
    go_enter Try.func38, Try.ntmps38
    go_wp2_with (go_at_call 48; refine HXX.out.mono ?_; rintro e w' ⟨hb, rfl⟩)
    go_ret2
    exact ⟨rfl, hb⟩
  | ok its =>
    rw [hq] at HX
    have HXX := hide HX
    clear HX hq
    go_enter Try.func38, Try.ntmps38
    go_wp2_with (go_at_call 48; refine HXX.out.mono ?_; rintro e w' ⟨hb, g, cp, rfl, hown⟩)
    go_ret2
    exact ⟨rfl, hb⟩
theorem check_anyX (s : ByteArray) (w : World) (hs : s.size ≤ maxLen) :
    Calls Try.prog 27 #[.string s] w fun e w' => e = .returned (.tuple #[.int .i64 (Wd.checkPX s.data.toList).1, .int .i64 (Wd.checkPX s.data.toList).2]) ∧ Below w.heap.size w w' := by
  go_enter Try.func27, Try.ntmps27
  go_wp2_with (go_at_call 38; refine (sourceCheck_anyX _ _ hs).mono ?_; rintro e w' ⟨rfl, hb⟩)
  go_ret2
  exact ⟨rfl, hb⟩
end Go.Proofs.Ytecmfdkhcffpmab

namespace Go.Proofs.Ytecmfdkhcffpmab
open Go.RowKit
set_option linter.unusedSimpArgs false
set_option linter.unusedVariables false
set_option maxHeartbeats 800000

theorem wardenUnfold_anyX (s : ByteArray) (w : World) (hs : s.size ≤ maxLen) :
    Calls Try.prog 28 #[.string s] w (UPost w (Wd.readP s.data.toList)) := by
  have HX := sourceUnfold_any s w hs
  cases hq : Wd.readP s.data.toList with
  | error x =>
    rw [hq] at HX
    have HXX := hide HX
    clear HX hq
    go_enter Try.func28, Try.ntmps28
    go_wp2_with (go_at_call 39; refine HXX.out.mono ?_; rintro e w' ⟨hb, rfl⟩)
    go_ret2
    exact ⟨hb, rfl⟩
  | ok its =>
    rw [hq] at HX
    have HXX := hide HX
    clear HX hq
    go_enter Try.func28, Try.ntmps28
    go_wp2_with (go_at_call 39; refine HXX.out.mono ?_; rintro e w' ⟨hb, g, cp, rfl, hown⟩)
    go_ret2
    exact ⟨hb, g, cp, rfl, hown⟩
end Go.Proofs.Ytecmfdkhcffpmab

