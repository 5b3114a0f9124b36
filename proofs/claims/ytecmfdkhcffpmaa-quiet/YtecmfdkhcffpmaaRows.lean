/-
  No cell of these rows narrows 'for every input' (looked for: loops, veiled, ifaces, maps, wideKeys, modest, calm, conditions, laid).
  DERIVED. THE GIVEN ROWS OF THIS SEAT. 11 by the template 'for every input the law returns true; each argument reads behind the call as it read before'; 0 by the template 'total and deterministic' (their statements: YtecmfdkhcffpmaaTotals.lean).
  GIVEN WITH THE SEED: the statements are not yours to turn. If you find one false, say at which input.
  Laid BY PROGRAM, IN A SANDBOX (cutbox-rows.mjs): the forced cells as the released guide's own fill.sh prints them over the translation 496261636586061f… (all of the seat's roots in one cut). By AI agents, Wed Nov 11 2026. No macro, syntax, notation, axiom, sorry.
-/
import Derived.Test.YtecmfdkhcffpmaaChecked
import GoSem.Claim
import GoSem.ClaimJoined
import GoSem.ClaimMapViews
import Derived.JoinedTies
import Derived.KernelRfl
namespace Go.Proofs.Ytecmfdkhcffpmaa
/- THE CELL 'sum', in the pinned program and in every row, IS THE sha256 OF THE DUMP (.gsa) THAT YtecmfdkhcffpmaaProg.lean LOADS. Nothing in Lean hashes anything: it is a label: what it is worth is what the hold of that sum in a sandbox is worth. -/
noncomputable def Try.pinned : Pinned := { name := "ytecmfdkhcffpmaa", sum := "496261636586061fd6ea3db7e07e0aec65b88b159ef943c8bbead4a8ef58d534", checked := Try.checked }
namespace Rows
def none {H : Type} : Left H := { results := [], args := [] }

/-- 'wardenlaw.Checks': WHATEVER THE INPUT: true; the input reads as it did. -/
def checksSpec : ChangeSpec := { name := "checks", fn := fun _ => fun
  | [d] => { results := [.lit (.bool true)], args := [d] }
  | _ => none }
def checksRow : OpenClaim := { program := "ytecmfdkhcffpmaa", sum := "496261636586061fd6ea3db7e07e0aec65b88b159ef943c8bbead4a8ef58d534", func := "warden/wardenlaw.Checks", spec := "checks", apart := false }
def ChecksSaid : Prop := checksRow.holds Try.pinned (OpenSpec.ofChange checksSpec)

/-- ITS FALSE NEIGHBOUR: 'it returns false'. Refute it at one input. -/
def checksWrong : ChangeSpec := { name := "checks", fn := fun _ => fun
  | [d] => { results := [.lit (.bool false)], args := [d] }
  | _ => none }
def ChecksWrongFalsely : Prop := checksRow.holds Try.pinned (OpenSpec.ofChange checksWrong)

/-- 'wardenlaw.Unfolds': WHATEVER THE INPUT: true; the input reads as it did. -/
def unfoldsSpec : ChangeSpec := { name := "unfolds", fn := fun _ => fun
  | [d] => { results := [.lit (.bool true)], args := [d] }
  | _ => none }
def unfoldsRow : OpenClaim := { program := "ytecmfdkhcffpmaa", sum := "496261636586061fd6ea3db7e07e0aec65b88b159ef943c8bbead4a8ef58d534", func := "warden/wardenlaw.Unfolds", spec := "unfolds", apart := false }
def UnfoldsSaid : Prop := unfoldsRow.holds Try.pinned (OpenSpec.ofChange unfoldsSpec)

/-- ITS FALSE NEIGHBOUR: 'it returns false'. Refute it at one input. -/
def unfoldsWrong : ChangeSpec := { name := "unfolds", fn := fun _ => fun
  | [d] => { results := [.lit (.bool false)], args := [d] }
  | _ => none }
def UnfoldsWrongFalsely : Prop := unfoldsRow.holds Try.pinned (OpenSpec.ofChange unfoldsWrong)

/-- 'wardenlaw.Runs': WHATEVER THE INPUT: true; the input reads as it did. -/
def runsSpec : ChangeSpec := { name := "runs", fn := fun _ => fun
  | [d1, d2, d3] => { results := [.lit (.bool true)], args := [d1, d2, d3] }
  | _ => none }
def runsRow : OpenClaim := { program := "ytecmfdkhcffpmaa", sum := "496261636586061fd6ea3db7e07e0aec65b88b159ef943c8bbead4a8ef58d534", func := "warden/wardenlaw.Runs", spec := "runs", apart := false }
def RunsSaid : Prop := runsRow.holds Try.pinned (OpenSpec.ofChange runsSpec)

/-- ITS FALSE NEIGHBOUR: 'it returns false'. Refute it at one input. -/
def runsWrong : ChangeSpec := { name := "runs", fn := fun _ => fun
  | [d1, d2, d3] => { results := [.lit (.bool false)], args := [d1, d2, d3] }
  | _ => none }
def RunsWrongFalsely : Prop := runsRow.holds Try.pinned (OpenSpec.ofChange runsWrong)

/-- 'wardenlaw.Solos': WHATEVER THE INPUT: true; the input reads as it did. -/
def solosSpec : ChangeSpec := { name := "solos", fn := fun _ => fun
  | [d] => { results := [.lit (.bool true)], args := [d] }
  | _ => none }
def solosRow : OpenClaim := { program := "ytecmfdkhcffpmaa", sum := "496261636586061fd6ea3db7e07e0aec65b88b159ef943c8bbead4a8ef58d534", func := "warden/wardenlaw.Solos", spec := "solos", apart := false }
def SolosSaid : Prop := solosRow.holds Try.pinned (OpenSpec.ofChange solosSpec)

/-- ITS FALSE NEIGHBOUR: 'it returns false'. Refute it at one input. -/
def solosWrong : ChangeSpec := { name := "solos", fn := fun _ => fun
  | [d] => { results := [.lit (.bool false)], args := [d] }
  | _ => none }
def SolosWrongFalsely : Prop := solosRow.holds Try.pinned (OpenSpec.ofChange solosWrong)

/-- 'wardenlaw.Reports': WHATEVER THE INPUT: true; the input reads as it did. -/
def reportsSpec : ChangeSpec := { name := "reports", fn := fun _ => fun
  | [d] => { results := [.lit (.bool true)], args := [d] }
  | _ => none }
def reportsRow : OpenClaim := { program := "ytecmfdkhcffpmaa", sum := "496261636586061fd6ea3db7e07e0aec65b88b159ef943c8bbead4a8ef58d534", func := "warden/wardenlaw.Reports", spec := "reports", apart := false }
def ReportsSaid : Prop := reportsRow.holds Try.pinned (OpenSpec.ofChange reportsSpec)

/-- ITS FALSE NEIGHBOUR: 'it returns false'. Refute it at one input. -/
def reportsWrong : ChangeSpec := { name := "reports", fn := fun _ => fun
  | [d] => { results := [.lit (.bool false)], args := [d] }
  | _ => none }
def ReportsWrongFalsely : Prop := reportsRow.holds Try.pinned (OpenSpec.ofChange reportsWrong)

/-- 'wardenlaw.Finds': WHATEVER THE INPUT: true; the input reads as it did. -/
def findsSpec : ChangeSpec := { name := "finds", fn := fun _ => fun
  | [d1, d2, d3] => { results := [.lit (.bool true)], args := [d1, d2, d3] }
  | _ => none }
def findsRow : OpenClaim := { program := "ytecmfdkhcffpmaa", sum := "496261636586061fd6ea3db7e07e0aec65b88b159ef943c8bbead4a8ef58d534", func := "warden/wardenlaw.Finds", spec := "finds", apart := false }
def FindsSaid : Prop := findsRow.holds Try.pinned (OpenSpec.ofChange findsSpec)

/-- ITS FALSE NEIGHBOUR: 'it returns false'. Refute it at one input. -/
def findsWrong : ChangeSpec := { name := "finds", fn := fun _ => fun
  | [d1, d2, d3] => { results := [.lit (.bool false)], args := [d1, d2, d3] }
  | _ => none }
def FindsWrongFalsely : Prop := findsRow.holds Try.pinned (OpenSpec.ofChange findsWrong)

/-- 'wardenlaw.Orders': WHATEVER THE INPUT: true; the input reads as it did. -/
def ordersSpec : ChangeSpec := { name := "orders", fn := fun _ => fun
  | [d] => { results := [.lit (.bool true)], args := [d] }
  | _ => none }
def ordersRow : OpenClaim := { program := "ytecmfdkhcffpmaa", sum := "496261636586061fd6ea3db7e07e0aec65b88b159ef943c8bbead4a8ef58d534", func := "warden/wardenlaw.Orders", spec := "orders", apart := false }
def OrdersSaid : Prop := ordersRow.holds Try.pinned (OpenSpec.ofChange ordersSpec)

/-- ITS FALSE NEIGHBOUR: 'it returns false'. Refute it at one input. -/
def ordersWrong : ChangeSpec := { name := "orders", fn := fun _ => fun
  | [d] => { results := [.lit (.bool false)], args := [d] }
  | _ => none }
def OrdersWrongFalsely : Prop := ordersRow.holds Try.pinned (OpenSpec.ofChange ordersWrong)

/-- 'wardenkeep.Sound': WHATEVER THE INPUT: true; the input reads as it did. -/
def soundSpec : ChangeSpec := { name := "sound", fn := fun _ => fun
  | [d1, d2, d3] => { results := [.lit (.bool true)], args := [d1, d2, d3] }
  | _ => none }
def soundRow : OpenClaim := { program := "ytecmfdkhcffpmaa", sum := "496261636586061fd6ea3db7e07e0aec65b88b159ef943c8bbead4a8ef58d534", func := "warden/wardenkeep.Sound", spec := "sound", apart := false }
def SoundSaid : Prop := soundRow.holds Try.pinned (OpenSpec.ofChange soundSpec)

/-- ITS FALSE NEIGHBOUR: 'it returns false'. Refute it at one input. -/
def soundWrong : ChangeSpec := { name := "sound", fn := fun _ => fun
  | [d1, d2, d3] => { results := [.lit (.bool false)], args := [d1, d2, d3] }
  | _ => none }
def SoundWrongFalsely : Prop := soundRow.holds Try.pinned (OpenSpec.ofChange soundWrong)

/-- 'wardenkeep.Shown': WHATEVER THE INPUT: true; the input reads as it did. -/
def shownSpec : ChangeSpec := { name := "shown", fn := fun _ => fun
  | [d] => { results := [.lit (.bool true)], args := [d] }
  | _ => none }
def shownRow : OpenClaim := { program := "ytecmfdkhcffpmaa", sum := "496261636586061fd6ea3db7e07e0aec65b88b159ef943c8bbead4a8ef58d534", func := "warden/wardenkeep.Shown", spec := "shown", apart := false }
def ShownSaid : Prop := shownRow.holds Try.pinned (OpenSpec.ofChange shownSpec)

/-- ITS FALSE NEIGHBOUR: 'it returns false'. Refute it at one input. -/
def shownWrong : ChangeSpec := { name := "shown", fn := fun _ => fun
  | [d] => { results := [.lit (.bool false)], args := [d] }
  | _ => none }
def ShownWrongFalsely : Prop := shownRow.holds Try.pinned (OpenSpec.ofChange shownWrong)

/-- 'wardenkeep.Quiet': WHATEVER THE INPUT: true; the input reads as it did. -/
def quietSpec : ChangeSpec := { name := "quiet", fn := fun _ => fun
  | [d1, d2, d3, d4] => { results := [.lit (.bool true)], args := [d1, d2, d3, d4] }
  | _ => none }
def quietRow : OpenClaim := { program := "ytecmfdkhcffpmaa", sum := "496261636586061fd6ea3db7e07e0aec65b88b159ef943c8bbead4a8ef58d534", func := "warden/wardenkeep.Quiet", spec := "quiet", apart := false }
def QuietSaid : Prop := quietRow.holds Try.pinned (OpenSpec.ofChange quietSpec)

/-- ITS FALSE NEIGHBOUR: 'it returns false'. Refute it at one input. -/
def quietWrong : ChangeSpec := { name := "quiet", fn := fun _ => fun
  | [d1, d2, d3, d4] => { results := [.lit (.bool false)], args := [d1, d2, d3, d4] }
  | _ => none }
def QuietWrongFalsely : Prop := quietRow.holds Try.pinned (OpenSpec.ofChange quietWrong)

/-- 'wardenkeep.Told': WHATEVER THE INPUT: true; the input reads as it did. -/
def toldSpec : ChangeSpec := { name := "told", fn := fun _ => fun
  | [d1, d2, d3, d4, d5] => { results := [.lit (.bool true)], args := [d1, d2, d3, d4, d5] }
  | _ => none }
def toldRow : OpenClaim := { program := "ytecmfdkhcffpmaa", sum := "496261636586061fd6ea3db7e07e0aec65b88b159ef943c8bbead4a8ef58d534", func := "warden/wardenkeep.Told", spec := "told", apart := false }
def ToldSaid : Prop := toldRow.holds Try.pinned (OpenSpec.ofChange toldSpec)

/-- ITS FALSE NEIGHBOUR: 'it returns false'. Refute it at one input. -/
def toldWrong : ChangeSpec := { name := "told", fn := fun _ => fun
  | [d1, d2, d3, d4, d5] => { results := [.lit (.bool false)], args := [d1, d2, d3, d4, d5] }
  | _ => none }
def ToldWrongFalsely : Prop := toldRow.holds Try.pinned (OpenSpec.ofChange toldWrong)

/- THE SECOND FORM. 'bulk': how many values and letters a reading holds, each counted each time it is reached (what is shared counts as often as it is met; a slice's spare places count too). A statement '..UptoSaid' is the law's where the arguments, and the package variables that the reading takes, are together of bulk at most 1048576: NARROWER than '..Said'. Prove '..Said' where nothing that the law and all that it calls make is longer than what came in: it says more and counts as full. Else prove '..UptoSaid'. A law counts once. -/
mutual
def uptoBulk {H : Type} : DataW H → Nat
  | .lit (.string bytes) => bytes.length + 1
  | .lit _ => 1
  | .nil => 1
  | .ptr d => uptoBulk d + 1
  | .slice elems spare => uptoBulkAll elems + uptoBulkAll spare + 1
  | .agg parts => uptoBulkAll parts + 1
  | .iface _ d => uptoBulk d + 1
  | .map entries => uptoBulkEntries entries + 1
  | .held _ => 1
def uptoBulkAll {H : Type} : List (DataW H) → Nat
  | [] => 0
  | d :: r => uptoBulk d + uptoBulkAll r
def uptoBulkEntries {H : Type} : List (Lit × DataW H) → Nat
  | [] => 0
  | x :: r => uptoBulkEntry x + uptoBulkEntries r
def uptoBulkEntry {H : Type} : Lit × DataW H → Nat
  | (.string bytes, d) => bytes.length + uptoBulk d + 1
  | (_, d) => uptoBulk d + 1
 end
def uptoSmall : (H : Type) → List (DataW H) → Bool := fun _ ds => decide (uptoBulkAll ds ≤ 1048576)
def OpenSpec.upto (s : _root_.Go.ChangeSpec) : _root_.Go.OpenSpec := { _root_.Go.OpenSpec.ofChange s with cond := some uptoSmall }

/-- 'wardenlaw.Checks', WHERE WHAT IT READS IS OF BULK AT MOST 1048576: true; the input reads as it did. -/
def checksUptoRow : OpenClaim := { program := "ytecmfdkhcffpmaa", sum := "496261636586061fd6ea3db7e07e0aec65b88b159ef943c8bbead4a8ef58d534", func := "warden/wardenlaw.Checks", spec := "checks", apart := false, narrowed := true }
def ChecksUptoSaid : Prop := checksUptoRow.holds Try.pinned (OpenSpec.upto checksSpec)

/-- 'wardenlaw.Unfolds', WHERE WHAT IT READS IS OF BULK AT MOST 1048576: true; the input reads as it did. -/
def unfoldsUptoRow : OpenClaim := { program := "ytecmfdkhcffpmaa", sum := "496261636586061fd6ea3db7e07e0aec65b88b159ef943c8bbead4a8ef58d534", func := "warden/wardenlaw.Unfolds", spec := "unfolds", apart := false, narrowed := true }
def UnfoldsUptoSaid : Prop := unfoldsUptoRow.holds Try.pinned (OpenSpec.upto unfoldsSpec)

/-- 'wardenlaw.Runs', WHERE WHAT IT READS IS OF BULK AT MOST 1048576: true; the input reads as it did. -/
def runsUptoRow : OpenClaim := { program := "ytecmfdkhcffpmaa", sum := "496261636586061fd6ea3db7e07e0aec65b88b159ef943c8bbead4a8ef58d534", func := "warden/wardenlaw.Runs", spec := "runs", apart := false, narrowed := true }
def RunsUptoSaid : Prop := runsUptoRow.holds Try.pinned (OpenSpec.upto runsSpec)

/-- 'wardenlaw.Solos', WHERE WHAT IT READS IS OF BULK AT MOST 1048576: true; the input reads as it did. -/
def solosUptoRow : OpenClaim := { program := "ytecmfdkhcffpmaa", sum := "496261636586061fd6ea3db7e07e0aec65b88b159ef943c8bbead4a8ef58d534", func := "warden/wardenlaw.Solos", spec := "solos", apart := false, narrowed := true }
def SolosUptoSaid : Prop := solosUptoRow.holds Try.pinned (OpenSpec.upto solosSpec)

/-- 'wardenlaw.Reports', WHERE WHAT IT READS IS OF BULK AT MOST 1048576: true; the input reads as it did. -/
def reportsUptoRow : OpenClaim := { program := "ytecmfdkhcffpmaa", sum := "496261636586061fd6ea3db7e07e0aec65b88b159ef943c8bbead4a8ef58d534", func := "warden/wardenlaw.Reports", spec := "reports", apart := false, narrowed := true }
def ReportsUptoSaid : Prop := reportsUptoRow.holds Try.pinned (OpenSpec.upto reportsSpec)

/-- 'wardenlaw.Finds', WHERE WHAT IT READS IS OF BULK AT MOST 1048576: true; the input reads as it did. -/
def findsUptoRow : OpenClaim := { program := "ytecmfdkhcffpmaa", sum := "496261636586061fd6ea3db7e07e0aec65b88b159ef943c8bbead4a8ef58d534", func := "warden/wardenlaw.Finds", spec := "finds", apart := false, narrowed := true }
def FindsUptoSaid : Prop := findsUptoRow.holds Try.pinned (OpenSpec.upto findsSpec)

/-- 'wardenlaw.Orders', WHERE WHAT IT READS IS OF BULK AT MOST 1048576: true; the input reads as it did. -/
def ordersUptoRow : OpenClaim := { program := "ytecmfdkhcffpmaa", sum := "496261636586061fd6ea3db7e07e0aec65b88b159ef943c8bbead4a8ef58d534", func := "warden/wardenlaw.Orders", spec := "orders", apart := false, narrowed := true }
def OrdersUptoSaid : Prop := ordersUptoRow.holds Try.pinned (OpenSpec.upto ordersSpec)

/-- 'wardenkeep.Sound', WHERE WHAT IT READS IS OF BULK AT MOST 1048576: true; the input reads as it did. -/
def soundUptoRow : OpenClaim := { program := "ytecmfdkhcffpmaa", sum := "496261636586061fd6ea3db7e07e0aec65b88b159ef943c8bbead4a8ef58d534", func := "warden/wardenkeep.Sound", spec := "sound", apart := false, narrowed := true }
def SoundUptoSaid : Prop := soundUptoRow.holds Try.pinned (OpenSpec.upto soundSpec)

/-- 'wardenkeep.Shown', WHERE WHAT IT READS IS OF BULK AT MOST 1048576: true; the input reads as it did. -/
def shownUptoRow : OpenClaim := { program := "ytecmfdkhcffpmaa", sum := "496261636586061fd6ea3db7e07e0aec65b88b159ef943c8bbead4a8ef58d534", func := "warden/wardenkeep.Shown", spec := "shown", apart := false, narrowed := true }
def ShownUptoSaid : Prop := shownUptoRow.holds Try.pinned (OpenSpec.upto shownSpec)

/-- 'wardenkeep.Quiet', WHERE WHAT IT READS IS OF BULK AT MOST 1048576: true; the input reads as it did. -/
def quietUptoRow : OpenClaim := { program := "ytecmfdkhcffpmaa", sum := "496261636586061fd6ea3db7e07e0aec65b88b159ef943c8bbead4a8ef58d534", func := "warden/wardenkeep.Quiet", spec := "quiet", apart := false, narrowed := true }
def QuietUptoSaid : Prop := quietUptoRow.holds Try.pinned (OpenSpec.upto quietSpec)

/-- 'wardenkeep.Told', WHERE WHAT IT READS IS OF BULK AT MOST 1048576: true; the input reads as it did. -/
def toldUptoRow : OpenClaim := { program := "ytecmfdkhcffpmaa", sum := "496261636586061fd6ea3db7e07e0aec65b88b159ef943c8bbead4a8ef58d534", func := "warden/wardenkeep.Told", spec := "told", apart := false, narrowed := true }
def ToldUptoSaid : Prop := toldUptoRow.holds Try.pinned (OpenSpec.upto toldSpec)

end Rows
end Go.Proofs.Ytecmfdkhcffpmaa
