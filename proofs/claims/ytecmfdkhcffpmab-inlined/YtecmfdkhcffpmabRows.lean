/-
  No cell of these rows narrows 'for every input' (looked for: loops, veiled, ifaces, maps, wideKeys, modest, calm, conditions, laid).
  DERIVED. THE GIVEN ROWS OF THIS SEAT. 5 by the template 'for every input the law returns true; each argument reads behind the call as it read before'; 0 by the template 'total and deterministic' (their statements: YtecmfdkhcffpmabTotals.lean).
  GIVEN WITH THE SEED: the statements are not yours to turn. If you find one false, say at which input.
  Laid BY PROGRAM, IN A SANDBOX (cutbox-rows.mjs): the forced cells as the released guide's own fill.sh prints them over the translation 2994c938c6600800… (all of the seat's roots in one cut). By AI agents, Wed Nov 11 2026. No macro, syntax, notation, axiom, sorry.
-/
import Derived.Test.YtecmfdkhcffpmabChecked
import GoSem.Claim
import GoSem.ClaimJoined
import GoSem.ClaimMapViews
import Derived.JoinedTies
import Derived.KernelRfl
namespace Go.Proofs.Ytecmfdkhcffpmab
/- THE CELL 'sum', in the pinned program and in every row, IS THE sha256 OF THE DUMP (.gsa) THAT YtecmfdkhcffpmabProg.lean LOADS. Nothing in Lean hashes anything: it is a label: what it is worth is what the hold of that sum in a sandbox is worth. -/
noncomputable def Try.pinned : Pinned := { name := "ytecmfdkhcffpmab", sum := "2994c938c6600800d9e400b0c516e8f91e9240b03824f79f17ebbe42664290d5", checked := Try.checked }
namespace Rows
def none {H : Type} : Left H := { results := [], args := [] }

/-- 'wardenkeep.Prefix': WHATEVER THE INPUT: true; the input reads as it did. -/
def prefixSpec : ChangeSpec := { name := "prefix", fn := fun _ => fun
  | [d1, d2, d3, d4] => { results := [.lit (.bool true)], args := [d1, d2, d3, d4] }
  | _ => none }
def prefixRow : OpenClaim := { program := "ytecmfdkhcffpmab", sum := "2994c938c6600800d9e400b0c516e8f91e9240b03824f79f17ebbe42664290d5", func := "warden/wardenkeep.Prefix", spec := "prefix", apart := false }
def PrefixSaid : Prop := prefixRow.holds Try.pinned (OpenSpec.ofChange prefixSpec)

/-- ITS FALSE NEIGHBOUR: 'it returns false'. Refute it at one input. -/
def prefixWrong : ChangeSpec := { name := "prefix", fn := fun _ => fun
  | [d1, d2, d3, d4] => { results := [.lit (.bool false)], args := [d1, d2, d3, d4] }
  | _ => none }
def PrefixWrongFalsely : Prop := prefixRow.holds Try.pinned (OpenSpec.ofChange prefixWrong)

/-- 'wardenkeep.Skipped': WHATEVER THE INPUT: true; the input reads as it did. -/
def skippedSpec : ChangeSpec := { name := "skipped", fn := fun _ => fun
  | [d1, d2, d3] => { results := [.lit (.bool true)], args := [d1, d2, d3] }
  | _ => none }
def skippedRow : OpenClaim := { program := "ytecmfdkhcffpmab", sum := "2994c938c6600800d9e400b0c516e8f91e9240b03824f79f17ebbe42664290d5", func := "warden/wardenkeep.Skipped", spec := "skipped", apart := false }
def SkippedSaid : Prop := skippedRow.holds Try.pinned (OpenSpec.ofChange skippedSpec)

/-- ITS FALSE NEIGHBOUR: 'it returns false'. Refute it at one input. -/
def skippedWrong : ChangeSpec := { name := "skipped", fn := fun _ => fun
  | [d1, d2, d3] => { results := [.lit (.bool false)], args := [d1, d2, d3] }
  | _ => none }
def SkippedWrongFalsely : Prop := skippedRow.holds Try.pinned (OpenSpec.ofChange skippedWrong)

/-- 'wardenkeep.Lone': WHATEVER THE INPUT: true; the input reads as it did. -/
def loneSpec : ChangeSpec := { name := "lone", fn := fun _ => fun
  | [d1, d2] => { results := [.lit (.bool true)], args := [d1, d2] }
  | _ => none }
def loneRow : OpenClaim := { program := "ytecmfdkhcffpmab", sum := "2994c938c6600800d9e400b0c516e8f91e9240b03824f79f17ebbe42664290d5", func := "warden/wardenkeep.Lone", spec := "lone", apart := false }
def LoneSaid : Prop := loneRow.holds Try.pinned (OpenSpec.ofChange loneSpec)

/-- ITS FALSE NEIGHBOUR: 'it returns false'. Refute it at one input. -/
def loneWrong : ChangeSpec := { name := "lone", fn := fun _ => fun
  | [d1, d2] => { results := [.lit (.bool false)], args := [d1, d2] }
  | _ => none }
def LoneWrongFalsely : Prop := loneRow.holds Try.pinned (OpenSpec.ofChange loneWrong)

/-- 'wardenkeep.Renamed': WHATEVER THE INPUT: true; the input reads as it did. -/
def renamedSpec : ChangeSpec := { name := "renamed", fn := fun _ => fun
  | [d1, d2, d3, d4] => { results := [.lit (.bool true)], args := [d1, d2, d3, d4] }
  | _ => none }
def renamedRow : OpenClaim := { program := "ytecmfdkhcffpmab", sum := "2994c938c6600800d9e400b0c516e8f91e9240b03824f79f17ebbe42664290d5", func := "warden/wardenkeep.Renamed", spec := "renamed", apart := false }
def RenamedSaid : Prop := renamedRow.holds Try.pinned (OpenSpec.ofChange renamedSpec)

/-- ITS FALSE NEIGHBOUR: 'it returns false'. Refute it at one input. -/
def renamedWrong : ChangeSpec := { name := "renamed", fn := fun _ => fun
  | [d1, d2, d3, d4] => { results := [.lit (.bool false)], args := [d1, d2, d3, d4] }
  | _ => none }
def RenamedWrongFalsely : Prop := renamedRow.holds Try.pinned (OpenSpec.ofChange renamedWrong)

/-- 'wardenkeep.Inlined': WHATEVER THE INPUT: true; the input reads as it did. -/
def inlinedSpec : ChangeSpec := { name := "inlined", fn := fun _ => fun
  | [d1, d2, d3, d4, d5, d6] => { results := [.lit (.bool true)], args := [d1, d2, d3, d4, d5, d6] }
  | _ => none }
def inlinedRow : OpenClaim := { program := "ytecmfdkhcffpmab", sum := "2994c938c6600800d9e400b0c516e8f91e9240b03824f79f17ebbe42664290d5", func := "warden/wardenkeep.Inlined", spec := "inlined", apart := false }
def InlinedSaid : Prop := inlinedRow.holds Try.pinned (OpenSpec.ofChange inlinedSpec)

/-- ITS FALSE NEIGHBOUR: 'it returns false'. Refute it at one input. -/
def inlinedWrong : ChangeSpec := { name := "inlined", fn := fun _ => fun
  | [d1, d2, d3, d4, d5, d6] => { results := [.lit (.bool false)], args := [d1, d2, d3, d4, d5, d6] }
  | _ => none }
def InlinedWrongFalsely : Prop := inlinedRow.holds Try.pinned (OpenSpec.ofChange inlinedWrong)

/- THE SECOND FORM. 'bulk': how many values and letters a reading holds, each counted each time it is reached (what is shared counts as often as it is met; a slice's spare places count too). A statement '..UptoSaid' is the law's where the arguments, and the package variables that the reading takes, are together of bulk at most 1048576: NARROWER than '..Said'. Prove '..Said' where nothing that the law and all that it calls make is longer than what came in: it says more and counts as full. Else prove '..UptoSaid'. A law counts once. -/
mutual
def uptoBulk {H : Type} : DataW H → Nat
  | .lit (.string bytes) => bytes.length + 1
  | .lit _ => 1
  | .nil => 1
  | .ptr d => uptoBulk d + 1
  | .slice elems spare => uptoBulkAll elems + uptoBulkAll spare + 1
  | .agg parts => uptoBulkAll parts + 1
  | .iface _ d => uptoBulk d + 1
  | .map entries => uptoBulkEntries entries + 1
  | .held _ => 1
def uptoBulkAll {H : Type} : List (DataW H) → Nat
  | [] => 0
  | d :: r => uptoBulk d + uptoBulkAll r
def uptoBulkEntries {H : Type} : List (Lit × DataW H) → Nat
  | [] => 0
  | x :: r => uptoBulkEntry x + uptoBulkEntries r
def uptoBulkEntry {H : Type} : Lit × DataW H → Nat
  | (.string bytes, d) => bytes.length + uptoBulk d + 1
  | (_, d) => uptoBulk d + 1
 end
def uptoSmall : (H : Type) → List (DataW H) → Bool := fun _ ds => decide (uptoBulkAll ds ≤ 1048576)
def OpenSpec.upto (s : _root_.Go.ChangeSpec) : _root_.Go.OpenSpec := { _root_.Go.OpenSpec.ofChange s with cond := some uptoSmall }

/-- 'wardenkeep.Prefix', WHERE WHAT IT READS IS OF BULK AT MOST 1048576: true; the input reads as it did. -/
def prefixUptoRow : OpenClaim := { program := "ytecmfdkhcffpmab", sum := "2994c938c6600800d9e400b0c516e8f91e9240b03824f79f17ebbe42664290d5", func := "warden/wardenkeep.Prefix", spec := "prefix", apart := false, narrowed := true }
def PrefixUptoSaid : Prop := prefixUptoRow.holds Try.pinned (OpenSpec.upto prefixSpec)

/-- 'wardenkeep.Skipped', WHERE WHAT IT READS IS OF BULK AT MOST 1048576: true; the input reads as it did. -/
def skippedUptoRow : OpenClaim := { program := "ytecmfdkhcffpmab", sum := "2994c938c6600800d9e400b0c516e8f91e9240b03824f79f17ebbe42664290d5", func := "warden/wardenkeep.Skipped", spec := "skipped", apart := false, narrowed := true }
def SkippedUptoSaid : Prop := skippedUptoRow.holds Try.pinned (OpenSpec.upto skippedSpec)

/-- 'wardenkeep.Lone', WHERE WHAT IT READS IS OF BULK AT MOST 1048576: true; the input reads as it did. -/
def loneUptoRow : OpenClaim := { program := "ytecmfdkhcffpmab", sum := "2994c938c6600800d9e400b0c516e8f91e9240b03824f79f17ebbe42664290d5", func := "warden/wardenkeep.Lone", spec := "lone", apart := false, narrowed := true }
def LoneUptoSaid : Prop := loneUptoRow.holds Try.pinned (OpenSpec.upto loneSpec)

/-- 'wardenkeep.Renamed', WHERE WHAT IT READS IS OF BULK AT MOST 1048576: true; the input reads as it did. -/
def renamedUptoRow : OpenClaim := { program := "ytecmfdkhcffpmab", sum := "2994c938c6600800d9e400b0c516e8f91e9240b03824f79f17ebbe42664290d5", func := "warden/wardenkeep.Renamed", spec := "renamed", apart := false, narrowed := true }
def RenamedUptoSaid : Prop := renamedUptoRow.holds Try.pinned (OpenSpec.upto renamedSpec)

/-- 'wardenkeep.Inlined', WHERE WHAT IT READS IS OF BULK AT MOST 1048576: true; the input reads as it did. -/
def inlinedUptoRow : OpenClaim := { program := "ytecmfdkhcffpmab", sum := "2994c938c6600800d9e400b0c516e8f91e9240b03824f79f17ebbe42664290d5", func := "warden/wardenkeep.Inlined", spec := "inlined", apart := false, narrowed := true }
def InlinedUptoSaid : Prop := inlinedUptoRow.holds Try.pinned (OpenSpec.upto inlinedSpec)

end Rows
end Go.Proofs.Ytecmfdkhcffpmab
