/-
  No cell of these rows narrows 'for every input' (looked for: loops, veiled, ifaces, maps, wideKeys, modest, calm, conditions, laid).
  DERIVED. THE GIVEN ROWS OF THIS SEAT. 5 by the template 'for every input the law returns true; each argument reads behind the call as it read before'; 0 by the template 'total and deterministic' (their statements: YtfekbnegihkclabTotals.lean).
  GIVEN WITH THE SEED: the statements are not yours to turn. If you find one false, say at which input.
  Laid BY PROGRAM, IN A SANDBOX (cutbox-rows.mjs): the forced cells as the released guide's own fill.sh prints them over the translation 702859cab6369a18… (all of the seat's roots in one cut). By AI agents, Wed Nov 11 2026. No macro, syntax, notation, axiom, sorry.
-/
import Derived.Test.YtfekbnegihkclabChecked
import GoSem.Claim
import GoSem.ClaimJoined
import GoSem.ClaimMapViews
import Derived.JoinedTies
import Derived.KernelRfl
namespace Go.Proofs.Ytfekbnegihkclab
/- THE CELL 'sum', in the pinned program and in every row, IS THE sha256 OF THE DUMP (.gsa) THAT YtfekbnegihkclabProg.lean LOADS. Nothing in Lean hashes anything: it is a label: what it is worth is what the hold of that sum in a sandbox is worth. -/
noncomputable def Try.pinned : Pinned := { name := "ytfekbnegihkclab", sum := "702859cab6369a1891a98d1481fbc98c7eda6ff94c971b0f360a6df90aaacf34", checked := Try.checked }
namespace Rows
def none {H : Type} : Left H := { results := [], args := [] }

/-- 'signpostlaw.WireReads': WHATEVER THE INPUT: true; the input reads as it did. -/
def wireReadsSpec : ChangeSpec := { name := "wireReads", fn := fun _ => fun
  | [d] => { results := [.lit (.bool true)], args := [d] }
  | _ => none }
def wireReadsRow : OpenClaim := { program := "ytfekbnegihkclab", sum := "702859cab6369a1891a98d1481fbc98c7eda6ff94c971b0f360a6df90aaacf34", func := "signpost/signpostlaw.WireReads", spec := "wireReads", unfollowed := true, recurses := true, plainKeys := false, apart := false }
def WireReadsSaid : Prop := wireReadsRow.holds Try.pinned (OpenSpec.ofChange wireReadsSpec)

/-- ITS FALSE NEIGHBOUR: 'it returns false'. Refute it at one input. -/
def wireReadsWrong : ChangeSpec := { name := "wireReads", fn := fun _ => fun
  | [d] => { results := [.lit (.bool false)], args := [d] }
  | _ => none }
def WireReadsWrongFalsely : Prop := wireReadsRow.holds Try.pinned (OpenSpec.ofChange wireReadsWrong)

/-- 'signpostlaw.WireBack': WHATEVER THE INPUT: true; the input reads as it did. -/
def wireBackSpec : ChangeSpec := { name := "wireBack", fn := fun _ => fun
  | [d1, d2, d3, d4] => { results := [.lit (.bool true)], args := [d1, d2, d3, d4] }
  | _ => none }
def wireBackRow : OpenClaim := { program := "ytfekbnegihkclab", sum := "702859cab6369a1891a98d1481fbc98c7eda6ff94c971b0f360a6df90aaacf34", func := "signpost/signpostlaw.WireBack", spec := "wireBack", unfollowed := true, recurses := true, plainKeys := false, apart := false }
def WireBackSaid : Prop := wireBackRow.holds Try.pinned (OpenSpec.ofChange wireBackSpec)

/-- ITS FALSE NEIGHBOUR: 'it returns false'. Refute it at one input. -/
def wireBackWrong : ChangeSpec := { name := "wireBack", fn := fun _ => fun
  | [d1, d2, d3, d4] => { results := [.lit (.bool false)], args := [d1, d2, d3, d4] }
  | _ => none }
def WireBackWrongFalsely : Prop := wireBackRow.holds Try.pinned (OpenSpec.ofChange wireBackWrong)

/-- 'signpostlaw.EngineSteps': WHATEVER THE INPUT: true; the input reads as it did. -/
def engineStepsSpec : ChangeSpec := { name := "engineSteps", fn := fun _ => fun
  | [d1, d2, d3] => { results := [.lit (.bool true)], args := [d1, d2, d3] }
  | _ => none }
def engineStepsRow : OpenClaim := { program := "ytfekbnegihkclab", sum := "702859cab6369a1891a98d1481fbc98c7eda6ff94c971b0f360a6df90aaacf34", func := "signpost/signpostlaw.EngineSteps", spec := "engineSteps", unfollowed := true, recurses := true, plainKeys := false, apart := false }
def EngineStepsSaid : Prop := engineStepsRow.holds Try.pinned (OpenSpec.ofChange engineStepsSpec)

/-- ITS FALSE NEIGHBOUR: 'it returns false'. Refute it at one input. -/
def engineStepsWrong : ChangeSpec := { name := "engineSteps", fn := fun _ => fun
  | [d1, d2, d3] => { results := [.lit (.bool false)], args := [d1, d2, d3] }
  | _ => none }
def EngineStepsWrongFalsely : Prop := engineStepsRow.holds Try.pinned (OpenSpec.ofChange engineStepsWrong)

/-- 'signpostlaw.EngineSpoilt': WHATEVER THE INPUT: true; the input reads as it did. -/
def engineSpoiltSpec : ChangeSpec := { name := "engineSpoilt", fn := fun _ => fun
  | [d1, d2, d3, d4, d5] => { results := [.lit (.bool true)], args := [d1, d2, d3, d4, d5] }
  | _ => none }
def engineSpoiltRow : OpenClaim := { program := "ytfekbnegihkclab", sum := "702859cab6369a1891a98d1481fbc98c7eda6ff94c971b0f360a6df90aaacf34", func := "signpost/signpostlaw.EngineSpoilt", spec := "engineSpoilt", unfollowed := true, recurses := true, plainKeys := false, apart := false }
def EngineSpoiltSaid : Prop := engineSpoiltRow.holds Try.pinned (OpenSpec.ofChange engineSpoiltSpec)

/-- ITS FALSE NEIGHBOUR: 'it returns false'. Refute it at one input. -/
def engineSpoiltWrong : ChangeSpec := { name := "engineSpoilt", fn := fun _ => fun
  | [d1, d2, d3, d4, d5] => { results := [.lit (.bool false)], args := [d1, d2, d3, d4, d5] }
  | _ => none }
def EngineSpoiltWrongFalsely : Prop := engineSpoiltRow.holds Try.pinned (OpenSpec.ofChange engineSpoiltWrong)

/-- 'signpostlaw.EngineSettles': WHATEVER THE INPUT: true; the input reads as it did. -/
def engineSettlesSpec : ChangeSpec := { name := "engineSettles", fn := fun _ => fun
  | [d1, d2, d3, d4] => { results := [.lit (.bool true)], args := [d1, d2, d3, d4] }
  | _ => none }
def engineSettlesRow : OpenClaim := { program := "ytfekbnegihkclab", sum := "702859cab6369a1891a98d1481fbc98c7eda6ff94c971b0f360a6df90aaacf34", func := "signpost/signpostlaw.EngineSettles", spec := "engineSettles", unfollowed := true, recurses := true, plainKeys := false, apart := false }
def EngineSettlesSaid : Prop := engineSettlesRow.holds Try.pinned (OpenSpec.ofChange engineSettlesSpec)

/-- ITS FALSE NEIGHBOUR: 'it returns false'. Refute it at one input. -/
def engineSettlesWrong : ChangeSpec := { name := "engineSettles", fn := fun _ => fun
  | [d1, d2, d3, d4] => { results := [.lit (.bool false)], args := [d1, d2, d3, d4] }
  | _ => none }
def EngineSettlesWrongFalsely : Prop := engineSettlesRow.holds Try.pinned (OpenSpec.ofChange engineSettlesWrong)

/- THE SECOND FORM. 'bulk': how many values and letters a reading holds, each counted each time it is reached (what is shared counts as often as it is met; a slice's spare places count too). A statement '..UptoSaid' is the law's where the arguments, and the package variables that the reading takes, are together of bulk at most 1048576: NARROWER than '..Said'. Prove '..Said' where nothing that the law and all that it calls make is longer than what came in: it says more and counts as full. Else prove '..UptoSaid'. A law counts once. -/
mutual
def uptoBulk {H : Type} : DataW H → Nat
  | .lit (.string bytes) => bytes.length + 1
  | .lit _ => 1
  | .nil => 1
  | .ptr d => uptoBulk d + 1
  | .slice elems spare => uptoBulkAll elems + uptoBulkAll spare + 1
  | .agg parts => uptoBulkAll parts + 1
  | .iface _ d => uptoBulk d + 1
  | .map entries => uptoBulkEntries entries + 1
  | .held _ => 1
def uptoBulkAll {H : Type} : List (DataW H) → Nat
  | [] => 0
  | d :: r => uptoBulk d + uptoBulkAll r
def uptoBulkEntries {H : Type} : List (Lit × DataW H) → Nat
  | [] => 0
  | x :: r => uptoBulkEntry x + uptoBulkEntries r
def uptoBulkEntry {H : Type} : Lit × DataW H → Nat
  | (.string bytes, d) => bytes.length + uptoBulk d + 1
  | (_, d) => uptoBulk d + 1
 end
def uptoSmall : (H : Type) → List (DataW H) → Bool := fun _ ds => decide (uptoBulkAll ds ≤ 1048576)
def OpenSpec.upto (s : _root_.Go.ChangeSpec) : _root_.Go.OpenSpec := { _root_.Go.OpenSpec.ofChange s with cond := some uptoSmall }

/-- 'signpostlaw.WireReads', WHERE WHAT IT READS IS OF BULK AT MOST 1048576: true; the input reads as it did. -/
def wireReadsUptoRow : OpenClaim := { program := "ytfekbnegihkclab", sum := "702859cab6369a1891a98d1481fbc98c7eda6ff94c971b0f360a6df90aaacf34", func := "signpost/signpostlaw.WireReads", spec := "wireReads", unfollowed := true, recurses := true, plainKeys := false, apart := false, narrowed := true }
def WireReadsUptoSaid : Prop := wireReadsUptoRow.holds Try.pinned (OpenSpec.upto wireReadsSpec)

/-- 'signpostlaw.WireBack', WHERE WHAT IT READS IS OF BULK AT MOST 1048576: true; the input reads as it did. -/
def wireBackUptoRow : OpenClaim := { program := "ytfekbnegihkclab", sum := "702859cab6369a1891a98d1481fbc98c7eda6ff94c971b0f360a6df90aaacf34", func := "signpost/signpostlaw.WireBack", spec := "wireBack", unfollowed := true, recurses := true, plainKeys := false, apart := false, narrowed := true }
def WireBackUptoSaid : Prop := wireBackUptoRow.holds Try.pinned (OpenSpec.upto wireBackSpec)

/-- 'signpostlaw.EngineSteps', WHERE WHAT IT READS IS OF BULK AT MOST 1048576: true; the input reads as it did. -/
def engineStepsUptoRow : OpenClaim := { program := "ytfekbnegihkclab", sum := "702859cab6369a1891a98d1481fbc98c7eda6ff94c971b0f360a6df90aaacf34", func := "signpost/signpostlaw.EngineSteps", spec := "engineSteps", unfollowed := true, recurses := true, plainKeys := false, apart := false, narrowed := true }
def EngineStepsUptoSaid : Prop := engineStepsUptoRow.holds Try.pinned (OpenSpec.upto engineStepsSpec)

/-- 'signpostlaw.EngineSpoilt', WHERE WHAT IT READS IS OF BULK AT MOST 1048576: true; the input reads as it did. -/
def engineSpoiltUptoRow : OpenClaim := { program := "ytfekbnegihkclab", sum := "702859cab6369a1891a98d1481fbc98c7eda6ff94c971b0f360a6df90aaacf34", func := "signpost/signpostlaw.EngineSpoilt", spec := "engineSpoilt", unfollowed := true, recurses := true, plainKeys := false, apart := false, narrowed := true }
def EngineSpoiltUptoSaid : Prop := engineSpoiltUptoRow.holds Try.pinned (OpenSpec.upto engineSpoiltSpec)

/-- 'signpostlaw.EngineSettles', WHERE WHAT IT READS IS OF BULK AT MOST 1048576: true; the input reads as it did. -/
def engineSettlesUptoRow : OpenClaim := { program := "ytfekbnegihkclab", sum := "702859cab6369a1891a98d1481fbc98c7eda6ff94c971b0f360a6df90aaacf34", func := "signpost/signpostlaw.EngineSettles", spec := "engineSettles", unfollowed := true, recurses := true, plainKeys := false, apart := false, narrowed := true }
def EngineSettlesUptoSaid : Prop := engineSettlesUptoRow.holds Try.pinned (OpenSpec.upto engineSettlesSpec)

end Rows
end Go.Proofs.Ytfekbnegihkclab
