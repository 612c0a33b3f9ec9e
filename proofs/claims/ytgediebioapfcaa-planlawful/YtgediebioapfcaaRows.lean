/-
  NARROWER THAN 'FOR EVERY INPUT', by the rows' own cells (each row's printed sentence says how): PlanBuilds: loops · PlanLawful: loops.
  DERIVED. THE GIVEN ROWS OF THIS SEAT. 5 by the template 'for every input the law returns true; each argument reads behind the call as it read before'; 0 by the template 'total and deterministic' (their statements: YtgediebioapfcaaTotals.lean).
  GIVEN WITH THE SEED: the statements are not yours to turn. If you find one false, say at which input.
  Laid BY PROGRAM, IN A SANDBOX (cutbox-rows.mjs): the forced cells as the released guide's own fill.sh prints them over the translation bd757f9f3ba0bb99… (all of the seat's roots in one cut). By AI agents, Wed Nov 11 2026. No macro, syntax, notation, axiom, sorry.
-/
import Derived.Test.YtgediebioapfcaaChecked
import GoSem.Claim
import GoSem.ClaimJoined
import GoSem.ClaimMapViews
import Derived.JoinedTies
import Derived.KernelRfl
namespace Go.Proofs.Ytgediebioapfcaa
/- THE CELL 'sum', in the pinned program and in every row, IS THE sha256 OF THE DUMP (.gsa) THAT YtgediebioapfcaaProg.lean LOADS. Nothing in Lean hashes anything: it is a label: what it is worth is what the hold of that sum in a sandbox is worth. -/
noncomputable def Try.pinned : Pinned := { name := "ytgediebioapfcaa", sum := "bd757f9f3ba0bb990e2c5a4db0c25f162f64f93b401192d3c91623d391d0e515", checked := Try.checked }
namespace Rows
def none {H : Type} : Left H := { results := [], args := [] }

/-- 'signpostlaw.AlgebraLaws': WHATEVER THE INPUT: true; the input reads as it did. -/
def algebraLawsSpec : ChangeSpec := { name := "algebraLaws", fn := fun _ => fun
  | [d] => { results := [.lit (.bool true)], args := [d] }
  | _ => none }
def algebraLawsRow : OpenClaim := { program := "ytgediebioapfcaa", sum := "bd757f9f3ba0bb990e2c5a4db0c25f162f64f93b401192d3c91623d391d0e515", func := "signpost/signpostlaw.AlgebraLaws", spec := "algebraLaws", unfollowed := true, recurses := true, apart := false }
def AlgebraLawsSaid : Prop := algebraLawsRow.holds Try.pinned (OpenSpec.ofChange algebraLawsSpec)

/-- ITS FALSE NEIGHBOUR: 'it returns false'. Refute it at one input. -/
def algebraLawsWrong : ChangeSpec := { name := "algebraLaws", fn := fun _ => fun
  | [d] => { results := [.lit (.bool false)], args := [d] }
  | _ => none }
def AlgebraLawsWrongFalsely : Prop := algebraLawsRow.holds Try.pinned (OpenSpec.ofChange algebraLawsWrong)

/-- 'signpostlaw.AlgebraHolds': WHATEVER THE INPUT: true; the input reads as it did. -/
def algebraHoldsSpec : ChangeSpec := { name := "algebraHolds", fn := fun _ => fun
  | [d1, d2] => { results := [.lit (.bool true)], args := [d1, d2] }
  | _ => none }
def algebraHoldsRow : OpenClaim := { program := "ytgediebioapfcaa", sum := "bd757f9f3ba0bb990e2c5a4db0c25f162f64f93b401192d3c91623d391d0e515", func := "signpost/signpostlaw.AlgebraHolds", spec := "algebraHolds", unfollowed := true, recurses := true, apart := false }
def AlgebraHoldsSaid : Prop := algebraHoldsRow.holds Try.pinned (OpenSpec.ofChange algebraHoldsSpec)

/-- ITS FALSE NEIGHBOUR: 'it returns false'. Refute it at one input. -/
def algebraHoldsWrong : ChangeSpec := { name := "algebraHolds", fn := fun _ => fun
  | [d1, d2] => { results := [.lit (.bool false)], args := [d1, d2] }
  | _ => none }
def AlgebraHoldsWrongFalsely : Prop := algebraHoldsRow.holds Try.pinned (OpenSpec.ofChange algebraHoldsWrong)

/-- 'signpostlaw.AlgebraTrue': WHATEVER THE INPUT: true; the input reads as it did. -/
def algebraTrueSpec : ChangeSpec := { name := "algebraTrue", fn := fun _ => fun
  | [d1, d2] => { results := [.lit (.bool true)], args := [d1, d2] }
  | _ => none }
def algebraTrueRow : OpenClaim := { program := "ytgediebioapfcaa", sum := "bd757f9f3ba0bb990e2c5a4db0c25f162f64f93b401192d3c91623d391d0e515", func := "signpost/signpostlaw.AlgebraTrue", spec := "algebraTrue", unfollowed := true, recurses := true, apart := false }
def AlgebraTrueSaid : Prop := algebraTrueRow.holds Try.pinned (OpenSpec.ofChange algebraTrueSpec)

/-- ITS FALSE NEIGHBOUR: 'it returns false'. Refute it at one input. -/
def algebraTrueWrong : ChangeSpec := { name := "algebraTrue", fn := fun _ => fun
  | [d1, d2] => { results := [.lit (.bool false)], args := [d1, d2] }
  | _ => none }
def AlgebraTrueWrongFalsely : Prop := algebraTrueRow.holds Try.pinned (OpenSpec.ofChange algebraTrueWrong)

/-- 'signpostlaw.PlanBuilds': WHATEVER THE INPUT: true; the input reads as it did. -/
def planBuildsSpec : ChangeSpec := { name := "planBuilds", fn := fun _ => fun
  | [d] => { results := [.lit (.bool true)], args := [d] }
  | _ => none }
def planBuildsRow : OpenClaim := { program := "ytgediebioapfcaa", sum := "bd757f9f3ba0bb990e2c5a4db0c25f162f64f93b401192d3c91623d391d0e515", func := "signpost/signpostlaw.PlanBuilds", spec := "planBuilds", unfollowed := true, recurses := true, loops := true, apart := false }
def PlanBuildsSaid : Prop := planBuildsRow.holds Try.pinned (OpenSpec.ofChange planBuildsSpec)

/-- ITS FALSE NEIGHBOUR: 'it returns false'. Refute it at one input. -/
def planBuildsWrong : ChangeSpec := { name := "planBuilds", fn := fun _ => fun
  | [d] => { results := [.lit (.bool false)], args := [d] }
  | _ => none }
def PlanBuildsWrongFalsely : Prop := planBuildsRow.holds Try.pinned (OpenSpec.ofChange planBuildsWrong)

/-- 'signpostlaw.PlanLawful': WHATEVER THE INPUT: true; the input reads as it did. -/
def planLawfulSpec : ChangeSpec := { name := "planLawful", fn := fun _ => fun
  | [d] => { results := [.lit (.bool true)], args := [d] }
  | _ => none }
def planLawfulRow : OpenClaim := { program := "ytgediebioapfcaa", sum := "bd757f9f3ba0bb990e2c5a4db0c25f162f64f93b401192d3c91623d391d0e515", func := "signpost/signpostlaw.PlanLawful", spec := "planLawful", unfollowed := true, recurses := true, loops := true, apart := false }
def PlanLawfulSaid : Prop := planLawfulRow.holds Try.pinned (OpenSpec.ofChange planLawfulSpec)

/-- ITS FALSE NEIGHBOUR: 'it returns false'. Refute it at one input. -/
def planLawfulWrong : ChangeSpec := { name := "planLawful", fn := fun _ => fun
  | [d] => { results := [.lit (.bool false)], args := [d] }
  | _ => none }
def PlanLawfulWrongFalsely : Prop := planLawfulRow.holds Try.pinned (OpenSpec.ofChange planLawfulWrong)

/- THE SECOND FORM. 'bulk': how many values and letters a reading holds, each counted each time it is reached (what is shared counts as often as it is met; a slice's spare places count too). A statement '..UptoSaid' is the law's where the arguments, and the package variables that the reading takes, are together of bulk at most 1048576: NARROWER than '..Said'. Prove '..Said' where nothing that the law and all that it calls make is longer than what came in: it says more and counts as full. Else prove '..UptoSaid'. A law counts once. -/
mutual
def uptoBulk {H : Type} : DataW H → Nat
  | .lit (.string bytes) => bytes.length + 1
  | .lit _ => 1
  | .nil => 1
  | .ptr d => uptoBulk d + 1
  | .slice elems spare => uptoBulkAll elems + uptoBulkAll spare + 1
  | .agg parts => uptoBulkAll parts + 1
  | .iface _ d => uptoBulk d + 1
  | .map entries => uptoBulkEntries entries + 1
  | .held _ => 1
def uptoBulkAll {H : Type} : List (DataW H) → Nat
  | [] => 0
  | d :: r => uptoBulk d + uptoBulkAll r
def uptoBulkEntries {H : Type} : List (Lit × DataW H) → Nat
  | [] => 0
  | x :: r => uptoBulkEntry x + uptoBulkEntries r
def uptoBulkEntry {H : Type} : Lit × DataW H → Nat
  | (.string bytes, d) => bytes.length + uptoBulk d + 1
  | (_, d) => uptoBulk d + 1
 end
def uptoSmall : (H : Type) → List (DataW H) → Bool := fun _ ds => decide (uptoBulkAll ds ≤ 1048576)
def OpenSpec.upto (s : _root_.Go.ChangeSpec) : _root_.Go.OpenSpec := { _root_.Go.OpenSpec.ofChange s with cond := some uptoSmall }

/-- 'signpostlaw.AlgebraLaws', WHERE WHAT IT READS IS OF BULK AT MOST 1048576: true; the input reads as it did. -/
def algebraLawsUptoRow : OpenClaim := { program := "ytgediebioapfcaa", sum := "bd757f9f3ba0bb990e2c5a4db0c25f162f64f93b401192d3c91623d391d0e515", func := "signpost/signpostlaw.AlgebraLaws", spec := "algebraLaws", unfollowed := true, recurses := true, apart := false, narrowed := true }
def AlgebraLawsUptoSaid : Prop := algebraLawsUptoRow.holds Try.pinned (OpenSpec.upto algebraLawsSpec)

/-- 'signpostlaw.AlgebraHolds', WHERE WHAT IT READS IS OF BULK AT MOST 1048576: true; the input reads as it did. -/
def algebraHoldsUptoRow : OpenClaim := { program := "ytgediebioapfcaa", sum := "bd757f9f3ba0bb990e2c5a4db0c25f162f64f93b401192d3c91623d391d0e515", func := "signpost/signpostlaw.AlgebraHolds", spec := "algebraHolds", unfollowed := true, recurses := true, apart := false, narrowed := true }
def AlgebraHoldsUptoSaid : Prop := algebraHoldsUptoRow.holds Try.pinned (OpenSpec.upto algebraHoldsSpec)

/-- 'signpostlaw.AlgebraTrue', WHERE WHAT IT READS IS OF BULK AT MOST 1048576: true; the input reads as it did. -/
def algebraTrueUptoRow : OpenClaim := { program := "ytgediebioapfcaa", sum := "bd757f9f3ba0bb990e2c5a4db0c25f162f64f93b401192d3c91623d391d0e515", func := "signpost/signpostlaw.AlgebraTrue", spec := "algebraTrue", unfollowed := true, recurses := true, apart := false, narrowed := true }
def AlgebraTrueUptoSaid : Prop := algebraTrueUptoRow.holds Try.pinned (OpenSpec.upto algebraTrueSpec)

/-- 'signpostlaw.PlanBuilds', WHERE WHAT IT READS IS OF BULK AT MOST 1048576: true; the input reads as it did. -/
def planBuildsUptoRow : OpenClaim := { program := "ytgediebioapfcaa", sum := "bd757f9f3ba0bb990e2c5a4db0c25f162f64f93b401192d3c91623d391d0e515", func := "signpost/signpostlaw.PlanBuilds", spec := "planBuilds", unfollowed := true, recurses := true, loops := true, apart := false, narrowed := true }
def PlanBuildsUptoSaid : Prop := planBuildsUptoRow.holds Try.pinned (OpenSpec.upto planBuildsSpec)

/-- 'signpostlaw.PlanLawful', WHERE WHAT IT READS IS OF BULK AT MOST 1048576: true; the input reads as it did. -/
def planLawfulUptoRow : OpenClaim := { program := "ytgediebioapfcaa", sum := "bd757f9f3ba0bb990e2c5a4db0c25f162f64f93b401192d3c91623d391d0e515", func := "signpost/signpostlaw.PlanLawful", spec := "planLawful", unfollowed := true, recurses := true, loops := true, apart := false, narrowed := true }
def PlanLawfulUptoSaid : Prop := planLawfulUptoRow.holds Try.pinned (OpenSpec.upto planLawfulSpec)

end Rows
end Go.Proofs.Ytgediebioapfcaa
