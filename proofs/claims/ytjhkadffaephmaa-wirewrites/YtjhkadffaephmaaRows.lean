/-
  NARROWER THAN 'FOR EVERY INPUT', by the rows' own cells (each row's printed sentence says how): PlanBuilds: loops · PlanLawful: loops.
  DERIVED. THE GIVEN ROWS OF THIS SEAT. 12 by the template 'for every input the law returns true; each argument reads behind the call as it read before'; 0 by the template 'total and deterministic' (their statements: YtjhkadffaephmaaTotals.lean).
  GIVEN WITH THE SEED: the statements are not yours to turn. If you find one false, say at which input.
  Laid BY PROGRAM, IN A SANDBOX (cutbox-rows.mjs): the forced cells as the released guide's own fill.sh prints them over the translation 63c56a838f7d1ef8… (all of the seat's roots in one cut). By AI agents, Wed Nov 11 2026. No macro, syntax, notation, axiom, sorry.
-/
import Derived.Test.YtjhkadffaephmaaChecked
import GoSem.Claim
import GoSem.ClaimJoined
import GoSem.ClaimMapViews
import Derived.JoinedTies
import Derived.KernelRfl
namespace Go.Proofs.Ytjhkadffaephmaa
/- THE CELL 'sum', in the pinned program and in every row, IS THE sha256 OF THE DUMP (.gsa) THAT YtjhkadffaephmaaProg.lean LOADS. Nothing in Lean hashes anything: it is a label: what it is worth is what the hold of that sum in a sandbox is worth. -/
noncomputable def Try.pinned : Pinned := { name := "ytjhkadffaephmaa", sum := "63c56a838f7d1ef8d80a845bf73eb215a60f505bba098bd382d22b2d2b7867ee", checked := Try.checked }
namespace Rows
def none {H : Type} : Left H := { results := [], args := [] }

/-- 'signpostlaw.AlgebraLaws': WHATEVER THE INPUT: true; the input reads as it did. -/
def algebraLawsSpec : ChangeSpec := { name := "algebraLaws", fn := fun _ => fun
  | [d] => { results := [.lit (.bool true)], args := [d] }
  | _ => none }
def algebraLawsRow : OpenClaim := { program := "ytjhkadffaephmaa", sum := "63c56a838f7d1ef8d80a845bf73eb215a60f505bba098bd382d22b2d2b7867ee", func := "signpost/signpostlaw.AlgebraLaws", spec := "algebraLaws", unfollowed := true, recurses := true, plainKeys := false, apart := false }
def AlgebraLawsSaid : Prop := algebraLawsRow.holds Try.pinned (OpenSpec.ofChange algebraLawsSpec)

/-- ITS FALSE NEIGHBOUR: 'it returns false'. Refute it at one input. -/
def algebraLawsWrong : ChangeSpec := { name := "algebraLaws", fn := fun _ => fun
  | [d] => { results := [.lit (.bool false)], args := [d] }
  | _ => none }
def AlgebraLawsWrongFalsely : Prop := algebraLawsRow.holds Try.pinned (OpenSpec.ofChange algebraLawsWrong)

/-- 'signpostlaw.AlgebraHolds': WHATEVER THE INPUT: true; the input reads as it did. -/
def algebraHoldsSpec : ChangeSpec := { name := "algebraHolds", fn := fun _ => fun
  | [d1, d2] => { results := [.lit (.bool true)], args := [d1, d2] }
  | _ => none }
def algebraHoldsRow : OpenClaim := { program := "ytjhkadffaephmaa", sum := "63c56a838f7d1ef8d80a845bf73eb215a60f505bba098bd382d22b2d2b7867ee", func := "signpost/signpostlaw.AlgebraHolds", spec := "algebraHolds", unfollowed := true, recurses := true, plainKeys := false, apart := false }
def AlgebraHoldsSaid : Prop := algebraHoldsRow.holds Try.pinned (OpenSpec.ofChange algebraHoldsSpec)

/-- ITS FALSE NEIGHBOUR: 'it returns false'. Refute it at one input. -/
def algebraHoldsWrong : ChangeSpec := { name := "algebraHolds", fn := fun _ => fun
  | [d1, d2] => { results := [.lit (.bool false)], args := [d1, d2] }
  | _ => none }
def AlgebraHoldsWrongFalsely : Prop := algebraHoldsRow.holds Try.pinned (OpenSpec.ofChange algebraHoldsWrong)

/-- 'signpostlaw.AlgebraTrue': WHATEVER THE INPUT: true; the input reads as it did. -/
def algebraTrueSpec : ChangeSpec := { name := "algebraTrue", fn := fun _ => fun
  | [d1, d2] => { results := [.lit (.bool true)], args := [d1, d2] }
  | _ => none }
def algebraTrueRow : OpenClaim := { program := "ytjhkadffaephmaa", sum := "63c56a838f7d1ef8d80a845bf73eb215a60f505bba098bd382d22b2d2b7867ee", func := "signpost/signpostlaw.AlgebraTrue", spec := "algebraTrue", unfollowed := true, recurses := true, plainKeys := false, apart := false }
def AlgebraTrueSaid : Prop := algebraTrueRow.holds Try.pinned (OpenSpec.ofChange algebraTrueSpec)

/-- ITS FALSE NEIGHBOUR: 'it returns false'. Refute it at one input. -/
def algebraTrueWrong : ChangeSpec := { name := "algebraTrue", fn := fun _ => fun
  | [d1, d2] => { results := [.lit (.bool false)], args := [d1, d2] }
  | _ => none }
def AlgebraTrueWrongFalsely : Prop := algebraTrueRow.holds Try.pinned (OpenSpec.ofChange algebraTrueWrong)

/-- 'signpostlaw.PlanBuilds': WHATEVER THE INPUT: true; the input reads as it did. -/
def planBuildsSpec : ChangeSpec := { name := "planBuilds", fn := fun _ => fun
  | [d] => { results := [.lit (.bool true)], args := [d] }
  | _ => none }
def planBuildsRow : OpenClaim := { program := "ytjhkadffaephmaa", sum := "63c56a838f7d1ef8d80a845bf73eb215a60f505bba098bd382d22b2d2b7867ee", func := "signpost/signpostlaw.PlanBuilds", spec := "planBuilds", unfollowed := true, recurses := true, loops := true, plainKeys := false, apart := false }
def PlanBuildsSaid : Prop := planBuildsRow.holds Try.pinned (OpenSpec.ofChange planBuildsSpec)

/-- ITS FALSE NEIGHBOUR: 'it returns false'. Refute it at one input. -/
def planBuildsWrong : ChangeSpec := { name := "planBuilds", fn := fun _ => fun
  | [d] => { results := [.lit (.bool false)], args := [d] }
  | _ => none }
def PlanBuildsWrongFalsely : Prop := planBuildsRow.holds Try.pinned (OpenSpec.ofChange planBuildsWrong)

/-- 'signpostlaw.PlanLawful': WHATEVER THE INPUT: true; the input reads as it did. -/
def planLawfulSpec : ChangeSpec := { name := "planLawful", fn := fun _ => fun
  | [d] => { results := [.lit (.bool true)], args := [d] }
  | _ => none }
def planLawfulRow : OpenClaim := { program := "ytjhkadffaephmaa", sum := "63c56a838f7d1ef8d80a845bf73eb215a60f505bba098bd382d22b2d2b7867ee", func := "signpost/signpostlaw.PlanLawful", spec := "planLawful", unfollowed := true, recurses := true, loops := true, plainKeys := false, apart := false }
def PlanLawfulSaid : Prop := planLawfulRow.holds Try.pinned (OpenSpec.ofChange planLawfulSpec)

/-- ITS FALSE NEIGHBOUR: 'it returns false'. Refute it at one input. -/
def planLawfulWrong : ChangeSpec := { name := "planLawful", fn := fun _ => fun
  | [d] => { results := [.lit (.bool false)], args := [d] }
  | _ => none }
def PlanLawfulWrongFalsely : Prop := planLawfulRow.holds Try.pinned (OpenSpec.ofChange planLawfulWrong)

/-- 'signpostlaw.NetRounds': WHATEVER THE INPUT: true; the input reads as it did. -/
def netRoundsSpec : ChangeSpec := { name := "netRounds", fn := fun _ => fun
  | [d1, d2] => { results := [.lit (.bool true)], args := [d1, d2] }
  | _ => none }
def netRoundsRow : OpenClaim := { program := "ytjhkadffaephmaa", sum := "63c56a838f7d1ef8d80a845bf73eb215a60f505bba098bd382d22b2d2b7867ee", func := "signpost/signpostlaw.NetRounds", spec := "netRounds", unfollowed := true, recurses := true, plainKeys := false, apart := false }
def NetRoundsSaid : Prop := netRoundsRow.holds Try.pinned (OpenSpec.ofChange netRoundsSpec)

/-- ITS FALSE NEIGHBOUR: 'it returns false'. Refute it at one input. -/
def netRoundsWrong : ChangeSpec := { name := "netRounds", fn := fun _ => fun
  | [d1, d2] => { results := [.lit (.bool false)], args := [d1, d2] }
  | _ => none }
def NetRoundsWrongFalsely : Prop := netRoundsRow.holds Try.pinned (OpenSpec.ofChange netRoundsWrong)

/-- 'signpostlaw.NetSettles': WHATEVER THE INPUT: true; the input reads as it did. -/
def netSettlesSpec : ChangeSpec := { name := "netSettles", fn := fun _ => fun
  | [d1, d2, d3] => { results := [.lit (.bool true)], args := [d1, d2, d3] }
  | _ => none }
def netSettlesRow : OpenClaim := { program := "ytjhkadffaephmaa", sum := "63c56a838f7d1ef8d80a845bf73eb215a60f505bba098bd382d22b2d2b7867ee", func := "signpost/signpostlaw.NetSettles", spec := "netSettles", unfollowed := true, recurses := true, plainKeys := false, apart := false }
def NetSettlesSaid : Prop := netSettlesRow.holds Try.pinned (OpenSpec.ofChange netSettlesSpec)

/-- ITS FALSE NEIGHBOUR: 'it returns false'. Refute it at one input. -/
def netSettlesWrong : ChangeSpec := { name := "netSettles", fn := fun _ => fun
  | [d1, d2, d3] => { results := [.lit (.bool false)], args := [d1, d2, d3] }
  | _ => none }
def NetSettlesWrongFalsely : Prop := netSettlesRow.holds Try.pinned (OpenSpec.ofChange netSettlesWrong)

/-- 'signpostlaw.NetAlways': WHATEVER THE INPUT: true; the input reads as it did. -/
def netAlwaysSpec : ChangeSpec := { name := "netAlways", fn := fun _ => fun
  | [d1, d2, d3] => { results := [.lit (.bool true)], args := [d1, d2, d3] }
  | _ => none }
def netAlwaysRow : OpenClaim := { program := "ytjhkadffaephmaa", sum := "63c56a838f7d1ef8d80a845bf73eb215a60f505bba098bd382d22b2d2b7867ee", func := "signpost/signpostlaw.NetAlways", spec := "netAlways", unfollowed := true, recurses := true, plainKeys := false, apart := false }
def NetAlwaysSaid : Prop := netAlwaysRow.holds Try.pinned (OpenSpec.ofChange netAlwaysSpec)

/-- ITS FALSE NEIGHBOUR: 'it returns false'. Refute it at one input. -/
def netAlwaysWrong : ChangeSpec := { name := "netAlways", fn := fun _ => fun
  | [d1, d2, d3] => { results := [.lit (.bool false)], args := [d1, d2, d3] }
  | _ => none }
def NetAlwaysWrongFalsely : Prop := netAlwaysRow.holds Try.pinned (OpenSpec.ofChange netAlwaysWrong)

/-- 'signpostlaw.AsyncRuns': WHATEVER THE INPUT: true; the input reads as it did. -/
def asyncRunsSpec : ChangeSpec := { name := "asyncRuns", fn := fun _ => fun
  | [d1, d2, d3] => { results := [.lit (.bool true)], args := [d1, d2, d3] }
  | _ => none }
def asyncRunsRow : OpenClaim := { program := "ytjhkadffaephmaa", sum := "63c56a838f7d1ef8d80a845bf73eb215a60f505bba098bd382d22b2d2b7867ee", func := "signpost/signpostlaw.AsyncRuns", spec := "asyncRuns", unfollowed := true, recurses := true, plainKeys := false, apart := false }
def AsyncRunsSaid : Prop := asyncRunsRow.holds Try.pinned (OpenSpec.ofChange asyncRunsSpec)

/-- ITS FALSE NEIGHBOUR: 'it returns false'. Refute it at one input. -/
def asyncRunsWrong : ChangeSpec := { name := "asyncRuns", fn := fun _ => fun
  | [d1, d2, d3] => { results := [.lit (.bool false)], args := [d1, d2, d3] }
  | _ => none }
def AsyncRunsWrongFalsely : Prop := asyncRunsRow.holds Try.pinned (OpenSpec.ofChange asyncRunsWrong)

/-- 'signpostlaw.AsyncCycles': WHATEVER THE INPUT: true; the input reads as it did. -/
def asyncCyclesSpec : ChangeSpec := { name := "asyncCycles", fn := fun _ => fun
  | [d1, d2] => { results := [.lit (.bool true)], args := [d1, d2] }
  | _ => none }
def asyncCyclesRow : OpenClaim := { program := "ytjhkadffaephmaa", sum := "63c56a838f7d1ef8d80a845bf73eb215a60f505bba098bd382d22b2d2b7867ee", func := "signpost/signpostlaw.AsyncCycles", spec := "asyncCycles", unfollowed := true, recurses := true, plainKeys := false, apart := false }
def AsyncCyclesSaid : Prop := asyncCyclesRow.holds Try.pinned (OpenSpec.ofChange asyncCyclesSpec)

/-- ITS FALSE NEIGHBOUR: 'it returns false'. Refute it at one input. -/
def asyncCyclesWrong : ChangeSpec := { name := "asyncCycles", fn := fun _ => fun
  | [d1, d2] => { results := [.lit (.bool false)], args := [d1, d2] }
  | _ => none }
def AsyncCyclesWrongFalsely : Prop := asyncCyclesRow.holds Try.pinned (OpenSpec.ofChange asyncCyclesWrong)

/-- 'signpostlaw.AsyncSettles': WHATEVER THE INPUT: true; the input reads as it did. -/
def asyncSettlesSpec : ChangeSpec := { name := "asyncSettles", fn := fun _ => fun
  | [d1, d2, d3] => { results := [.lit (.bool true)], args := [d1, d2, d3] }
  | _ => none }
def asyncSettlesRow : OpenClaim := { program := "ytjhkadffaephmaa", sum := "63c56a838f7d1ef8d80a845bf73eb215a60f505bba098bd382d22b2d2b7867ee", func := "signpost/signpostlaw.AsyncSettles", spec := "asyncSettles", unfollowed := true, recurses := true, plainKeys := false, apart := false }
def AsyncSettlesSaid : Prop := asyncSettlesRow.holds Try.pinned (OpenSpec.ofChange asyncSettlesSpec)

/-- ITS FALSE NEIGHBOUR: 'it returns false'. Refute it at one input. -/
def asyncSettlesWrong : ChangeSpec := { name := "asyncSettles", fn := fun _ => fun
  | [d1, d2, d3] => { results := [.lit (.bool false)], args := [d1, d2, d3] }
  | _ => none }
def AsyncSettlesWrongFalsely : Prop := asyncSettlesRow.holds Try.pinned (OpenSpec.ofChange asyncSettlesWrong)

/-- 'signpostlaw.WireWrites': WHATEVER THE INPUT: true; the input reads as it did. -/
def wireWritesSpec : ChangeSpec := { name := "wireWrites", fn := fun _ => fun
  | [d] => { results := [.lit (.bool true)], args := [d] }
  | _ => none }
def wireWritesRow : OpenClaim := { program := "ytjhkadffaephmaa", sum := "63c56a838f7d1ef8d80a845bf73eb215a60f505bba098bd382d22b2d2b7867ee", func := "signpost/signpostlaw.WireWrites", spec := "wireWrites", unfollowed := true, recurses := true, plainKeys := false, apart := false }
def WireWritesSaid : Prop := wireWritesRow.holds Try.pinned (OpenSpec.ofChange wireWritesSpec)

/-- ITS FALSE NEIGHBOUR: 'it returns false'. Refute it at one input. -/
def wireWritesWrong : ChangeSpec := { name := "wireWrites", fn := fun _ => fun
  | [d] => { results := [.lit (.bool false)], args := [d] }
  | _ => none }
def WireWritesWrongFalsely : Prop := wireWritesRow.holds Try.pinned (OpenSpec.ofChange wireWritesWrong)

/- THE SECOND FORM. 'bulk': how many values and letters a reading holds, each counted each time it is reached (what is shared counts as often as it is met; a slice's spare places count too). A statement '..UptoSaid' is the law's where the arguments, and the package variables that the reading takes, are together of bulk at most 1048576: NARROWER than '..Said'. Prove '..Said' where nothing that the law and all that it calls make is longer than what came in: it says more and counts as full. Else prove '..UptoSaid'. A law counts once. -/
mutual
def uptoBulk {H : Type} : DataW H → Nat
  | .lit (.string bytes) => bytes.length + 1
  | .lit _ => 1
  | .nil => 1
  | .ptr d => uptoBulk d + 1
  | .slice elems spare => uptoBulkAll elems + uptoBulkAll spare + 1
  | .agg parts => uptoBulkAll parts + 1
  | .iface _ d => uptoBulk d + 1
  | .map entries => uptoBulkEntries entries + 1
  | .held _ => 1
def uptoBulkAll {H : Type} : List (DataW H) → Nat
  | [] => 0
  | d :: r => uptoBulk d + uptoBulkAll r
def uptoBulkEntries {H : Type} : List (Lit × DataW H) → Nat
  | [] => 0
  | x :: r => uptoBulkEntry x + uptoBulkEntries r
def uptoBulkEntry {H : Type} : Lit × DataW H → Nat
  | (.string bytes, d) => bytes.length + uptoBulk d + 1
  | (_, d) => uptoBulk d + 1
 end
def uptoSmall : (H : Type) → List (DataW H) → Bool := fun _ ds => decide (uptoBulkAll ds ≤ 1048576)
def OpenSpec.upto (s : _root_.Go.ChangeSpec) : _root_.Go.OpenSpec := { _root_.Go.OpenSpec.ofChange s with cond := some uptoSmall }

/-- 'signpostlaw.AlgebraLaws', WHERE WHAT IT READS IS OF BULK AT MOST 1048576: true; the input reads as it did. -/
def algebraLawsUptoRow : OpenClaim := { program := "ytjhkadffaephmaa", sum := "63c56a838f7d1ef8d80a845bf73eb215a60f505bba098bd382d22b2d2b7867ee", func := "signpost/signpostlaw.AlgebraLaws", spec := "algebraLaws", unfollowed := true, recurses := true, plainKeys := false, apart := false, narrowed := true }
def AlgebraLawsUptoSaid : Prop := algebraLawsUptoRow.holds Try.pinned (OpenSpec.upto algebraLawsSpec)

/-- 'signpostlaw.AlgebraHolds', WHERE WHAT IT READS IS OF BULK AT MOST 1048576: true; the input reads as it did. -/
def algebraHoldsUptoRow : OpenClaim := { program := "ytjhkadffaephmaa", sum := "63c56a838f7d1ef8d80a845bf73eb215a60f505bba098bd382d22b2d2b7867ee", func := "signpost/signpostlaw.AlgebraHolds", spec := "algebraHolds", unfollowed := true, recurses := true, plainKeys := false, apart := false, narrowed := true }
def AlgebraHoldsUptoSaid : Prop := algebraHoldsUptoRow.holds Try.pinned (OpenSpec.upto algebraHoldsSpec)

/-- 'signpostlaw.AlgebraTrue', WHERE WHAT IT READS IS OF BULK AT MOST 1048576: true; the input reads as it did. -/
def algebraTrueUptoRow : OpenClaim := { program := "ytjhkadffaephmaa", sum := "63c56a838f7d1ef8d80a845bf73eb215a60f505bba098bd382d22b2d2b7867ee", func := "signpost/signpostlaw.AlgebraTrue", spec := "algebraTrue", unfollowed := true, recurses := true, plainKeys := false, apart := false, narrowed := true }
def AlgebraTrueUptoSaid : Prop := algebraTrueUptoRow.holds Try.pinned (OpenSpec.upto algebraTrueSpec)

/-- 'signpostlaw.PlanBuilds', WHERE WHAT IT READS IS OF BULK AT MOST 1048576: true; the input reads as it did. -/
def planBuildsUptoRow : OpenClaim := { program := "ytjhkadffaephmaa", sum := "63c56a838f7d1ef8d80a845bf73eb215a60f505bba098bd382d22b2d2b7867ee", func := "signpost/signpostlaw.PlanBuilds", spec := "planBuilds", unfollowed := true, recurses := true, loops := true, plainKeys := false, apart := false, narrowed := true }
def PlanBuildsUptoSaid : Prop := planBuildsUptoRow.holds Try.pinned (OpenSpec.upto planBuildsSpec)

/-- 'signpostlaw.PlanLawful', WHERE WHAT IT READS IS OF BULK AT MOST 1048576: true; the input reads as it did. -/
def planLawfulUptoRow : OpenClaim := { program := "ytjhkadffaephmaa", sum := "63c56a838f7d1ef8d80a845bf73eb215a60f505bba098bd382d22b2d2b7867ee", func := "signpost/signpostlaw.PlanLawful", spec := "planLawful", unfollowed := true, recurses := true, loops := true, plainKeys := false, apart := false, narrowed := true }
def PlanLawfulUptoSaid : Prop := planLawfulUptoRow.holds Try.pinned (OpenSpec.upto planLawfulSpec)

/-- 'signpostlaw.NetRounds', WHERE WHAT IT READS IS OF BULK AT MOST 1048576: true; the input reads as it did. -/
def netRoundsUptoRow : OpenClaim := { program := "ytjhkadffaephmaa", sum := "63c56a838f7d1ef8d80a845bf73eb215a60f505bba098bd382d22b2d2b7867ee", func := "signpost/signpostlaw.NetRounds", spec := "netRounds", unfollowed := true, recurses := true, plainKeys := false, apart := false, narrowed := true }
def NetRoundsUptoSaid : Prop := netRoundsUptoRow.holds Try.pinned (OpenSpec.upto netRoundsSpec)

/-- 'signpostlaw.NetSettles', WHERE WHAT IT READS IS OF BULK AT MOST 1048576: true; the input reads as it did. -/
def netSettlesUptoRow : OpenClaim := { program := "ytjhkadffaephmaa", sum := "63c56a838f7d1ef8d80a845bf73eb215a60f505bba098bd382d22b2d2b7867ee", func := "signpost/signpostlaw.NetSettles", spec := "netSettles", unfollowed := true, recurses := true, plainKeys := false, apart := false, narrowed := true }
def NetSettlesUptoSaid : Prop := netSettlesUptoRow.holds Try.pinned (OpenSpec.upto netSettlesSpec)

/-- 'signpostlaw.NetAlways', WHERE WHAT IT READS IS OF BULK AT MOST 1048576: true; the input reads as it did. -/
def netAlwaysUptoRow : OpenClaim := { program := "ytjhkadffaephmaa", sum := "63c56a838f7d1ef8d80a845bf73eb215a60f505bba098bd382d22b2d2b7867ee", func := "signpost/signpostlaw.NetAlways", spec := "netAlways", unfollowed := true, recurses := true, plainKeys := false, apart := false, narrowed := true }
def NetAlwaysUptoSaid : Prop := netAlwaysUptoRow.holds Try.pinned (OpenSpec.upto netAlwaysSpec)

/-- 'signpostlaw.AsyncRuns', WHERE WHAT IT READS IS OF BULK AT MOST 1048576: true; the input reads as it did. -/
def asyncRunsUptoRow : OpenClaim := { program := "ytjhkadffaephmaa", sum := "63c56a838f7d1ef8d80a845bf73eb215a60f505bba098bd382d22b2d2b7867ee", func := "signpost/signpostlaw.AsyncRuns", spec := "asyncRuns", unfollowed := true, recurses := true, plainKeys := false, apart := false, narrowed := true }
def AsyncRunsUptoSaid : Prop := asyncRunsUptoRow.holds Try.pinned (OpenSpec.upto asyncRunsSpec)

/-- 'signpostlaw.AsyncCycles', WHERE WHAT IT READS IS OF BULK AT MOST 1048576: true; the input reads as it did. -/
def asyncCyclesUptoRow : OpenClaim := { program := "ytjhkadffaephmaa", sum := "63c56a838f7d1ef8d80a845bf73eb215a60f505bba098bd382d22b2d2b7867ee", func := "signpost/signpostlaw.AsyncCycles", spec := "asyncCycles", unfollowed := true, recurses := true, plainKeys := false, apart := false, narrowed := true }
def AsyncCyclesUptoSaid : Prop := asyncCyclesUptoRow.holds Try.pinned (OpenSpec.upto asyncCyclesSpec)

/-- 'signpostlaw.AsyncSettles', WHERE WHAT IT READS IS OF BULK AT MOST 1048576: true; the input reads as it did. -/
def asyncSettlesUptoRow : OpenClaim := { program := "ytjhkadffaephmaa", sum := "63c56a838f7d1ef8d80a845bf73eb215a60f505bba098bd382d22b2d2b7867ee", func := "signpost/signpostlaw.AsyncSettles", spec := "asyncSettles", unfollowed := true, recurses := true, plainKeys := false, apart := false, narrowed := true }
def AsyncSettlesUptoSaid : Prop := asyncSettlesUptoRow.holds Try.pinned (OpenSpec.upto asyncSettlesSpec)

/-- 'signpostlaw.WireWrites', WHERE WHAT IT READS IS OF BULK AT MOST 1048576: true; the input reads as it did. -/
def wireWritesUptoRow : OpenClaim := { program := "ytjhkadffaephmaa", sum := "63c56a838f7d1ef8d80a845bf73eb215a60f505bba098bd382d22b2d2b7867ee", func := "signpost/signpostlaw.WireWrites", spec := "wireWrites", unfollowed := true, recurses := true, plainKeys := false, apart := false, narrowed := true }
def WireWritesUptoSaid : Prop := wireWritesUptoRow.holds Try.pinned (OpenSpec.upto wireWritesSpec)

end Rows
end Go.Proofs.Ytjhkadffaephmaa
