/-
  No cell of these rows narrows 'for every input' (looked for: loops, veiled, ifaces, maps, wideKeys, modest, calm, conditions, laid).
  DERIVED. THE GIVEN ROWS OF THIS SEAT. 10 by the template 'for every input the law returns true; each argument reads behind the call as it read before'; 0 by the template 'total and deterministic' (their statements: YtjhkadffaephmabTotals.lean).
  GIVEN WITH THE SEED: the statements are not yours to turn. If you find one false, say at which input.
  Laid BY PROGRAM, IN A SANDBOX (cutbox-rows.mjs): the forced cells as the released guide's own fill.sh prints them over the translation 5bde5b999384dc4e… (all of the seat's roots in one cut). By AI agents, Wed Nov 11 2026. No macro, syntax, notation, axiom, sorry.
-/
import Derived.Test.YtjhkadffaephmabChecked
import GoSem.Claim
import GoSem.ClaimJoined
import GoSem.ClaimMapViews
import Derived.JoinedTies
import Derived.KernelRfl
namespace Go.Proofs.Ytjhkadffaephmab
/- THE CELL 'sum', in the pinned program and in every row, IS THE sha256 OF THE DUMP (.gsa) THAT YtjhkadffaephmabProg.lean LOADS. Nothing in Lean hashes anything: it is a label: what it is worth is what the hold of that sum in a sandbox is worth. -/
noncomputable def Try.pinned : Pinned := { name := "ytjhkadffaephmab", sum := "5bde5b999384dc4e03dbcb475f8013ca1e1a088d423f879e76b2a2a056cb81f8", checked := Try.checked }
namespace Rows
def none {H : Type} : Left H := { results := [], args := [] }

/-- 'signpostlaw.WireReads': WHATEVER THE INPUT: true; the input reads as it did. -/
def wireReadsSpec : ChangeSpec := { name := "wireReads", fn := fun _ => fun
  | [d] => { results := [.lit (.bool true)], args := [d] }
  | _ => none }
def wireReadsRow : OpenClaim := { program := "ytjhkadffaephmab", sum := "5bde5b999384dc4e03dbcb475f8013ca1e1a088d423f879e76b2a2a056cb81f8", func := "signpost/signpostlaw.WireReads", spec := "wireReads", unfollowed := true, recurses := true, plainKeys := false, apart := false }
def WireReadsSaid : Prop := wireReadsRow.holds Try.pinned (OpenSpec.ofChange wireReadsSpec)

/-- ITS FALSE NEIGHBOUR: 'it returns false'. Refute it at one input. -/
def wireReadsWrong : ChangeSpec := { name := "wireReads", fn := fun _ => fun
  | [d] => { results := [.lit (.bool false)], args := [d] }
  | _ => none }
def WireReadsWrongFalsely : Prop := wireReadsRow.holds Try.pinned (OpenSpec.ofChange wireReadsWrong)

/-- 'signpostlaw.WireBack': WHATEVER THE INPUT: true; the input reads as it did. -/
def wireBackSpec : ChangeSpec := { name := "wireBack", fn := fun _ => fun
  | [d1, d2, d3, d4] => { results := [.lit (.bool true)], args := [d1, d2, d3, d4] }
  | _ => none }
def wireBackRow : OpenClaim := { program := "ytjhkadffaephmab", sum := "5bde5b999384dc4e03dbcb475f8013ca1e1a088d423f879e76b2a2a056cb81f8", func := "signpost/signpostlaw.WireBack", spec := "wireBack", unfollowed := true, recurses := true, plainKeys := false, apart := false }
def WireBackSaid : Prop := wireBackRow.holds Try.pinned (OpenSpec.ofChange wireBackSpec)

/-- ITS FALSE NEIGHBOUR: 'it returns false'. Refute it at one input. -/
def wireBackWrong : ChangeSpec := { name := "wireBack", fn := fun _ => fun
  | [d1, d2, d3, d4] => { results := [.lit (.bool false)], args := [d1, d2, d3, d4] }
  | _ => none }
def WireBackWrongFalsely : Prop := wireBackRow.holds Try.pinned (OpenSpec.ofChange wireBackWrong)

/-- 'signpostlaw.EngineSpoilt': WHATEVER THE INPUT: true; the input reads as it did. -/
def engineSpoiltSpec : ChangeSpec := { name := "engineSpoilt", fn := fun _ => fun
  | [d1, d2, d3, d4, d5] => { results := [.lit (.bool true)], args := [d1, d2, d3, d4, d5] }
  | _ => none }
def engineSpoiltRow : OpenClaim := { program := "ytjhkadffaephmab", sum := "5bde5b999384dc4e03dbcb475f8013ca1e1a088d423f879e76b2a2a056cb81f8", func := "signpost/signpostlaw.EngineSpoilt", spec := "engineSpoilt", unfollowed := true, recurses := true, plainKeys := false, apart := false }
def EngineSpoiltSaid : Prop := engineSpoiltRow.holds Try.pinned (OpenSpec.ofChange engineSpoiltSpec)

/-- ITS FALSE NEIGHBOUR: 'it returns false'. Refute it at one input. -/
def engineSpoiltWrong : ChangeSpec := { name := "engineSpoilt", fn := fun _ => fun
  | [d1, d2, d3, d4, d5] => { results := [.lit (.bool false)], args := [d1, d2, d3, d4, d5] }
  | _ => none }
def EngineSpoiltWrongFalsely : Prop := engineSpoiltRow.holds Try.pinned (OpenSpec.ofChange engineSpoiltWrong)

/-- 'signpostlaw.EngineSettles': WHATEVER THE INPUT: true; the input reads as it did. -/
def engineSettlesSpec : ChangeSpec := { name := "engineSettles", fn := fun _ => fun
  | [d1, d2, d3, d4] => { results := [.lit (.bool true)], args := [d1, d2, d3, d4] }
  | _ => none }
def engineSettlesRow : OpenClaim := { program := "ytjhkadffaephmab", sum := "5bde5b999384dc4e03dbcb475f8013ca1e1a088d423f879e76b2a2a056cb81f8", func := "signpost/signpostlaw.EngineSettles", spec := "engineSettles", unfollowed := true, recurses := true, plainKeys := false, apart := false }
def EngineSettlesSaid : Prop := engineSettlesRow.holds Try.pinned (OpenSpec.ofChange engineSettlesSpec)

/-- ITS FALSE NEIGHBOUR: 'it returns false'. Refute it at one input. -/
def engineSettlesWrong : ChangeSpec := { name := "engineSettles", fn := fun _ => fun
  | [d1, d2, d3, d4] => { results := [.lit (.bool false)], args := [d1, d2, d3, d4] }
  | _ => none }
def EngineSettlesWrongFalsely : Prop := engineSettlesRow.holds Try.pinned (OpenSpec.ofChange engineSettlesWrong)

/-- 'signpostlaw.PathBests': WHATEVER THE INPUT: true; the input reads as it did. -/
def pathBestsSpec : ChangeSpec := { name := "pathBests", fn := fun _ => fun
  | [d1, d2, d3, d4, d5] => { results := [.lit (.bool true)], args := [d1, d2, d3, d4, d5] }
  | _ => none }
def pathBestsRow : OpenClaim := { program := "ytjhkadffaephmab", sum := "5bde5b999384dc4e03dbcb475f8013ca1e1a088d423f879e76b2a2a056cb81f8", func := "signpost/signpostlaw.PathBests", spec := "pathBests", unfollowed := true, recurses := true, plainKeys := false, apart := false }
def PathBestsSaid : Prop := pathBestsRow.holds Try.pinned (OpenSpec.ofChange pathBestsSpec)

/-- ITS FALSE NEIGHBOUR: 'it returns false'. Refute it at one input. -/
def pathBestsWrong : ChangeSpec := { name := "pathBests", fn := fun _ => fun
  | [d1, d2, d3, d4, d5] => { results := [.lit (.bool false)], args := [d1, d2, d3, d4, d5] }
  | _ => none }
def PathBestsWrongFalsely : Prop := pathBestsRow.holds Try.pinned (OpenSpec.ofChange pathBestsWrong)

/-- 'signpostlaw.PathRounds': WHATEVER THE INPUT: true; the input reads as it did. -/
def pathRoundsSpec : ChangeSpec := { name := "pathRounds", fn := fun _ => fun
  | [d1, d2, d3] => { results := [.lit (.bool true)], args := [d1, d2, d3] }
  | _ => none }
def pathRoundsRow : OpenClaim := { program := "ytjhkadffaephmab", sum := "5bde5b999384dc4e03dbcb475f8013ca1e1a088d423f879e76b2a2a056cb81f8", func := "signpost/signpostlaw.PathRounds", spec := "pathRounds", unfollowed := true, recurses := true, plainKeys := false, apart := false }
def PathRoundsSaid : Prop := pathRoundsRow.holds Try.pinned (OpenSpec.ofChange pathRoundsSpec)

/-- ITS FALSE NEIGHBOUR: 'it returns false'. Refute it at one input. -/
def pathRoundsWrong : ChangeSpec := { name := "pathRounds", fn := fun _ => fun
  | [d1, d2, d3] => { results := [.lit (.bool false)], args := [d1, d2, d3] }
  | _ => none }
def PathRoundsWrongFalsely : Prop := pathRoundsRow.holds Try.pinned (OpenSpec.ofChange pathRoundsWrong)

/-- 'signpostlaw.PathAlways': WHATEVER THE INPUT: true; the input reads as it did. -/
def pathAlwaysSpec : ChangeSpec := { name := "pathAlways", fn := fun _ => fun
  | [d1, d2, d3] => { results := [.lit (.bool true)], args := [d1, d2, d3] }
  | _ => none }
def pathAlwaysRow : OpenClaim := { program := "ytjhkadffaephmab", sum := "5bde5b999384dc4e03dbcb475f8013ca1e1a088d423f879e76b2a2a056cb81f8", func := "signpost/signpostlaw.PathAlways", spec := "pathAlways", unfollowed := true, recurses := true, plainKeys := false, apart := false }
def PathAlwaysSaid : Prop := pathAlwaysRow.holds Try.pinned (OpenSpec.ofChange pathAlwaysSpec)

/-- ITS FALSE NEIGHBOUR: 'it returns false'. Refute it at one input. -/
def pathAlwaysWrong : ChangeSpec := { name := "pathAlways", fn := fun _ => fun
  | [d1, d2, d3] => { results := [.lit (.bool false)], args := [d1, d2, d3] }
  | _ => none }
def PathAlwaysWrongFalsely : Prop := pathAlwaysRow.holds Try.pinned (OpenSpec.ofChange pathAlwaysWrong)

/-- 'signpostlaw.TableTells': WHATEVER THE INPUT: true; the input reads as it did. -/
def tableTellsSpec : ChangeSpec := { name := "tableTells", fn := fun _ => fun
  | [d1, d2, d3, d4, d5] => { results := [.lit (.bool true)], args := [d1, d2, d3, d4, d5] }
  | _ => none }
def tableTellsRow : OpenClaim := { program := "ytjhkadffaephmab", sum := "5bde5b999384dc4e03dbcb475f8013ca1e1a088d423f879e76b2a2a056cb81f8", func := "signpost/signpostlaw.TableTells", spec := "tableTells", unfollowed := true, recurses := true, plainKeys := false, apart := false }
def TableTellsSaid : Prop := tableTellsRow.holds Try.pinned (OpenSpec.ofChange tableTellsSpec)

/-- ITS FALSE NEIGHBOUR: 'it returns false'. Refute it at one input. -/
def tableTellsWrong : ChangeSpec := { name := "tableTells", fn := fun _ => fun
  | [d1, d2, d3, d4, d5] => { results := [.lit (.bool false)], args := [d1, d2, d3, d4, d5] }
  | _ => none }
def TableTellsWrongFalsely : Prop := tableTellsRow.holds Try.pinned (OpenSpec.ofChange tableTellsWrong)

/-- 'signpostlaw.TableWeighs': WHATEVER THE INPUT: true; the input reads as it did. -/
def tableWeighsSpec : ChangeSpec := { name := "tableWeighs", fn := fun _ => fun
  | [d1, d2, d3, d4] => { results := [.lit (.bool true)], args := [d1, d2, d3, d4] }
  | _ => none }
def tableWeighsRow : OpenClaim := { program := "ytjhkadffaephmab", sum := "5bde5b999384dc4e03dbcb475f8013ca1e1a088d423f879e76b2a2a056cb81f8", func := "signpost/signpostlaw.TableWeighs", spec := "tableWeighs", unfollowed := true, recurses := true, plainKeys := false, apart := false }
def TableWeighsSaid : Prop := tableWeighsRow.holds Try.pinned (OpenSpec.ofChange tableWeighsSpec)

/-- ITS FALSE NEIGHBOUR: 'it returns false'. Refute it at one input. -/
def tableWeighsWrong : ChangeSpec := { name := "tableWeighs", fn := fun _ => fun
  | [d1, d2, d3, d4] => { results := [.lit (.bool false)], args := [d1, d2, d3, d4] }
  | _ => none }
def TableWeighsWrongFalsely : Prop := tableWeighsRow.holds Try.pinned (OpenSpec.ofChange tableWeighsWrong)

/-- 'signpostlaw.TableLeads': WHATEVER THE INPUT: true; the input reads as it did. -/
def tableLeadsSpec : ChangeSpec := { name := "tableLeads", fn := fun _ => fun
  | [d1, d2, d3, d4] => { results := [.lit (.bool true)], args := [d1, d2, d3, d4] }
  | _ => none }
def tableLeadsRow : OpenClaim := { program := "ytjhkadffaephmab", sum := "5bde5b999384dc4e03dbcb475f8013ca1e1a088d423f879e76b2a2a056cb81f8", func := "signpost/signpostlaw.TableLeads", spec := "tableLeads", unfollowed := true, recurses := true, plainKeys := false, apart := false }
def TableLeadsSaid : Prop := tableLeadsRow.holds Try.pinned (OpenSpec.ofChange tableLeadsSpec)

/-- ITS FALSE NEIGHBOUR: 'it returns false'. Refute it at one input. -/
def tableLeadsWrong : ChangeSpec := { name := "tableLeads", fn := fun _ => fun
  | [d1, d2, d3, d4] => { results := [.lit (.bool false)], args := [d1, d2, d3, d4] }
  | _ => none }
def TableLeadsWrongFalsely : Prop := tableLeadsRow.holds Try.pinned (OpenSpec.ofChange tableLeadsWrong)

/- THE SECOND FORM. 'bulk': how many values and letters a reading holds, each counted each time it is reached (what is shared counts as often as it is met; a slice's spare places count too). A statement '..UptoSaid' is the law's where the arguments, and the package variables that the reading takes, are together of bulk at most 1048576: NARROWER than '..Said'. Prove '..Said' where nothing that the law and all that it calls make is longer than what came in: it says more and counts as full. Else prove '..UptoSaid'. A law counts once. -/
mutual
def uptoBulk {H : Type} : DataW H → Nat
  | .lit (.string bytes) => bytes.length + 1
  | .lit _ => 1
  | .nil => 1
  | .ptr d => uptoBulk d + 1
  | .slice elems spare => uptoBulkAll elems + uptoBulkAll spare + 1
  | .agg parts => uptoBulkAll parts + 1
  | .iface _ d => uptoBulk d + 1
  | .map entries => uptoBulkEntries entries + 1
  | .held _ => 1
def uptoBulkAll {H : Type} : List (DataW H) → Nat
  | [] => 0
  | d :: r => uptoBulk d + uptoBulkAll r
def uptoBulkEntries {H : Type} : List (Lit × DataW H) → Nat
  | [] => 0
  | x :: r => uptoBulkEntry x + uptoBulkEntries r
def uptoBulkEntry {H : Type} : Lit × DataW H → Nat
  | (.string bytes, d) => bytes.length + uptoBulk d + 1
  | (_, d) => uptoBulk d + 1
 end
def uptoSmall : (H : Type) → List (DataW H) → Bool := fun _ ds => decide (uptoBulkAll ds ≤ 1048576)
def OpenSpec.upto (s : _root_.Go.ChangeSpec) : _root_.Go.OpenSpec := { _root_.Go.OpenSpec.ofChange s with cond := some uptoSmall }

/-- 'signpostlaw.WireReads', WHERE WHAT IT READS IS OF BULK AT MOST 1048576: true; the input reads as it did. -/
def wireReadsUptoRow : OpenClaim := { program := "ytjhkadffaephmab", sum := "5bde5b999384dc4e03dbcb475f8013ca1e1a088d423f879e76b2a2a056cb81f8", func := "signpost/signpostlaw.WireReads", spec := "wireReads", unfollowed := true, recurses := true, plainKeys := false, apart := false, narrowed := true }
def WireReadsUptoSaid : Prop := wireReadsUptoRow.holds Try.pinned (OpenSpec.upto wireReadsSpec)

/-- 'signpostlaw.WireBack', WHERE WHAT IT READS IS OF BULK AT MOST 1048576: true; the input reads as it did. -/
def wireBackUptoRow : OpenClaim := { program := "ytjhkadffaephmab", sum := "5bde5b999384dc4e03dbcb475f8013ca1e1a088d423f879e76b2a2a056cb81f8", func := "signpost/signpostlaw.WireBack", spec := "wireBack", unfollowed := true, recurses := true, plainKeys := false, apart := false, narrowed := true }
def WireBackUptoSaid : Prop := wireBackUptoRow.holds Try.pinned (OpenSpec.upto wireBackSpec)

/-- 'signpostlaw.EngineSpoilt', WHERE WHAT IT READS IS OF BULK AT MOST 1048576: true; the input reads as it did. -/
def engineSpoiltUptoRow : OpenClaim := { program := "ytjhkadffaephmab", sum := "5bde5b999384dc4e03dbcb475f8013ca1e1a088d423f879e76b2a2a056cb81f8", func := "signpost/signpostlaw.EngineSpoilt", spec := "engineSpoilt", unfollowed := true, recurses := true, plainKeys := false, apart := false, narrowed := true }
def EngineSpoiltUptoSaid : Prop := engineSpoiltUptoRow.holds Try.pinned (OpenSpec.upto engineSpoiltSpec)

/-- 'signpostlaw.EngineSettles', WHERE WHAT IT READS IS OF BULK AT MOST 1048576: true; the input reads as it did. -/
def engineSettlesUptoRow : OpenClaim := { program := "ytjhkadffaephmab", sum := "5bde5b999384dc4e03dbcb475f8013ca1e1a088d423f879e76b2a2a056cb81f8", func := "signpost/signpostlaw.EngineSettles", spec := "engineSettles", unfollowed := true, recurses := true, plainKeys := false, apart := false, narrowed := true }
def EngineSettlesUptoSaid : Prop := engineSettlesUptoRow.holds Try.pinned (OpenSpec.upto engineSettlesSpec)

/-- 'signpostlaw.PathBests', WHERE WHAT IT READS IS OF BULK AT MOST 1048576: true; the input reads as it did. -/
def pathBestsUptoRow : OpenClaim := { program := "ytjhkadffaephmab", sum := "5bde5b999384dc4e03dbcb475f8013ca1e1a088d423f879e76b2a2a056cb81f8", func := "signpost/signpostlaw.PathBests", spec := "pathBests", unfollowed := true, recurses := true, plainKeys := false, apart := false, narrowed := true }
def PathBestsUptoSaid : Prop := pathBestsUptoRow.holds Try.pinned (OpenSpec.upto pathBestsSpec)

/-- 'signpostlaw.PathRounds', WHERE WHAT IT READS IS OF BULK AT MOST 1048576: true; the input reads as it did. -/
def pathRoundsUptoRow : OpenClaim := { program := "ytjhkadffaephmab", sum := "5bde5b999384dc4e03dbcb475f8013ca1e1a088d423f879e76b2a2a056cb81f8", func := "signpost/signpostlaw.PathRounds", spec := "pathRounds", unfollowed := true, recurses := true, plainKeys := false, apart := false, narrowed := true }
def PathRoundsUptoSaid : Prop := pathRoundsUptoRow.holds Try.pinned (OpenSpec.upto pathRoundsSpec)

/-- 'signpostlaw.PathAlways', WHERE WHAT IT READS IS OF BULK AT MOST 1048576: true; the input reads as it did. -/
def pathAlwaysUptoRow : OpenClaim := { program := "ytjhkadffaephmab", sum := "5bde5b999384dc4e03dbcb475f8013ca1e1a088d423f879e76b2a2a056cb81f8", func := "signpost/signpostlaw.PathAlways", spec := "pathAlways", unfollowed := true, recurses := true, plainKeys := false, apart := false, narrowed := true }
def PathAlwaysUptoSaid : Prop := pathAlwaysUptoRow.holds Try.pinned (OpenSpec.upto pathAlwaysSpec)

/-- 'signpostlaw.TableTells', WHERE WHAT IT READS IS OF BULK AT MOST 1048576: true; the input reads as it did. -/
def tableTellsUptoRow : OpenClaim := { program := "ytjhkadffaephmab", sum := "5bde5b999384dc4e03dbcb475f8013ca1e1a088d423f879e76b2a2a056cb81f8", func := "signpost/signpostlaw.TableTells", spec := "tableTells", unfollowed := true, recurses := true, plainKeys := false, apart := false, narrowed := true }
def TableTellsUptoSaid : Prop := tableTellsUptoRow.holds Try.pinned (OpenSpec.upto tableTellsSpec)

/-- 'signpostlaw.TableWeighs', WHERE WHAT IT READS IS OF BULK AT MOST 1048576: true; the input reads as it did. -/
def tableWeighsUptoRow : OpenClaim := { program := "ytjhkadffaephmab", sum := "5bde5b999384dc4e03dbcb475f8013ca1e1a088d423f879e76b2a2a056cb81f8", func := "signpost/signpostlaw.TableWeighs", spec := "tableWeighs", unfollowed := true, recurses := true, plainKeys := false, apart := false, narrowed := true }
def TableWeighsUptoSaid : Prop := tableWeighsUptoRow.holds Try.pinned (OpenSpec.upto tableWeighsSpec)

/-- 'signpostlaw.TableLeads', WHERE WHAT IT READS IS OF BULK AT MOST 1048576: true; the input reads as it did. -/
def tableLeadsUptoRow : OpenClaim := { program := "ytjhkadffaephmab", sum := "5bde5b999384dc4e03dbcb475f8013ca1e1a088d423f879e76b2a2a056cb81f8", func := "signpost/signpostlaw.TableLeads", spec := "tableLeads", unfollowed := true, recurses := true, plainKeys := false, apart := false, narrowed := true }
def TableLeadsUptoSaid : Prop := tableLeadsUptoRow.holds Try.pinned (OpenSpec.upto tableLeadsSpec)

end Rows
end Go.Proofs.Ytjhkadffaephmab
