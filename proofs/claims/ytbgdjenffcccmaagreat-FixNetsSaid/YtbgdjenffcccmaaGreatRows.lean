/-
  No cell of these rows narrows 'for every input' (looked for: loops, veiled, ifaces, maps, wideKeys, modest, calm, conditions, laid).
  DERIVED. THE GIVEN ROWS OF THIS SEAT. 4 by the template 'for every input the law returns true; each argument reads behind the call as it read before'; 0 by the template 'total and deterministic' (their statements: YtbgdjenffcccmaaGreatTotals.lean).
  GIVEN WITH THE SEED: the statements are not yours to turn. If you find one false, say at which input.
  Laid BY PROGRAM, IN A SANDBOX (cutbox-rows.mjs): the forced cells as the released guide's own fill.sh prints them over the translation ec8a35b609065bee… (all of the seat's roots in one cut). By AI agents, Wed Nov 11 2026. No macro, syntax, notation, axiom, sorry.
-/
import Derived.Test.YtbgdjenffcccmaaGreatChecked
import GoSem.Claim
import GoSem.ClaimJoined
import GoSem.ClaimMapViews
import Derived.JoinedTies
import Derived.KernelRfl
namespace Go.Proofs.YtbgdjenffcccmaaGreat
/- THE CELL 'sum', in the pinned program and in every row, IS THE sha256 OF THE DUMP (.gsa) THAT YtbgdjenffcccmaaGreatProg.lean LOADS. Nothing in Lean hashes anything: it is a label: what it is worth is what the hold of that sum in a sandbox is worth. -/
noncomputable def Tryz.pinned : Pinned := { name := "ytbgdjenffcccmaagreat", sum := "ec8a35b609065bee43c3645f8f981f37213112c9a7d1dda2d960cd811d5858cb", checked := Tryz.checked }
namespace Rows
def none {H : Type} : Left H := { results := [], args := [] }

/-- 'moonpoollaw04.SonarDepths': WHATEVER THE INPUT: true; the input reads as it did. -/
def sonarDepthsSpec : ChangeSpec := { name := "sonarDepths", fn := fun _ => fun
  | [d1, d2, d3] => { results := [.lit (.bool true)], args := [d1, d2, d3] }
  | _ => none }
def sonarDepthsRow : OpenClaim := { program := "ytbgdjenffcccmaagreat", sum := "ec8a35b609065bee43c3645f8f981f37213112c9a7d1dda2d960cd811d5858cb", func := "moonpool/moonpoollaw04.SonarDepths", spec := "sonarDepths", unfollowed := true, recurses := true, plainKeys := false, apart := false }
def SonarDepthsSaid : Prop := sonarDepthsRow.holds Tryz.pinned (OpenSpec.ofChange sonarDepthsSpec)

/-- ITS FALSE NEIGHBOUR: 'it returns false'. Refute it at one input. -/
def sonarDepthsWrong : ChangeSpec := { name := "sonarDepths", fn := fun _ => fun
  | [d1, d2, d3] => { results := [.lit (.bool false)], args := [d1, d2, d3] }
  | _ => none }
def SonarDepthsWrongFalsely : Prop := sonarDepthsRow.holds Tryz.pinned (OpenSpec.ofChange sonarDepthsWrong)

/-- 'moonpoollaw05.FixNets': WHATEVER THE INPUT: true; the input reads as it did. -/
def fixNetsSpec : ChangeSpec := { name := "fixNets", fn := fun _ => fun
  | [d1, d2, d3] => { results := [.lit (.bool true)], args := [d1, d2, d3] }
  | _ => none }
def fixNetsRow : OpenClaim := { program := "ytbgdjenffcccmaagreat", sum := "ec8a35b609065bee43c3645f8f981f37213112c9a7d1dda2d960cd811d5858cb", func := "moonpool/moonpoollaw05.FixNets", spec := "fixNets", unfollowed := true, recurses := true, plainKeys := false, apart := false }
def FixNetsSaid : Prop := fixNetsRow.holds Tryz.pinned (OpenSpec.ofChange fixNetsSpec)

/-- ITS FALSE NEIGHBOUR: 'it returns false'. Refute it at one input. -/
def fixNetsWrong : ChangeSpec := { name := "fixNets", fn := fun _ => fun
  | [d1, d2, d3] => { results := [.lit (.bool false)], args := [d1, d2, d3] }
  | _ => none }
def FixNetsWrongFalsely : Prop := fixNetsRow.holds Tryz.pinned (OpenSpec.ofChange fixNetsWrong)

/-- 'moonpoollaw06.ArmValves': WHATEVER THE INPUT: true; the input reads as it did. -/
def armValvesSpec : ChangeSpec := { name := "armValves", fn := fun _ => fun
  | [d1, d2, d3] => { results := [.lit (.bool true)], args := [d1, d2, d3] }
  | _ => none }
def armValvesRow : OpenClaim := { program := "ytbgdjenffcccmaagreat", sum := "ec8a35b609065bee43c3645f8f981f37213112c9a7d1dda2d960cd811d5858cb", func := "moonpool/moonpoollaw06.ArmValves", spec := "armValves", unfollowed := true, recurses := true, plainKeys := false, apart := false }
def ArmValvesSaid : Prop := armValvesRow.holds Tryz.pinned (OpenSpec.ofChange armValvesSpec)

/-- ITS FALSE NEIGHBOUR: 'it returns false'. Refute it at one input. -/
def armValvesWrong : ChangeSpec := { name := "armValves", fn := fun _ => fun
  | [d1, d2, d3] => { results := [.lit (.bool false)], args := [d1, d2, d3] }
  | _ => none }
def ArmValvesWrongFalsely : Prop := armValvesRow.holds Tryz.pinned (OpenSpec.ofChange armValvesWrong)

/-- 'moonpoollaw08.DiveWatches': WHATEVER THE INPUT: true; the input reads as it did. -/
def diveWatchesSpec : ChangeSpec := { name := "diveWatches", fn := fun _ => fun
  | [d1, d2] => { results := [.lit (.bool true)], args := [d1, d2] }
  | _ => none }
def diveWatchesRow : OpenClaim := { program := "ytbgdjenffcccmaagreat", sum := "ec8a35b609065bee43c3645f8f981f37213112c9a7d1dda2d960cd811d5858cb", func := "moonpool/moonpoollaw08.DiveWatches", spec := "diveWatches", inPlace := ["slices.overlaps[int]"], unfollowed := true, recurses := true, plainKeys := false, apart := false }
def DiveWatchesSaid : Prop := diveWatchesRow.holds Tryz.pinned (OpenSpec.ofChange diveWatchesSpec)

/-- ITS FALSE NEIGHBOUR: 'it returns false'. Refute it at one input. -/
def diveWatchesWrong : ChangeSpec := { name := "diveWatches", fn := fun _ => fun
  | [d1, d2] => { results := [.lit (.bool false)], args := [d1, d2] }
  | _ => none }
def DiveWatchesWrongFalsely : Prop := diveWatchesRow.holds Tryz.pinned (OpenSpec.ofChange diveWatchesWrong)

/- THE SECOND FORM. 'bulk': how many values and letters a reading holds, each counted each time it is reached (what is shared counts as often as it is met; a slice's spare places count too). A statement '..UptoSaid' is the law's where the arguments, and the package variables that the reading takes, are together of bulk at most 1048576: NARROWER than '..Said'. Prove '..Said' where nothing that the law and all that it calls make is longer than what came in: it says more and counts as full. Else prove '..UptoSaid'. A law counts once. -/
mutual
def uptoBulk {H : Type} : DataW H → Nat
  | .lit (.string bytes) => bytes.length + 1
  | .lit _ => 1
  | .nil => 1
  | .ptr d => uptoBulk d + 1
  | .slice elems spare => uptoBulkAll elems + uptoBulkAll spare + 1
  | .agg parts => uptoBulkAll parts + 1
  | .iface _ d => uptoBulk d + 1
  | .map entries => uptoBulkEntries entries + 1
  | .held _ => 1
def uptoBulkAll {H : Type} : List (DataW H) → Nat
  | [] => 0
  | d :: r => uptoBulk d + uptoBulkAll r
def uptoBulkEntries {H : Type} : List (Lit × DataW H) → Nat
  | [] => 0
  | x :: r => uptoBulkEntry x + uptoBulkEntries r
def uptoBulkEntry {H : Type} : Lit × DataW H → Nat
  | (.string bytes, d) => bytes.length + uptoBulk d + 1
  | (_, d) => uptoBulk d + 1
 end
def uptoSmall : (H : Type) → List (DataW H) → Bool := fun _ ds => decide (uptoBulkAll ds ≤ 1048576)
def OpenSpec.upto (s : _root_.Go.ChangeSpec) : _root_.Go.OpenSpec := { _root_.Go.OpenSpec.ofChange s with cond := some uptoSmall }

/-- 'moonpoollaw04.SonarDepths', WHERE WHAT IT READS IS OF BULK AT MOST 1048576: true; the input reads as it did. -/
def sonarDepthsUptoRow : OpenClaim := { program := "ytbgdjenffcccmaagreat", sum := "ec8a35b609065bee43c3645f8f981f37213112c9a7d1dda2d960cd811d5858cb", func := "moonpool/moonpoollaw04.SonarDepths", spec := "sonarDepths", unfollowed := true, recurses := true, plainKeys := false, apart := false, narrowed := true }
def SonarDepthsUptoSaid : Prop := sonarDepthsUptoRow.holds Tryz.pinned (OpenSpec.upto sonarDepthsSpec)

/-- 'moonpoollaw05.FixNets', WHERE WHAT IT READS IS OF BULK AT MOST 1048576: true; the input reads as it did. -/
def fixNetsUptoRow : OpenClaim := { program := "ytbgdjenffcccmaagreat", sum := "ec8a35b609065bee43c3645f8f981f37213112c9a7d1dda2d960cd811d5858cb", func := "moonpool/moonpoollaw05.FixNets", spec := "fixNets", unfollowed := true, recurses := true, plainKeys := false, apart := false, narrowed := true }
def FixNetsUptoSaid : Prop := fixNetsUptoRow.holds Tryz.pinned (OpenSpec.upto fixNetsSpec)

/-- 'moonpoollaw06.ArmValves', WHERE WHAT IT READS IS OF BULK AT MOST 1048576: true; the input reads as it did. -/
def armValvesUptoRow : OpenClaim := { program := "ytbgdjenffcccmaagreat", sum := "ec8a35b609065bee43c3645f8f981f37213112c9a7d1dda2d960cd811d5858cb", func := "moonpool/moonpoollaw06.ArmValves", spec := "armValves", unfollowed := true, recurses := true, plainKeys := false, apart := false, narrowed := true }
def ArmValvesUptoSaid : Prop := armValvesUptoRow.holds Tryz.pinned (OpenSpec.upto armValvesSpec)

/-- 'moonpoollaw08.DiveWatches', WHERE WHAT IT READS IS OF BULK AT MOST 1048576: true; the input reads as it did. -/
def diveWatchesUptoRow : OpenClaim := { program := "ytbgdjenffcccmaagreat", sum := "ec8a35b609065bee43c3645f8f981f37213112c9a7d1dda2d960cd811d5858cb", func := "moonpool/moonpoollaw08.DiveWatches", spec := "diveWatches", inPlace := ["slices.overlaps[int]"], unfollowed := true, recurses := true, plainKeys := false, apart := false, narrowed := true }
def DiveWatchesUptoSaid : Prop := diveWatchesUptoRow.holds Tryz.pinned (OpenSpec.upto diveWatchesSpec)

end Rows
end Go.Proofs.YtbgdjenffcccmaaGreat
