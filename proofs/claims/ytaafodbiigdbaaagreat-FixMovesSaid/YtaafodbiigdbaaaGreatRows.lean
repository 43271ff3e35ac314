/-
  No cell of these rows narrows 'for every input' (looked for: loops, veiled, ifaces, maps, wideKeys, modest, calm, conditions, laid).
  DERIVED. THE GIVEN ROWS OF THIS SEAT. 5 by the template 'for every input the law returns true; each argument reads behind the call as it read before'; 0 by the template 'total and deterministic' (their statements: YtaafodbiigdbaaaGreatTotals.lean).
  GIVEN WITH THE SEED: the statements are not yours to turn. If you find one false, say at which input.
  Laid BY PROGRAM, IN A SANDBOX (cutbox-rows.mjs): the forced cells as the released guide's own fill.sh prints them over the translation 811de547b1e8a9dc… (all of the seat's roots in one cut). By AI agents, Wed Nov 11 2026. No macro, syntax, notation, axiom, sorry.
-/
import Derived.Test.YtaafodbiigdbaaaGreatChecked
import GoSem.Claim
import GoSem.ClaimJoined
import GoSem.ClaimMapViews
import Derived.JoinedTies
import Derived.KernelRfl
namespace Go.Proofs.YtaafodbiigdbaaaGreat
/- THE CELL 'sum', in the pinned program and in every row, IS THE sha256 OF THE DUMP (.gsa) THAT YtaafodbiigdbaaaGreatProg.lean LOADS. Nothing in Lean hashes anything: it is a label: what it is worth is what the hold of that sum in a sandbox is worth. -/
noncomputable def Tryz.pinned : Pinned := { name := "ytaafodbiigdbaaagreat", sum := "811de547b1e8a9dc9223683337f1f6a32a31328ee404ddd076ede965f893e2b3", checked := Tryz.checked }
namespace Rows
def none {H : Type} : Left H := { results := [], args := [] }

/-- 'moonpoollaw04.SonarTurns': WHATEVER THE INPUT: true; the input reads as it did. -/
def sonarTurnsSpec : ChangeSpec := { name := "sonarTurns", fn := fun _ => fun
  | [d1, d2] => { results := [.lit (.bool true)], args := [d1, d2] }
  | _ => none }
def sonarTurnsRow : OpenClaim := { program := "ytaafodbiigdbaaagreat", sum := "811de547b1e8a9dc9223683337f1f6a32a31328ee404ddd076ede965f893e2b3", func := "moonpool/moonpoollaw04.SonarTurns", spec := "sonarTurns", unfollowed := true, recurses := true, apart := false }
def SonarTurnsSaid : Prop := sonarTurnsRow.holds Tryz.pinned (OpenSpec.ofChange sonarTurnsSpec)

/-- ITS FALSE NEIGHBOUR: 'it returns false'. Refute it at one input. -/
def sonarTurnsWrong : ChangeSpec := { name := "sonarTurns", fn := fun _ => fun
  | [d1, d2] => { results := [.lit (.bool false)], args := [d1, d2] }
  | _ => none }
def SonarTurnsWrongFalsely : Prop := sonarTurnsRow.holds Tryz.pinned (OpenSpec.ofChange sonarTurnsWrong)

/-- 'moonpoollaw04.SonarTimes': WHATEVER THE INPUT: true; the input reads as it did. -/
def sonarTimesSpec : ChangeSpec := { name := "sonarTimes", fn := fun _ => fun
  | [d1, d2, d3] => { results := [.lit (.bool true)], args := [d1, d2, d3] }
  | _ => none }
def sonarTimesRow : OpenClaim := { program := "ytaafodbiigdbaaagreat", sum := "811de547b1e8a9dc9223683337f1f6a32a31328ee404ddd076ede965f893e2b3", func := "moonpool/moonpoollaw04.SonarTimes", spec := "sonarTimes", unfollowed := true, recurses := true, apart := false }
def SonarTimesSaid : Prop := sonarTimesRow.holds Tryz.pinned (OpenSpec.ofChange sonarTimesSpec)

/-- ITS FALSE NEIGHBOUR: 'it returns false'. Refute it at one input. -/
def sonarTimesWrong : ChangeSpec := { name := "sonarTimes", fn := fun _ => fun
  | [d1, d2, d3] => { results := [.lit (.bool false)], args := [d1, d2, d3] }
  | _ => none }
def SonarTimesWrongFalsely : Prop := sonarTimesRow.holds Tryz.pinned (OpenSpec.ofChange sonarTimesWrong)

/-- 'moonpoollaw05.FixNets': WHATEVER THE INPUT: true; the input reads as it did. -/
def fixNetsSpec : ChangeSpec := { name := "fixNets", fn := fun _ => fun
  | [d1, d2, d3] => { results := [.lit (.bool true)], args := [d1, d2, d3] }
  | _ => none }
def fixNetsRow : OpenClaim := { program := "ytaafodbiigdbaaagreat", sum := "811de547b1e8a9dc9223683337f1f6a32a31328ee404ddd076ede965f893e2b3", func := "moonpool/moonpoollaw05.FixNets", spec := "fixNets", unfollowed := true, recurses := true, apart := false }
def FixNetsSaid : Prop := fixNetsRow.holds Tryz.pinned (OpenSpec.ofChange fixNetsSpec)

/-- ITS FALSE NEIGHBOUR: 'it returns false'. Refute it at one input. -/
def fixNetsWrong : ChangeSpec := { name := "fixNets", fn := fun _ => fun
  | [d1, d2, d3] => { results := [.lit (.bool false)], args := [d1, d2, d3] }
  | _ => none }
def FixNetsWrongFalsely : Prop := fixNetsRow.holds Tryz.pinned (OpenSpec.ofChange fixNetsWrong)

/-- 'moonpoollaw05.FixMoves': WHATEVER THE INPUT: true; the input reads as it did. -/
def fixMovesSpec : ChangeSpec := { name := "fixMoves", fn := fun _ => fun
  | [d1, d2, d3] => { results := [.lit (.bool true)], args := [d1, d2, d3] }
  | _ => none }
def fixMovesRow : OpenClaim := { program := "ytaafodbiigdbaaagreat", sum := "811de547b1e8a9dc9223683337f1f6a32a31328ee404ddd076ede965f893e2b3", func := "moonpool/moonpoollaw05.FixMoves", spec := "fixMoves", unfollowed := true, recurses := true, apart := false }
def FixMovesSaid : Prop := fixMovesRow.holds Tryz.pinned (OpenSpec.ofChange fixMovesSpec)

/-- ITS FALSE NEIGHBOUR: 'it returns false'. Refute it at one input. -/
def fixMovesWrong : ChangeSpec := { name := "fixMoves", fn := fun _ => fun
  | [d1, d2, d3] => { results := [.lit (.bool false)], args := [d1, d2, d3] }
  | _ => none }
def FixMovesWrongFalsely : Prop := fixMovesRow.holds Tryz.pinned (OpenSpec.ofChange fixMovesWrong)

/-- 'moonpoollaw05.FixReckoned': WHATEVER THE INPUT: true; the input reads as it did. -/
def fixReckonedSpec : ChangeSpec := { name := "fixReckoned", fn := fun _ => fun
  | [d1, d2, d3] => { results := [.lit (.bool true)], args := [d1, d2, d3] }
  | _ => none }
def fixReckonedRow : OpenClaim := { program := "ytaafodbiigdbaaagreat", sum := "811de547b1e8a9dc9223683337f1f6a32a31328ee404ddd076ede965f893e2b3", func := "moonpool/moonpoollaw05.FixReckoned", spec := "fixReckoned", unfollowed := true, recurses := true, apart := false }
def FixReckonedSaid : Prop := fixReckonedRow.holds Tryz.pinned (OpenSpec.ofChange fixReckonedSpec)

/-- ITS FALSE NEIGHBOUR: 'it returns false'. Refute it at one input. -/
def fixReckonedWrong : ChangeSpec := { name := "fixReckoned", fn := fun _ => fun
  | [d1, d2, d3] => { results := [.lit (.bool false)], args := [d1, d2, d3] }
  | _ => none }
def FixReckonedWrongFalsely : Prop := fixReckonedRow.holds Tryz.pinned (OpenSpec.ofChange fixReckonedWrong)

/- THE SECOND FORM. 'bulk': how many values and letters a reading holds, each counted each time it is reached (what is shared counts as often as it is met; a slice's spare places count too). A statement '..UptoSaid' is the law's where the arguments, and the package variables that the reading takes, are together of bulk at most 1048576: NARROWER than '..Said'. Prove '..Said' where nothing that the law and all that it calls make is longer than what came in: it says more and counts as full. Else prove '..UptoSaid'. A law counts once. -/
mutual
def uptoBulk {H : Type} : DataW H → Nat
  | .lit (.string bytes) => bytes.length + 1
  | .lit _ => 1
  | .nil => 1
  | .ptr d => uptoBulk d + 1
  | .slice elems spare => uptoBulkAll elems + uptoBulkAll spare + 1
  | .agg parts => uptoBulkAll parts + 1
  | .iface _ d => uptoBulk d + 1
  | .map entries => uptoBulkEntries entries + 1
  | .held _ => 1
def uptoBulkAll {H : Type} : List (DataW H) → Nat
  | [] => 0
  | d :: r => uptoBulk d + uptoBulkAll r
def uptoBulkEntries {H : Type} : List (Lit × DataW H) → Nat
  | [] => 0
  | x :: r => uptoBulkEntry x + uptoBulkEntries r
def uptoBulkEntry {H : Type} : Lit × DataW H → Nat
  | (.string bytes, d) => bytes.length + uptoBulk d + 1
  | (_, d) => uptoBulk d + 1
 end
def uptoSmall : (H : Type) → List (DataW H) → Bool := fun _ ds => decide (uptoBulkAll ds ≤ 1048576)
def OpenSpec.upto (s : _root_.Go.ChangeSpec) : _root_.Go.OpenSpec := { _root_.Go.OpenSpec.ofChange s with cond := some uptoSmall }

/-- 'moonpoollaw04.SonarTurns', WHERE WHAT IT READS IS OF BULK AT MOST 1048576: true; the input reads as it did. -/
def sonarTurnsUptoRow : OpenClaim := { program := "ytaafodbiigdbaaagreat", sum := "811de547b1e8a9dc9223683337f1f6a32a31328ee404ddd076ede965f893e2b3", func := "moonpool/moonpoollaw04.SonarTurns", spec := "sonarTurns", unfollowed := true, recurses := true, apart := false, narrowed := true }
def SonarTurnsUptoSaid : Prop := sonarTurnsUptoRow.holds Tryz.pinned (OpenSpec.upto sonarTurnsSpec)

/-- 'moonpoollaw04.SonarTimes', WHERE WHAT IT READS IS OF BULK AT MOST 1048576: true; the input reads as it did. -/
def sonarTimesUptoRow : OpenClaim := { program := "ytaafodbiigdbaaagreat", sum := "811de547b1e8a9dc9223683337f1f6a32a31328ee404ddd076ede965f893e2b3", func := "moonpool/moonpoollaw04.SonarTimes", spec := "sonarTimes", unfollowed := true, recurses := true, apart := false, narrowed := true }
def SonarTimesUptoSaid : Prop := sonarTimesUptoRow.holds Tryz.pinned (OpenSpec.upto sonarTimesSpec)

/-- 'moonpoollaw05.FixNets', WHERE WHAT IT READS IS OF BULK AT MOST 1048576: true; the input reads as it did. -/
def fixNetsUptoRow : OpenClaim := { program := "ytaafodbiigdbaaagreat", sum := "811de547b1e8a9dc9223683337f1f6a32a31328ee404ddd076ede965f893e2b3", func := "moonpool/moonpoollaw05.FixNets", spec := "fixNets", unfollowed := true, recurses := true, apart := false, narrowed := true }
def FixNetsUptoSaid : Prop := fixNetsUptoRow.holds Tryz.pinned (OpenSpec.upto fixNetsSpec)

/-- 'moonpoollaw05.FixMoves', WHERE WHAT IT READS IS OF BULK AT MOST 1048576: true; the input reads as it did. -/
def fixMovesUptoRow : OpenClaim := { program := "ytaafodbiigdbaaagreat", sum := "811de547b1e8a9dc9223683337f1f6a32a31328ee404ddd076ede965f893e2b3", func := "moonpool/moonpoollaw05.FixMoves", spec := "fixMoves", unfollowed := true, recurses := true, apart := false, narrowed := true }
def FixMovesUptoSaid : Prop := fixMovesUptoRow.holds Tryz.pinned (OpenSpec.upto fixMovesSpec)

/-- 'moonpoollaw05.FixReckoned', WHERE WHAT IT READS IS OF BULK AT MOST 1048576: true; the input reads as it did. -/
def fixReckonedUptoRow : OpenClaim := { program := "ytaafodbiigdbaaagreat", sum := "811de547b1e8a9dc9223683337f1f6a32a31328ee404ddd076ede965f893e2b3", func := "moonpool/moonpoollaw05.FixReckoned", spec := "fixReckoned", unfollowed := true, recurses := true, apart := false, narrowed := true }
def FixReckonedUptoSaid : Prop := fixReckonedUptoRow.holds Tryz.pinned (OpenSpec.upto fixReckonedSpec)

end Rows
end Go.Proofs.YtaafodbiigdbaaaGreat
