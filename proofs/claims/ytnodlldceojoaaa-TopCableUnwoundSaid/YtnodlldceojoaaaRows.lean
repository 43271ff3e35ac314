/-
  No cell of these rows narrows 'for every input' (looked for: loops, veiled, ifaces, maps, wideKeys, modest, calm, conditions, laid).
  DERIVED. THE GIVEN ROWS OF THIS SEAT. 8 by the template 'for every input the law returns true; each argument reads behind the call as it read before'; 0 by the template 'total and deterministic' (their statements: YtnodlldceojoaaaTotals.lean).
  GIVEN WITH THE SEED: the statements are not yours to turn. If you find one false, say at which input.
  Laid BY PROGRAM, IN A SANDBOX (cutbox-rows.mjs): the forced cells as the released guide's own fill.sh prints them over the translation 47ef332c28898a4e… (all of the seat's roots in one cut). By AI agents, Wed Nov 11 2026. No macro, syntax, notation, axiom, sorry.
-/
import Derived.Test.YtnodlldceojoaaaChecked
import GoSem.Claim
import GoSem.ClaimJoined
import GoSem.ClaimMapViews
import Derived.JoinedTies
import Derived.KernelRfl
namespace Go.Proofs.Ytnodlldceojoaaa
/- THE CELL 'sum', in the pinned program and in every row, IS THE sha256 OF THE DUMP (.gsa) THAT YtnodlldceojoaaaProg.lean LOADS. Nothing in Lean hashes anything: it is a label: what it is worth is what the hold of that sum in a sandbox is worth. -/
noncomputable def Try.pinned : Pinned := { name := "ytnodlldceojoaaa", sum := "47ef332c28898a4eb5a19e19083030efca76a3e62526c30e99cd26e0351ac872", checked := Try.checked }
namespace Rows
def none {H : Type} : Left H := { results := [], args := [] }

/-- 'moonpoollaw01.CableShapes': WHATEVER THE INPUT: true; the input reads as it did. -/
def cableShapesSpec : ChangeSpec := { name := "cableShapes", fn := fun _ => fun
  | [d1, d2] => { results := [.lit (.bool true)], args := [d1, d2] }
  | _ => none }
def cableShapesRow : OpenClaim := { program := "ytnodlldceojoaaa", sum := "47ef332c28898a4eb5a19e19083030efca76a3e62526c30e99cd26e0351ac872", func := "moonpool/moonpoollaw01.CableShapes", spec := "cableShapes", unfollowed := true, recurses := true, plainKeys := false, apart := false }
def CableShapesSaid : Prop := cableShapesRow.holds Try.pinned (OpenSpec.ofChange cableShapesSpec)

/-- ITS FALSE NEIGHBOUR: 'it returns false'. Refute it at one input. -/
def cableShapesWrong : ChangeSpec := { name := "cableShapes", fn := fun _ => fun
  | [d1, d2] => { results := [.lit (.bool false)], args := [d1, d2] }
  | _ => none }
def CableShapesWrongFalsely : Prop := cableShapesRow.holds Try.pinned (OpenSpec.ofChange cableShapesWrong)

/-- 'moonpoollaw01.CableBoxes': WHATEVER THE INPUT: true; the input reads as it did. -/
def cableBoxesSpec : ChangeSpec := { name := "cableBoxes", fn := fun _ => fun
  | [d1, d2] => { results := [.lit (.bool true)], args := [d1, d2] }
  | _ => none }
def cableBoxesRow : OpenClaim := { program := "ytnodlldceojoaaa", sum := "47ef332c28898a4eb5a19e19083030efca76a3e62526c30e99cd26e0351ac872", func := "moonpool/moonpoollaw01.CableBoxes", spec := "cableBoxes", unfollowed := true, recurses := true, plainKeys := false, apart := false }
def CableBoxesSaid : Prop := cableBoxesRow.holds Try.pinned (OpenSpec.ofChange cableBoxesSpec)

/-- ITS FALSE NEIGHBOUR: 'it returns false'. Refute it at one input. -/
def cableBoxesWrong : ChangeSpec := { name := "cableBoxes", fn := fun _ => fun
  | [d1, d2] => { results := [.lit (.bool false)], args := [d1, d2] }
  | _ => none }
def CableBoxesWrongFalsely : Prop := cableBoxesRow.holds Try.pinned (OpenSpec.ofChange cableBoxesWrong)

/-- 'moonpoollaw01.CableEvery': WHATEVER THE INPUT: true; the input reads as it did. -/
def cableEverySpec : ChangeSpec := { name := "cableEvery", fn := fun _ => fun
  | [d1, d2, d3] => { results := [.lit (.bool true)], args := [d1, d2, d3] }
  | _ => none }
def cableEveryRow : OpenClaim := { program := "ytnodlldceojoaaa", sum := "47ef332c28898a4eb5a19e19083030efca76a3e62526c30e99cd26e0351ac872", func := "moonpool/moonpoollaw01.CableEvery", spec := "cableEvery", unfollowed := true, recurses := true, plainKeys := false, apart := false }
def CableEverySaid : Prop := cableEveryRow.holds Try.pinned (OpenSpec.ofChange cableEverySpec)

/-- ITS FALSE NEIGHBOUR: 'it returns false'. Refute it at one input. -/
def cableEveryWrong : ChangeSpec := { name := "cableEvery", fn := fun _ => fun
  | [d1, d2, d3] => { results := [.lit (.bool false)], args := [d1, d2, d3] }
  | _ => none }
def CableEveryWrongFalsely : Prop := cableEveryRow.holds Try.pinned (OpenSpec.ofChange cableEveryWrong)

/-- 'moonpoollaw01.CableWound': WHATEVER THE INPUT: true; the input reads as it did. -/
def cableWoundSpec : ChangeSpec := { name := "cableWound", fn := fun _ => fun
  | [d1, d2, d3] => { results := [.lit (.bool true)], args := [d1, d2, d3] }
  | _ => none }
def cableWoundRow : OpenClaim := { program := "ytnodlldceojoaaa", sum := "47ef332c28898a4eb5a19e19083030efca76a3e62526c30e99cd26e0351ac872", func := "moonpool/moonpoollaw01.CableWound", spec := "cableWound", unfollowed := true, recurses := true, plainKeys := false, apart := false }
def CableWoundSaid : Prop := cableWoundRow.holds Try.pinned (OpenSpec.ofChange cableWoundSpec)

/-- ITS FALSE NEIGHBOUR: 'it returns false'. Refute it at one input. -/
def cableWoundWrong : ChangeSpec := { name := "cableWound", fn := fun _ => fun
  | [d1, d2, d3] => { results := [.lit (.bool false)], args := [d1, d2, d3] }
  | _ => none }
def CableWoundWrongFalsely : Prop := cableWoundRow.holds Try.pinned (OpenSpec.ofChange cableWoundWrong)

/-- 'moonpoollaw02.WinchLoops': WHATEVER THE INPUT: true; the input reads as it did. -/
def winchLoopsSpec : ChangeSpec := { name := "winchLoops", fn := fun _ => fun
  | [d1, d2, d3] => { results := [.lit (.bool true)], args := [d1, d2, d3] }
  | _ => none }
def winchLoopsRow : OpenClaim := { program := "ytnodlldceojoaaa", sum := "47ef332c28898a4eb5a19e19083030efca76a3e62526c30e99cd26e0351ac872", func := "moonpool/moonpoollaw02.WinchLoops", spec := "winchLoops", unfollowed := true, recurses := true, plainKeys := false, apart := false }
def WinchLoopsSaid : Prop := winchLoopsRow.holds Try.pinned (OpenSpec.ofChange winchLoopsSpec)

/-- ITS FALSE NEIGHBOUR: 'it returns false'. Refute it at one input. -/
def winchLoopsWrong : ChangeSpec := { name := "winchLoops", fn := fun _ => fun
  | [d1, d2, d3] => { results := [.lit (.bool false)], args := [d1, d2, d3] }
  | _ => none }
def WinchLoopsWrongFalsely : Prop := winchLoopsRow.holds Try.pinned (OpenSpec.ofChange winchLoopsWrong)

/-- 'moonpoollaw02.WinchLatches': WHATEVER THE INPUT: true; the input reads as it did. -/
def winchLatchesSpec : ChangeSpec := { name := "winchLatches", fn := fun _ => fun
  | [d1, d2, d3] => { results := [.lit (.bool true)], args := [d1, d2, d3] }
  | _ => none }
def winchLatchesRow : OpenClaim := { program := "ytnodlldceojoaaa", sum := "47ef332c28898a4eb5a19e19083030efca76a3e62526c30e99cd26e0351ac872", func := "moonpool/moonpoollaw02.WinchLatches", spec := "winchLatches", unfollowed := true, recurses := true, plainKeys := false, apart := false }
def WinchLatchesSaid : Prop := winchLatchesRow.holds Try.pinned (OpenSpec.ofChange winchLatchesSpec)

/-- ITS FALSE NEIGHBOUR: 'it returns false'. Refute it at one input. -/
def winchLatchesWrong : ChangeSpec := { name := "winchLatches", fn := fun _ => fun
  | [d1, d2, d3] => { results := [.lit (.bool false)], args := [d1, d2, d3] }
  | _ => none }
def WinchLatchesWrongFalsely : Prop := winchLatchesRow.holds Try.pinned (OpenSpec.ofChange winchLatchesWrong)

/-- 'moonpoollaw02.WinchUnloaded': WHATEVER THE INPUT: true; the input reads as it did. -/
def winchUnloadedSpec : ChangeSpec := { name := "winchUnloaded", fn := fun _ => fun
  | [d1, d2, d3] => { results := [.lit (.bool true)], args := [d1, d2, d3] }
  | _ => none }
def winchUnloadedRow : OpenClaim := { program := "ytnodlldceojoaaa", sum := "47ef332c28898a4eb5a19e19083030efca76a3e62526c30e99cd26e0351ac872", func := "moonpool/moonpoollaw02.WinchUnloaded", spec := "winchUnloaded", unfollowed := true, recurses := true, plainKeys := false, apart := false }
def WinchUnloadedSaid : Prop := winchUnloadedRow.holds Try.pinned (OpenSpec.ofChange winchUnloadedSpec)

/-- ITS FALSE NEIGHBOUR: 'it returns false'. Refute it at one input. -/
def winchUnloadedWrong : ChangeSpec := { name := "winchUnloaded", fn := fun _ => fun
  | [d1, d2, d3] => { results := [.lit (.bool false)], args := [d1, d2, d3] }
  | _ => none }
def WinchUnloadedWrongFalsely : Prop := winchUnloadedRow.holds Try.pinned (OpenSpec.ofChange winchUnloadedWrong)

/-- 'moonpooltop.TopCableUnwound': WHATEVER THE INPUT: true; the input reads as it did. -/
def topCableUnwoundSpec : ChangeSpec := { name := "topCableUnwound", fn := fun _ => fun
  | [d1, d2, d3] => { results := [.lit (.bool true)], args := [d1, d2, d3] }
  | _ => none }
def topCableUnwoundRow : OpenClaim := { program := "ytnodlldceojoaaa", sum := "47ef332c28898a4eb5a19e19083030efca76a3e62526c30e99cd26e0351ac872", func := "moonpool/moonpooltop.TopCableUnwound", spec := "topCableUnwound", unfollowed := true, recurses := true, plainKeys := false, apart := false }
def TopCableUnwoundSaid : Prop := topCableUnwoundRow.holds Try.pinned (OpenSpec.ofChange topCableUnwoundSpec)

/-- ITS FALSE NEIGHBOUR: 'it returns false'. Refute it at one input. -/
def topCableUnwoundWrong : ChangeSpec := { name := "topCableUnwound", fn := fun _ => fun
  | [d1, d2, d3] => { results := [.lit (.bool false)], args := [d1, d2, d3] }
  | _ => none }
def TopCableUnwoundWrongFalsely : Prop := topCableUnwoundRow.holds Try.pinned (OpenSpec.ofChange topCableUnwoundWrong)

/- THE SECOND FORM. 'bulk': how many values and letters a reading holds, each counted each time it is reached (what is shared counts as often as it is met; a slice's spare places count too). A statement '..UptoSaid' is the law's where the arguments, and the package variables that the reading takes, are together of bulk at most 1048576: NARROWER than '..Said'. Prove '..Said' where nothing that the law and all that it calls make is longer than what came in: it says more and counts as full. Else prove '..UptoSaid'. A law counts once. -/
mutual
def uptoBulk {H : Type} : DataW H → Nat
  | .lit (.string bytes) => bytes.length + 1
  | .lit _ => 1
  | .nil => 1
  | .ptr d => uptoBulk d + 1
  | .slice elems spare => uptoBulkAll elems + uptoBulkAll spare + 1
  | .agg parts => uptoBulkAll parts + 1
  | .iface _ d => uptoBulk d + 1
  | .map entries => uptoBulkEntries entries + 1
  | .held _ => 1
def uptoBulkAll {H : Type} : List (DataW H) → Nat
  | [] => 0
  | d :: r => uptoBulk d + uptoBulkAll r
def uptoBulkEntries {H : Type} : List (Lit × DataW H) → Nat
  | [] => 0
  | x :: r => uptoBulkEntry x + uptoBulkEntries r
def uptoBulkEntry {H : Type} : Lit × DataW H → Nat
  | (.string bytes, d) => bytes.length + uptoBulk d + 1
  | (_, d) => uptoBulk d + 1
 end
def uptoSmall : (H : Type) → List (DataW H) → Bool := fun _ ds => decide (uptoBulkAll ds ≤ 1048576)
def OpenSpec.upto (s : _root_.Go.ChangeSpec) : _root_.Go.OpenSpec := { _root_.Go.OpenSpec.ofChange s with cond := some uptoSmall }

/-- 'moonpoollaw01.CableShapes', WHERE WHAT IT READS IS OF BULK AT MOST 1048576: true; the input reads as it did. -/
def cableShapesUptoRow : OpenClaim := { program := "ytnodlldceojoaaa", sum := "47ef332c28898a4eb5a19e19083030efca76a3e62526c30e99cd26e0351ac872", func := "moonpool/moonpoollaw01.CableShapes", spec := "cableShapes", unfollowed := true, recurses := true, plainKeys := false, apart := false, narrowed := true }
def CableShapesUptoSaid : Prop := cableShapesUptoRow.holds Try.pinned (OpenSpec.upto cableShapesSpec)

/-- 'moonpoollaw01.CableBoxes', WHERE WHAT IT READS IS OF BULK AT MOST 1048576: true; the input reads as it did. -/
def cableBoxesUptoRow : OpenClaim := { program := "ytnodlldceojoaaa", sum := "47ef332c28898a4eb5a19e19083030efca76a3e62526c30e99cd26e0351ac872", func := "moonpool/moonpoollaw01.CableBoxes", spec := "cableBoxes", unfollowed := true, recurses := true, plainKeys := false, apart := false, narrowed := true }
def CableBoxesUptoSaid : Prop := cableBoxesUptoRow.holds Try.pinned (OpenSpec.upto cableBoxesSpec)

/-- 'moonpoollaw01.CableEvery', WHERE WHAT IT READS IS OF BULK AT MOST 1048576: true; the input reads as it did. -/
def cableEveryUptoRow : OpenClaim := { program := "ytnodlldceojoaaa", sum := "47ef332c28898a4eb5a19e19083030efca76a3e62526c30e99cd26e0351ac872", func := "moonpool/moonpoollaw01.CableEvery", spec := "cableEvery", unfollowed := true, recurses := true, plainKeys := false, apart := false, narrowed := true }
def CableEveryUptoSaid : Prop := cableEveryUptoRow.holds Try.pinned (OpenSpec.upto cableEverySpec)

/-- 'moonpoollaw01.CableWound', WHERE WHAT IT READS IS OF BULK AT MOST 1048576: true; the input reads as it did. -/
def cableWoundUptoRow : OpenClaim := { program := "ytnodlldceojoaaa", sum := "47ef332c28898a4eb5a19e19083030efca76a3e62526c30e99cd26e0351ac872", func := "moonpool/moonpoollaw01.CableWound", spec := "cableWound", unfollowed := true, recurses := true, plainKeys := false, apart := false, narrowed := true }
def CableWoundUptoSaid : Prop := cableWoundUptoRow.holds Try.pinned (OpenSpec.upto cableWoundSpec)

/-- 'moonpoollaw02.WinchLoops', WHERE WHAT IT READS IS OF BULK AT MOST 1048576: true; the input reads as it did. -/
def winchLoopsUptoRow : OpenClaim := { program := "ytnodlldceojoaaa", sum := "47ef332c28898a4eb5a19e19083030efca76a3e62526c30e99cd26e0351ac872", func := "moonpool/moonpoollaw02.WinchLoops", spec := "winchLoops", unfollowed := true, recurses := true, plainKeys := false, apart := false, narrowed := true }
def WinchLoopsUptoSaid : Prop := winchLoopsUptoRow.holds Try.pinned (OpenSpec.upto winchLoopsSpec)

/-- 'moonpoollaw02.WinchLatches', WHERE WHAT IT READS IS OF BULK AT MOST 1048576: true; the input reads as it did. -/
def winchLatchesUptoRow : OpenClaim := { program := "ytnodlldceojoaaa", sum := "47ef332c28898a4eb5a19e19083030efca76a3e62526c30e99cd26e0351ac872", func := "moonpool/moonpoollaw02.WinchLatches", spec := "winchLatches", unfollowed := true, recurses := true, plainKeys := false, apart := false, narrowed := true }
def WinchLatchesUptoSaid : Prop := winchLatchesUptoRow.holds Try.pinned (OpenSpec.upto winchLatchesSpec)

/-- 'moonpoollaw02.WinchUnloaded', WHERE WHAT IT READS IS OF BULK AT MOST 1048576: true; the input reads as it did. -/
def winchUnloadedUptoRow : OpenClaim := { program := "ytnodlldceojoaaa", sum := "47ef332c28898a4eb5a19e19083030efca76a3e62526c30e99cd26e0351ac872", func := "moonpool/moonpoollaw02.WinchUnloaded", spec := "winchUnloaded", unfollowed := true, recurses := true, plainKeys := false, apart := false, narrowed := true }
def WinchUnloadedUptoSaid : Prop := winchUnloadedUptoRow.holds Try.pinned (OpenSpec.upto winchUnloadedSpec)

/-- 'moonpooltop.TopCableUnwound', WHERE WHAT IT READS IS OF BULK AT MOST 1048576: true; the input reads as it did. -/
def topCableUnwoundUptoRow : OpenClaim := { program := "ytnodlldceojoaaa", sum := "47ef332c28898a4eb5a19e19083030efca76a3e62526c30e99cd26e0351ac872", func := "moonpool/moonpooltop.TopCableUnwound", spec := "topCableUnwound", unfollowed := true, recurses := true, plainKeys := false, apart := false, narrowed := true }
def TopCableUnwoundUptoSaid : Prop := topCableUnwoundUptoRow.holds Try.pinned (OpenSpec.upto topCableUnwoundSpec)

end Rows
end Go.Proofs.Ytnodlldceojoaaa
