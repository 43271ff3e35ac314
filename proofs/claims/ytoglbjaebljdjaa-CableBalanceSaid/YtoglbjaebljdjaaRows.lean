/-
  No cell of these rows narrows 'for every input' (looked for: loops, veiled, ifaces, maps, wideKeys, modest, calm, conditions, laid).
  DERIVED. THE GIVEN ROWS OF THIS SEAT. 6 by the template 'for every input the law returns true; each argument reads behind the call as it read before'; 0 by the template 'total and deterministic' (their statements: YtoglbjaebljdjaaTotals.lean).
  GIVEN WITH THE SEED: the statements are not yours to turn. If you find one false, say at which input.
  Laid BY PROGRAM, IN A SANDBOX (cutbox-rows.mjs): the forced cells as the released guide's own fill.sh prints them over the translation 392833035b04b88d… (all of the seat's roots in one cut). By AI agents, Wed Nov 11 2026. No macro, syntax, notation, axiom, sorry.
-/
import Derived.Test.YtoglbjaebljdjaaChecked
import GoSem.Claim
import GoSem.ClaimJoined
import GoSem.ClaimMapViews
import Derived.JoinedTies
import Derived.KernelRfl
namespace Go.Proofs.Ytoglbjaebljdjaa
/- THE CELL 'sum', in the pinned program and in every row, IS THE sha256 OF THE DUMP (.gsa) THAT YtoglbjaebljdjaaProg.lean LOADS. Nothing in Lean hashes anything: it is a label: what it is worth is what the hold of that sum in a sandbox is worth. -/
noncomputable def Try.pinned : Pinned := { name := "ytoglbjaebljdjaa", sum := "392833035b04b88dc0c1ef7fbbe88becc3fe033ca12952327a626ecc95ade683", checked := Try.checked }
namespace Rows
def none {H : Type} : Left H := { results := [], args := [] }

/-- 'moonpoollaw01.CableLines': WHATEVER THE INPUT: true; the input reads as it did. -/
def cableLinesSpec : ChangeSpec := { name := "cableLines", fn := fun _ => fun
  | [d1, d2] => { results := [.lit (.bool true)], args := [d1, d2] }
  | _ => none }
def cableLinesRow : OpenClaim := { program := "ytoglbjaebljdjaa", sum := "392833035b04b88dc0c1ef7fbbe88becc3fe033ca12952327a626ecc95ade683", func := "moonpool/moonpoollaw01.CableLines", spec := "cableLines", unfollowed := true, recurses := true, apart := false }
def CableLinesSaid : Prop := cableLinesRow.holds Try.pinned (OpenSpec.ofChange cableLinesSpec)

/-- ITS FALSE NEIGHBOUR: 'it returns false'. Refute it at one input. -/
def cableLinesWrong : ChangeSpec := { name := "cableLines", fn := fun _ => fun
  | [d1, d2] => { results := [.lit (.bool false)], args := [d1, d2] }
  | _ => none }
def CableLinesWrongFalsely : Prop := cableLinesRow.holds Try.pinned (OpenSpec.ofChange cableLinesWrong)

/-- 'moonpoollaw01.CableTensions': WHATEVER THE INPUT: true; the input reads as it did. -/
def cableTensionsSpec : ChangeSpec := { name := "cableTensions", fn := fun _ => fun
  | [d1, d2, d3] => { results := [.lit (.bool true)], args := [d1, d2, d3] }
  | _ => none }
def cableTensionsRow : OpenClaim := { program := "ytoglbjaebljdjaa", sum := "392833035b04b88dc0c1ef7fbbe88becc3fe033ca12952327a626ecc95ade683", func := "moonpool/moonpoollaw01.CableTensions", spec := "cableTensions", unfollowed := true, recurses := true, apart := false }
def CableTensionsSaid : Prop := cableTensionsRow.holds Try.pinned (OpenSpec.ofChange cableTensionsSpec)

/-- ITS FALSE NEIGHBOUR: 'it returns false'. Refute it at one input. -/
def cableTensionsWrong : ChangeSpec := { name := "cableTensions", fn := fun _ => fun
  | [d1, d2, d3] => { results := [.lit (.bool false)], args := [d1, d2, d3] }
  | _ => none }
def CableTensionsWrongFalsely : Prop := cableTensionsRow.holds Try.pinned (OpenSpec.ofChange cableTensionsWrong)

/-- 'moonpoollaw01.CableBalance': WHATEVER THE INPUT: true; the input reads as it did. -/
def cableBalanceSpec : ChangeSpec := { name := "cableBalance", fn := fun _ => fun
  | [d1, d2, d3] => { results := [.lit (.bool true)], args := [d1, d2, d3] }
  | _ => none }
def cableBalanceRow : OpenClaim := { program := "ytoglbjaebljdjaa", sum := "392833035b04b88dc0c1ef7fbbe88becc3fe033ca12952327a626ecc95ade683", func := "moonpool/moonpoollaw01.CableBalance", spec := "cableBalance", unfollowed := true, recurses := true, apart := false }
def CableBalanceSaid : Prop := cableBalanceRow.holds Try.pinned (OpenSpec.ofChange cableBalanceSpec)

/-- ITS FALSE NEIGHBOUR: 'it returns false'. Refute it at one input. -/
def cableBalanceWrong : ChangeSpec := { name := "cableBalance", fn := fun _ => fun
  | [d1, d2, d3] => { results := [.lit (.bool false)], args := [d1, d2, d3] }
  | _ => none }
def CableBalanceWrongFalsely : Prop := cableBalanceRow.holds Try.pinned (OpenSpec.ofChange cableBalanceWrong)

/-- 'moonpoollaw01.CableShapes': WHATEVER THE INPUT: true; the input reads as it did. -/
def cableShapesSpec : ChangeSpec := { name := "cableShapes", fn := fun _ => fun
  | [d1, d2] => { results := [.lit (.bool true)], args := [d1, d2] }
  | _ => none }
def cableShapesRow : OpenClaim := { program := "ytoglbjaebljdjaa", sum := "392833035b04b88dc0c1ef7fbbe88becc3fe033ca12952327a626ecc95ade683", func := "moonpool/moonpoollaw01.CableShapes", spec := "cableShapes", unfollowed := true, recurses := true, apart := false }
def CableShapesSaid : Prop := cableShapesRow.holds Try.pinned (OpenSpec.ofChange cableShapesSpec)

/-- ITS FALSE NEIGHBOUR: 'it returns false'. Refute it at one input. -/
def cableShapesWrong : ChangeSpec := { name := "cableShapes", fn := fun _ => fun
  | [d1, d2] => { results := [.lit (.bool false)], args := [d1, d2] }
  | _ => none }
def CableShapesWrongFalsely : Prop := cableShapesRow.holds Try.pinned (OpenSpec.ofChange cableShapesWrong)

/-- 'moonpoollaw01.CableBroken': WHATEVER THE INPUT: true; the input reads as it did. -/
def cableBrokenSpec : ChangeSpec := { name := "cableBroken", fn := fun _ => fun
  | [d1, d2, d3] => { results := [.lit (.bool true)], args := [d1, d2, d3] }
  | _ => none }
def cableBrokenRow : OpenClaim := { program := "ytoglbjaebljdjaa", sum := "392833035b04b88dc0c1ef7fbbe88becc3fe033ca12952327a626ecc95ade683", func := "moonpool/moonpoollaw01.CableBroken", spec := "cableBroken", unfollowed := true, recurses := true, apart := false }
def CableBrokenSaid : Prop := cableBrokenRow.holds Try.pinned (OpenSpec.ofChange cableBrokenSpec)

/-- ITS FALSE NEIGHBOUR: 'it returns false'. Refute it at one input. -/
def cableBrokenWrong : ChangeSpec := { name := "cableBroken", fn := fun _ => fun
  | [d1, d2, d3] => { results := [.lit (.bool false)], args := [d1, d2, d3] }
  | _ => none }
def CableBrokenWrongFalsely : Prop := cableBrokenRow.holds Try.pinned (OpenSpec.ofChange cableBrokenWrong)

/-- 'moonpoollaw01.CableWound': WHATEVER THE INPUT: true; the input reads as it did. -/
def cableWoundSpec : ChangeSpec := { name := "cableWound", fn := fun _ => fun
  | [d1, d2, d3] => { results := [.lit (.bool true)], args := [d1, d2, d3] }
  | _ => none }
def cableWoundRow : OpenClaim := { program := "ytoglbjaebljdjaa", sum := "392833035b04b88dc0c1ef7fbbe88becc3fe033ca12952327a626ecc95ade683", func := "moonpool/moonpoollaw01.CableWound", spec := "cableWound", unfollowed := true, recurses := true, apart := false }
def CableWoundSaid : Prop := cableWoundRow.holds Try.pinned (OpenSpec.ofChange cableWoundSpec)

/-- ITS FALSE NEIGHBOUR: 'it returns false'. Refute it at one input. -/
def cableWoundWrong : ChangeSpec := { name := "cableWound", fn := fun _ => fun
  | [d1, d2, d3] => { results := [.lit (.bool false)], args := [d1, d2, d3] }
  | _ => none }
def CableWoundWrongFalsely : Prop := cableWoundRow.holds Try.pinned (OpenSpec.ofChange cableWoundWrong)

/- THE SECOND FORM. 'bulk': how many values and letters a reading holds, each counted each time it is reached (what is shared counts as often as it is met; a slice's spare places count too). A statement '..UptoSaid' is the law's where the arguments, and the package variables that the reading takes, are together of bulk at most 1048576: NARROWER than '..Said'. Prove '..Said' where nothing that the law and all that it calls make is longer than what came in: it says more and counts as full. Else prove '..UptoSaid'. A law counts once. -/
mutual
def uptoBulk {H : Type} : DataW H → Nat
  | .lit (.string bytes) => bytes.length + 1
  | .lit _ => 1
  | .nil => 1
  | .ptr d => uptoBulk d + 1
  | .slice elems spare => uptoBulkAll elems + uptoBulkAll spare + 1
  | .agg parts => uptoBulkAll parts + 1
  | .iface _ d => uptoBulk d + 1
  | .map entries => uptoBulkEntries entries + 1
  | .held _ => 1
def uptoBulkAll {H : Type} : List (DataW H) → Nat
  | [] => 0
  | d :: r => uptoBulk d + uptoBulkAll r
def uptoBulkEntries {H : Type} : List (Lit × DataW H) → Nat
  | [] => 0
  | x :: r => uptoBulkEntry x + uptoBulkEntries r
def uptoBulkEntry {H : Type} : Lit × DataW H → Nat
  | (.string bytes, d) => bytes.length + uptoBulk d + 1
  | (_, d) => uptoBulk d + 1
 end
def uptoSmall : (H : Type) → List (DataW H) → Bool := fun _ ds => decide (uptoBulkAll ds ≤ 1048576)
def OpenSpec.upto (s : _root_.Go.ChangeSpec) : _root_.Go.OpenSpec := { _root_.Go.OpenSpec.ofChange s with cond := some uptoSmall }

/-- 'moonpoollaw01.CableLines', WHERE WHAT IT READS IS OF BULK AT MOST 1048576: true; the input reads as it did. -/
def cableLinesUptoRow : OpenClaim := { program := "ytoglbjaebljdjaa", sum := "392833035b04b88dc0c1ef7fbbe88becc3fe033ca12952327a626ecc95ade683", func := "moonpool/moonpoollaw01.CableLines", spec := "cableLines", unfollowed := true, recurses := true, apart := false, narrowed := true }
def CableLinesUptoSaid : Prop := cableLinesUptoRow.holds Try.pinned (OpenSpec.upto cableLinesSpec)

/-- 'moonpoollaw01.CableTensions', WHERE WHAT IT READS IS OF BULK AT MOST 1048576: true; the input reads as it did. -/
def cableTensionsUptoRow : OpenClaim := { program := "ytoglbjaebljdjaa", sum := "392833035b04b88dc0c1ef7fbbe88becc3fe033ca12952327a626ecc95ade683", func := "moonpool/moonpoollaw01.CableTensions", spec := "cableTensions", unfollowed := true, recurses := true, apart := false, narrowed := true }
def CableTensionsUptoSaid : Prop := cableTensionsUptoRow.holds Try.pinned (OpenSpec.upto cableTensionsSpec)

/-- 'moonpoollaw01.CableBalance', WHERE WHAT IT READS IS OF BULK AT MOST 1048576: true; the input reads as it did. -/
def cableBalanceUptoRow : OpenClaim := { program := "ytoglbjaebljdjaa", sum := "392833035b04b88dc0c1ef7fbbe88becc3fe033ca12952327a626ecc95ade683", func := "moonpool/moonpoollaw01.CableBalance", spec := "cableBalance", unfollowed := true, recurses := true, apart := false, narrowed := true }
def CableBalanceUptoSaid : Prop := cableBalanceUptoRow.holds Try.pinned (OpenSpec.upto cableBalanceSpec)

/-- 'moonpoollaw01.CableShapes', WHERE WHAT IT READS IS OF BULK AT MOST 1048576: true; the input reads as it did. -/
def cableShapesUptoRow : OpenClaim := { program := "ytoglbjaebljdjaa", sum := "392833035b04b88dc0c1ef7fbbe88becc3fe033ca12952327a626ecc95ade683", func := "moonpool/moonpoollaw01.CableShapes", spec := "cableShapes", unfollowed := true, recurses := true, apart := false, narrowed := true }
def CableShapesUptoSaid : Prop := cableShapesUptoRow.holds Try.pinned (OpenSpec.upto cableShapesSpec)

/-- 'moonpoollaw01.CableBroken', WHERE WHAT IT READS IS OF BULK AT MOST 1048576: true; the input reads as it did. -/
def cableBrokenUptoRow : OpenClaim := { program := "ytoglbjaebljdjaa", sum := "392833035b04b88dc0c1ef7fbbe88becc3fe033ca12952327a626ecc95ade683", func := "moonpool/moonpoollaw01.CableBroken", spec := "cableBroken", unfollowed := true, recurses := true, apart := false, narrowed := true }
def CableBrokenUptoSaid : Prop := cableBrokenUptoRow.holds Try.pinned (OpenSpec.upto cableBrokenSpec)

/-- 'moonpoollaw01.CableWound', WHERE WHAT IT READS IS OF BULK AT MOST 1048576: true; the input reads as it did. -/
def cableWoundUptoRow : OpenClaim := { program := "ytoglbjaebljdjaa", sum := "392833035b04b88dc0c1ef7fbbe88becc3fe033ca12952327a626ecc95ade683", func := "moonpool/moonpoollaw01.CableWound", spec := "cableWound", unfollowed := true, recurses := true, apart := false, narrowed := true }
def CableWoundUptoSaid : Prop := cableWoundUptoRow.holds Try.pinned (OpenSpec.upto cableWoundSpec)

end Rows
end Go.Proofs.Ytoglbjaebljdjaa
