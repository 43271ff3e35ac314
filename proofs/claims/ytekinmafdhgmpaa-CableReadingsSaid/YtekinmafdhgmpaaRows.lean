/-
  No cell of these rows narrows 'for every input' (looked for: loops, veiled, ifaces, maps, wideKeys, modest, calm, conditions, laid).
  DERIVED. THE GIVEN ROWS OF THIS SEAT. 6 by the template 'for every input the law returns true; each argument reads behind the call as it read before'; 0 by the template 'total and deterministic' (their statements: YtekinmafdhgmpaaTotals.lean).
  GIVEN WITH THE SEED: the statements are not yours to turn. If you find one false, say at which input.
  Laid BY PROGRAM, IN A SANDBOX (cutbox-rows.mjs): the forced cells as the released guide's own fill.sh prints them over the translation a969696ec91b3b7f… (all of the seat's roots in one cut). By AI agents, Wed Nov 11 2026. No macro, syntax, notation, axiom, sorry.
-/
import Derived.Test.YtekinmafdhgmpaaChecked
import GoSem.Claim
import GoSem.ClaimJoined
import GoSem.ClaimMapViews
import Derived.JoinedTies
import Derived.KernelRfl
namespace Go.Proofs.Ytekinmafdhgmpaa
/- THE CELL 'sum', in the pinned program and in every row, IS THE sha256 OF THE DUMP (.gsa) THAT YtekinmafdhgmpaaProg.lean LOADS. Nothing in Lean hashes anything: it is a label: what it is worth is what the hold of that sum in a sandbox is worth. -/
noncomputable def Try.pinned : Pinned := { name := "ytekinmafdhgmpaa", sum := "a969696ec91b3b7f11c9ea3da57aa354b4853d843b0ed4a2c353ca078c606771", checked := Try.checked }
namespace Rows
def none {H : Type} : Left H := { results := [], args := [] }

/-- 'moonpoollaw01.CableReadings': WHATEVER THE INPUT: true; the input reads as it did. -/
def cableReadingsSpec : ChangeSpec := { name := "cableReadings", fn := fun _ => fun
  | [d1, d2, d3] => { results := [.lit (.bool true)], args := [d1, d2, d3] }
  | _ => none }
def cableReadingsRow : OpenClaim := { program := "ytekinmafdhgmpaa", sum := "a969696ec91b3b7f11c9ea3da57aa354b4853d843b0ed4a2c353ca078c606771", func := "moonpool/moonpoollaw01.CableReadings", spec := "cableReadings", unfollowed := true, recurses := true, plainKeys := false, apart := false }
def CableReadingsSaid : Prop := cableReadingsRow.holds Try.pinned (OpenSpec.ofChange cableReadingsSpec)

/-- ITS FALSE NEIGHBOUR: 'it returns false'. Refute it at one input. -/
def cableReadingsWrong : ChangeSpec := { name := "cableReadings", fn := fun _ => fun
  | [d1, d2, d3] => { results := [.lit (.bool false)], args := [d1, d2, d3] }
  | _ => none }
def CableReadingsWrongFalsely : Prop := cableReadingsRow.holds Try.pinned (OpenSpec.ofChange cableReadingsWrong)

/-- 'moonpoollaw01.CableAgreed': WHATEVER THE INPUT: true; the input reads as it did. -/
def cableAgreedSpec : ChangeSpec := { name := "cableAgreed", fn := fun _ => fun
  | [d1, d2, d3] => { results := [.lit (.bool true)], args := [d1, d2, d3] }
  | _ => none }
def cableAgreedRow : OpenClaim := { program := "ytekinmafdhgmpaa", sum := "a969696ec91b3b7f11c9ea3da57aa354b4853d843b0ed4a2c353ca078c606771", func := "moonpool/moonpoollaw01.CableAgreed", spec := "cableAgreed", unfollowed := true, recurses := true, plainKeys := false, apart := false }
def CableAgreedSaid : Prop := cableAgreedRow.holds Try.pinned (OpenSpec.ofChange cableAgreedSpec)

/-- ITS FALSE NEIGHBOUR: 'it returns false'. Refute it at one input. -/
def cableAgreedWrong : ChangeSpec := { name := "cableAgreed", fn := fun _ => fun
  | [d1, d2, d3] => { results := [.lit (.bool false)], args := [d1, d2, d3] }
  | _ => none }
def CableAgreedWrongFalsely : Prop := cableAgreedRow.holds Try.pinned (OpenSpec.ofChange cableAgreedWrong)

/-- 'moonpoollaw01.CableWound': WHATEVER THE INPUT: true; the input reads as it did. -/
def cableWoundSpec : ChangeSpec := { name := "cableWound", fn := fun _ => fun
  | [d1, d2, d3] => { results := [.lit (.bool true)], args := [d1, d2, d3] }
  | _ => none }
def cableWoundRow : OpenClaim := { program := "ytekinmafdhgmpaa", sum := "a969696ec91b3b7f11c9ea3da57aa354b4853d843b0ed4a2c353ca078c606771", func := "moonpool/moonpoollaw01.CableWound", spec := "cableWound", unfollowed := true, recurses := true, plainKeys := false, apart := false }
def CableWoundSaid : Prop := cableWoundRow.holds Try.pinned (OpenSpec.ofChange cableWoundSpec)

/-- ITS FALSE NEIGHBOUR: 'it returns false'. Refute it at one input. -/
def cableWoundWrong : ChangeSpec := { name := "cableWound", fn := fun _ => fun
  | [d1, d2, d3] => { results := [.lit (.bool false)], args := [d1, d2, d3] }
  | _ => none }
def CableWoundWrongFalsely : Prop := cableWoundRow.holds Try.pinned (OpenSpec.ofChange cableWoundWrong)

/-- 'moonpoollaw02.WinchLoops': WHATEVER THE INPUT: true; the input reads as it did. -/
def winchLoopsSpec : ChangeSpec := { name := "winchLoops", fn := fun _ => fun
  | [d1, d2, d3] => { results := [.lit (.bool true)], args := [d1, d2, d3] }
  | _ => none }
def winchLoopsRow : OpenClaim := { program := "ytekinmafdhgmpaa", sum := "a969696ec91b3b7f11c9ea3da57aa354b4853d843b0ed4a2c353ca078c606771", func := "moonpool/moonpoollaw02.WinchLoops", spec := "winchLoops", unfollowed := true, recurses := true, plainKeys := false, apart := false }
def WinchLoopsSaid : Prop := winchLoopsRow.holds Try.pinned (OpenSpec.ofChange winchLoopsSpec)

/-- ITS FALSE NEIGHBOUR: 'it returns false'. Refute it at one input. -/
def winchLoopsWrong : ChangeSpec := { name := "winchLoops", fn := fun _ => fun
  | [d1, d2, d3] => { results := [.lit (.bool false)], args := [d1, d2, d3] }
  | _ => none }
def WinchLoopsWrongFalsely : Prop := winchLoopsRow.holds Try.pinned (OpenSpec.ofChange winchLoopsWrong)

/-- 'moonpoollaw02.WinchLatches': WHATEVER THE INPUT: true; the input reads as it did. -/
def winchLatchesSpec : ChangeSpec := { name := "winchLatches", fn := fun _ => fun
  | [d1, d2, d3] => { results := [.lit (.bool true)], args := [d1, d2, d3] }
  | _ => none }
def winchLatchesRow : OpenClaim := { program := "ytekinmafdhgmpaa", sum := "a969696ec91b3b7f11c9ea3da57aa354b4853d843b0ed4a2c353ca078c606771", func := "moonpool/moonpoollaw02.WinchLatches", spec := "winchLatches", unfollowed := true, recurses := true, plainKeys := false, apart := false }
def WinchLatchesSaid : Prop := winchLatchesRow.holds Try.pinned (OpenSpec.ofChange winchLatchesSpec)

/-- ITS FALSE NEIGHBOUR: 'it returns false'. Refute it at one input. -/
def winchLatchesWrong : ChangeSpec := { name := "winchLatches", fn := fun _ => fun
  | [d1, d2, d3] => { results := [.lit (.bool false)], args := [d1, d2, d3] }
  | _ => none }
def WinchLatchesWrongFalsely : Prop := winchLatchesRow.holds Try.pinned (OpenSpec.ofChange winchLatchesWrong)

/-- 'moonpoollaw02.WinchUnloaded': WHATEVER THE INPUT: true; the input reads as it did. -/
def winchUnloadedSpec : ChangeSpec := { name := "winchUnloaded", fn := fun _ => fun
  | [d1, d2, d3] => { results := [.lit (.bool true)], args := [d1, d2, d3] }
  | _ => none }
def winchUnloadedRow : OpenClaim := { program := "ytekinmafdhgmpaa", sum := "a969696ec91b3b7f11c9ea3da57aa354b4853d843b0ed4a2c353ca078c606771", func := "moonpool/moonpoollaw02.WinchUnloaded", spec := "winchUnloaded", unfollowed := true, recurses := true, plainKeys := false, apart := false }
def WinchUnloadedSaid : Prop := winchUnloadedRow.holds Try.pinned (OpenSpec.ofChange winchUnloadedSpec)

/-- ITS FALSE NEIGHBOUR: 'it returns false'. Refute it at one input. -/
def winchUnloadedWrong : ChangeSpec := { name := "winchUnloaded", fn := fun _ => fun
  | [d1, d2, d3] => { results := [.lit (.bool false)], args := [d1, d2, d3] }
  | _ => none }
def WinchUnloadedWrongFalsely : Prop := winchUnloadedRow.holds Try.pinned (OpenSpec.ofChange winchUnloadedWrong)

/- THE SECOND FORM. 'bulk': how many values and letters a reading holds, each counted each time it is reached (what is shared counts as often as it is met; a slice's spare places count too). A statement '..UptoSaid' is the law's where the arguments, and the package variables that the reading takes, are together of bulk at most 1048576: NARROWER than '..Said'. Prove '..Said' where nothing that the law and all that it calls make is longer than what came in: it says more and counts as full. Else prove '..UptoSaid'. A law counts once. -/
mutual
def uptoBulk {H : Type} : DataW H → Nat
  | .lit (.string bytes) => bytes.length + 1
  | .lit _ => 1
  | .nil => 1
  | .ptr d => uptoBulk d + 1
  | .slice elems spare => uptoBulkAll elems + uptoBulkAll spare + 1
  | .agg parts => uptoBulkAll parts + 1
  | .iface _ d => uptoBulk d + 1
  | .map entries => uptoBulkEntries entries + 1
  | .held _ => 1
def uptoBulkAll {H : Type} : List (DataW H) → Nat
  | [] => 0
  | d :: r => uptoBulk d + uptoBulkAll r
def uptoBulkEntries {H : Type} : List (Lit × DataW H) → Nat
  | [] => 0
  | x :: r => uptoBulkEntry x + uptoBulkEntries r
def uptoBulkEntry {H : Type} : Lit × DataW H → Nat
  | (.string bytes, d) => bytes.length + uptoBulk d + 1
  | (_, d) => uptoBulk d + 1
 end
def uptoSmall : (H : Type) → List (DataW H) → Bool := fun _ ds => decide (uptoBulkAll ds ≤ 1048576)
def OpenSpec.upto (s : _root_.Go.ChangeSpec) : _root_.Go.OpenSpec := { _root_.Go.OpenSpec.ofChange s with cond := some uptoSmall }

/-- 'moonpoollaw01.CableReadings', WHERE WHAT IT READS IS OF BULK AT MOST 1048576: true; the input reads as it did. -/
def cableReadingsUptoRow : OpenClaim := { program := "ytekinmafdhgmpaa", sum := "a969696ec91b3b7f11c9ea3da57aa354b4853d843b0ed4a2c353ca078c606771", func := "moonpool/moonpoollaw01.CableReadings", spec := "cableReadings", unfollowed := true, recurses := true, plainKeys := false, apart := false, narrowed := true }
def CableReadingsUptoSaid : Prop := cableReadingsUptoRow.holds Try.pinned (OpenSpec.upto cableReadingsSpec)

/-- 'moonpoollaw01.CableAgreed', WHERE WHAT IT READS IS OF BULK AT MOST 1048576: true; the input reads as it did. -/
def cableAgreedUptoRow : OpenClaim := { program := "ytekinmafdhgmpaa", sum := "a969696ec91b3b7f11c9ea3da57aa354b4853d843b0ed4a2c353ca078c606771", func := "moonpool/moonpoollaw01.CableAgreed", spec := "cableAgreed", unfollowed := true, recurses := true, plainKeys := false, apart := false, narrowed := true }
def CableAgreedUptoSaid : Prop := cableAgreedUptoRow.holds Try.pinned (OpenSpec.upto cableAgreedSpec)

/-- 'moonpoollaw01.CableWound', WHERE WHAT IT READS IS OF BULK AT MOST 1048576: true; the input reads as it did. -/
def cableWoundUptoRow : OpenClaim := { program := "ytekinmafdhgmpaa", sum := "a969696ec91b3b7f11c9ea3da57aa354b4853d843b0ed4a2c353ca078c606771", func := "moonpool/moonpoollaw01.CableWound", spec := "cableWound", unfollowed := true, recurses := true, plainKeys := false, apart := false, narrowed := true }
def CableWoundUptoSaid : Prop := cableWoundUptoRow.holds Try.pinned (OpenSpec.upto cableWoundSpec)

/-- 'moonpoollaw02.WinchLoops', WHERE WHAT IT READS IS OF BULK AT MOST 1048576: true; the input reads as it did. -/
def winchLoopsUptoRow : OpenClaim := { program := "ytekinmafdhgmpaa", sum := "a969696ec91b3b7f11c9ea3da57aa354b4853d843b0ed4a2c353ca078c606771", func := "moonpool/moonpoollaw02.WinchLoops", spec := "winchLoops", unfollowed := true, recurses := true, plainKeys := false, apart := false, narrowed := true }
def WinchLoopsUptoSaid : Prop := winchLoopsUptoRow.holds Try.pinned (OpenSpec.upto winchLoopsSpec)

/-- 'moonpoollaw02.WinchLatches', WHERE WHAT IT READS IS OF BULK AT MOST 1048576: true; the input reads as it did. -/
def winchLatchesUptoRow : OpenClaim := { program := "ytekinmafdhgmpaa", sum := "a969696ec91b3b7f11c9ea3da57aa354b4853d843b0ed4a2c353ca078c606771", func := "moonpool/moonpoollaw02.WinchLatches", spec := "winchLatches", unfollowed := true, recurses := true, plainKeys := false, apart := false, narrowed := true }
def WinchLatchesUptoSaid : Prop := winchLatchesUptoRow.holds Try.pinned (OpenSpec.upto winchLatchesSpec)

/-- 'moonpoollaw02.WinchUnloaded', WHERE WHAT IT READS IS OF BULK AT MOST 1048576: true; the input reads as it did. -/
def winchUnloadedUptoRow : OpenClaim := { program := "ytekinmafdhgmpaa", sum := "a969696ec91b3b7f11c9ea3da57aa354b4853d843b0ed4a2c353ca078c606771", func := "moonpool/moonpoollaw02.WinchUnloaded", spec := "winchUnloaded", unfollowed := true, recurses := true, plainKeys := false, apart := false, narrowed := true }
def WinchUnloadedUptoSaid : Prop := winchUnloadedUptoRow.holds Try.pinned (OpenSpec.upto winchUnloadedSpec)

end Rows
end Go.Proofs.Ytekinmafdhgmpaa
