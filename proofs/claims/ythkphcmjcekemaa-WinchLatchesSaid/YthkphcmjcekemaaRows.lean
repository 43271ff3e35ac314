/-
  No cell of these rows narrows 'for every input' (looked for: loops, veiled, ifaces, maps, wideKeys, modest, calm, conditions, laid).
  DERIVED. THE GIVEN ROWS OF THIS SEAT. 8 by the template 'for every input the law returns true; each argument reads behind the call as it read before'; 0 by the template 'total and deterministic' (their statements: YthkphcmjcekemaaTotals.lean).
  GIVEN WITH THE SEED: the statements are not yours to turn. If you find one false, say at which input.
  Laid BY PROGRAM, IN A SANDBOX (cutbox-rows.mjs): the forced cells as the released guide's own fill.sh prints them over the translation b803f84aad4a1074… (all of the seat's roots in one cut). By AI agents, Wed Nov 11 2026. No macro, syntax, notation, axiom, sorry.
-/
import Derived.Test.YthkphcmjcekemaaChecked
import GoSem.Claim
import GoSem.ClaimJoined
import GoSem.ClaimMapViews
import Derived.JoinedTies
import Derived.KernelRfl
namespace Go.Proofs.Ythkphcmjcekemaa
/- THE CELL 'sum', in the pinned program and in every row, IS THE sha256 OF THE DUMP (.gsa) THAT YthkphcmjcekemaaProg.lean LOADS. Nothing in Lean hashes anything: it is a label: what it is worth is what the hold of that sum in a sandbox is worth. -/
noncomputable def Try.pinned : Pinned := { name := "ythkphcmjcekemaa", sum := "b803f84aad4a1074a6d9bbdeb97da70bfb39d754ed57c262bd39eb4b8ae57687", checked := Try.checked }
namespace Rows
def none {H : Type} : Left H := { results := [], args := [] }

/-- 'moonpoollaw01.CableAgreed': WHATEVER THE INPUT: true; the input reads as it did. -/
def cableAgreedSpec : ChangeSpec := { name := "cableAgreed", fn := fun _ => fun
  | [d1, d2, d3] => { results := [.lit (.bool true)], args := [d1, d2, d3] }
  | _ => none }
def cableAgreedRow : OpenClaim := { program := "ythkphcmjcekemaa", sum := "b803f84aad4a1074a6d9bbdeb97da70bfb39d754ed57c262bd39eb4b8ae57687", func := "moonpool/moonpoollaw01.CableAgreed", spec := "cableAgreed", unfollowed := true, recurses := true, plainKeys := false, apart := false }
def CableAgreedSaid : Prop := cableAgreedRow.holds Try.pinned (OpenSpec.ofChange cableAgreedSpec)

/-- ITS FALSE NEIGHBOUR: 'it returns false'. Refute it at one input. -/
def cableAgreedWrong : ChangeSpec := { name := "cableAgreed", fn := fun _ => fun
  | [d1, d2, d3] => { results := [.lit (.bool false)], args := [d1, d2, d3] }
  | _ => none }
def CableAgreedWrongFalsely : Prop := cableAgreedRow.holds Try.pinned (OpenSpec.ofChange cableAgreedWrong)

/-- 'moonpoollaw02.WinchSamples': WHATEVER THE INPUT: true; the input reads as it did. -/
def winchSamplesSpec : ChangeSpec := { name := "winchSamples", fn := fun _ => fun
  | [d1, d2] => { results := [.lit (.bool true)], args := [d1, d2] }
  | _ => none }
def winchSamplesRow : OpenClaim := { program := "ythkphcmjcekemaa", sum := "b803f84aad4a1074a6d9bbdeb97da70bfb39d754ed57c262bd39eb4b8ae57687", func := "moonpool/moonpoollaw02.WinchSamples", spec := "winchSamples", unfollowed := true, recurses := true, plainKeys := false, apart := false }
def WinchSamplesSaid : Prop := winchSamplesRow.holds Try.pinned (OpenSpec.ofChange winchSamplesSpec)

/-- ITS FALSE NEIGHBOUR: 'it returns false'. Refute it at one input. -/
def winchSamplesWrong : ChangeSpec := { name := "winchSamples", fn := fun _ => fun
  | [d1, d2] => { results := [.lit (.bool false)], args := [d1, d2] }
  | _ => none }
def WinchSamplesWrongFalsely : Prop := winchSamplesRow.holds Try.pinned (OpenSpec.ofChange winchSamplesWrong)

/-- 'moonpoollaw02.WinchNext': WHATEVER THE INPUT: true; the input reads as it did. -/
def winchNextSpec : ChangeSpec := { name := "winchNext", fn := fun _ => fun
  | [d1, d2] => { results := [.lit (.bool true)], args := [d1, d2] }
  | _ => none }
def winchNextRow : OpenClaim := { program := "ythkphcmjcekemaa", sum := "b803f84aad4a1074a6d9bbdeb97da70bfb39d754ed57c262bd39eb4b8ae57687", func := "moonpool/moonpoollaw02.WinchNext", spec := "winchNext", unfollowed := true, recurses := true, plainKeys := false, apart := false }
def WinchNextSaid : Prop := winchNextRow.holds Try.pinned (OpenSpec.ofChange winchNextSpec)

/-- ITS FALSE NEIGHBOUR: 'it returns false'. Refute it at one input. -/
def winchNextWrong : ChangeSpec := { name := "winchNext", fn := fun _ => fun
  | [d1, d2] => { results := [.lit (.bool false)], args := [d1, d2] }
  | _ => none }
def WinchNextWrongFalsely : Prop := winchNextRow.holds Try.pinned (OpenSpec.ofChange winchNextWrong)

/-- 'moonpoollaw02.WinchProfiles': WHATEVER THE INPUT: true; the input reads as it did. -/
def winchProfilesSpec : ChangeSpec := { name := "winchProfiles", fn := fun _ => fun
  | [d1, d2, d3] => { results := [.lit (.bool true)], args := [d1, d2, d3] }
  | _ => none }
def winchProfilesRow : OpenClaim := { program := "ythkphcmjcekemaa", sum := "b803f84aad4a1074a6d9bbdeb97da70bfb39d754ed57c262bd39eb4b8ae57687", func := "moonpool/moonpoollaw02.WinchProfiles", spec := "winchProfiles", unfollowed := true, recurses := true, plainKeys := false, apart := false }
def WinchProfilesSaid : Prop := winchProfilesRow.holds Try.pinned (OpenSpec.ofChange winchProfilesSpec)

/-- ITS FALSE NEIGHBOUR: 'it returns false'. Refute it at one input. -/
def winchProfilesWrong : ChangeSpec := { name := "winchProfiles", fn := fun _ => fun
  | [d1, d2, d3] => { results := [.lit (.bool false)], args := [d1, d2, d3] }
  | _ => none }
def WinchProfilesWrongFalsely : Prop := winchProfilesRow.holds Try.pinned (OpenSpec.ofChange winchProfilesWrong)

/-- 'moonpoollaw02.WinchLoops': WHATEVER THE INPUT: true; the input reads as it did. -/
def winchLoopsSpec : ChangeSpec := { name := "winchLoops", fn := fun _ => fun
  | [d1, d2, d3] => { results := [.lit (.bool true)], args := [d1, d2, d3] }
  | _ => none }
def winchLoopsRow : OpenClaim := { program := "ythkphcmjcekemaa", sum := "b803f84aad4a1074a6d9bbdeb97da70bfb39d754ed57c262bd39eb4b8ae57687", func := "moonpool/moonpoollaw02.WinchLoops", spec := "winchLoops", unfollowed := true, recurses := true, plainKeys := false, apart := false }
def WinchLoopsSaid : Prop := winchLoopsRow.holds Try.pinned (OpenSpec.ofChange winchLoopsSpec)

/-- ITS FALSE NEIGHBOUR: 'it returns false'. Refute it at one input. -/
def winchLoopsWrong : ChangeSpec := { name := "winchLoops", fn := fun _ => fun
  | [d1, d2, d3] => { results := [.lit (.bool false)], args := [d1, d2, d3] }
  | _ => none }
def WinchLoopsWrongFalsely : Prop := winchLoopsRow.holds Try.pinned (OpenSpec.ofChange winchLoopsWrong)

/-- 'moonpoollaw02.WinchWindows': WHATEVER THE INPUT: true; the input reads as it did. -/
def winchWindowsSpec : ChangeSpec := { name := "winchWindows", fn := fun _ => fun
  | [d1, d2, d3] => { results := [.lit (.bool true)], args := [d1, d2, d3] }
  | _ => none }
def winchWindowsRow : OpenClaim := { program := "ythkphcmjcekemaa", sum := "b803f84aad4a1074a6d9bbdeb97da70bfb39d754ed57c262bd39eb4b8ae57687", func := "moonpool/moonpoollaw02.WinchWindows", spec := "winchWindows", unfollowed := true, recurses := true, plainKeys := false, apart := false }
def WinchWindowsSaid : Prop := winchWindowsRow.holds Try.pinned (OpenSpec.ofChange winchWindowsSpec)

/-- ITS FALSE NEIGHBOUR: 'it returns false'. Refute it at one input. -/
def winchWindowsWrong : ChangeSpec := { name := "winchWindows", fn := fun _ => fun
  | [d1, d2, d3] => { results := [.lit (.bool false)], args := [d1, d2, d3] }
  | _ => none }
def WinchWindowsWrongFalsely : Prop := winchWindowsRow.holds Try.pinned (OpenSpec.ofChange winchWindowsWrong)

/-- 'moonpoollaw02.WinchLatches': WHATEVER THE INPUT: true; the input reads as it did. -/
def winchLatchesSpec : ChangeSpec := { name := "winchLatches", fn := fun _ => fun
  | [d1, d2, d3] => { results := [.lit (.bool true)], args := [d1, d2, d3] }
  | _ => none }
def winchLatchesRow : OpenClaim := { program := "ythkphcmjcekemaa", sum := "b803f84aad4a1074a6d9bbdeb97da70bfb39d754ed57c262bd39eb4b8ae57687", func := "moonpool/moonpoollaw02.WinchLatches", spec := "winchLatches", unfollowed := true, recurses := true, plainKeys := false, apart := false }
def WinchLatchesSaid : Prop := winchLatchesRow.holds Try.pinned (OpenSpec.ofChange winchLatchesSpec)

/-- ITS FALSE NEIGHBOUR: 'it returns false'. Refute it at one input. -/
def winchLatchesWrong : ChangeSpec := { name := "winchLatches", fn := fun _ => fun
  | [d1, d2, d3] => { results := [.lit (.bool false)], args := [d1, d2, d3] }
  | _ => none }
def WinchLatchesWrongFalsely : Prop := winchLatchesRow.holds Try.pinned (OpenSpec.ofChange winchLatchesWrong)

/-- 'moonpoollaw02.WinchUnloaded': WHATEVER THE INPUT: true; the input reads as it did. -/
def winchUnloadedSpec : ChangeSpec := { name := "winchUnloaded", fn := fun _ => fun
  | [d1, d2, d3] => { results := [.lit (.bool true)], args := [d1, d2, d3] }
  | _ => none }
def winchUnloadedRow : OpenClaim := { program := "ythkphcmjcekemaa", sum := "b803f84aad4a1074a6d9bbdeb97da70bfb39d754ed57c262bd39eb4b8ae57687", func := "moonpool/moonpoollaw02.WinchUnloaded", spec := "winchUnloaded", unfollowed := true, recurses := true, plainKeys := false, apart := false }
def WinchUnloadedSaid : Prop := winchUnloadedRow.holds Try.pinned (OpenSpec.ofChange winchUnloadedSpec)

/-- ITS FALSE NEIGHBOUR: 'it returns false'. Refute it at one input. -/
def winchUnloadedWrong : ChangeSpec := { name := "winchUnloaded", fn := fun _ => fun
  | [d1, d2, d3] => { results := [.lit (.bool false)], args := [d1, d2, d3] }
  | _ => none }
def WinchUnloadedWrongFalsely : Prop := winchUnloadedRow.holds Try.pinned (OpenSpec.ofChange winchUnloadedWrong)

/- THE SECOND FORM. 'bulk': how many values and letters a reading holds, each counted each time it is reached (what is shared counts as often as it is met; a slice's spare places count too). A statement '..UptoSaid' is the law's where the arguments, and the package variables that the reading takes, are together of bulk at most 1048576: NARROWER than '..Said'. Prove '..Said' where nothing that the law and all that it calls make is longer than what came in: it says more and counts as full. Else prove '..UptoSaid'. A law counts once. -/
mutual
def uptoBulk {H : Type} : DataW H → Nat
  | .lit (.string bytes) => bytes.length + 1
  | .lit _ => 1
  | .nil => 1
  | .ptr d => uptoBulk d + 1
  | .slice elems spare => uptoBulkAll elems + uptoBulkAll spare + 1
  | .agg parts => uptoBulkAll parts + 1
  | .iface _ d => uptoBulk d + 1
  | .map entries => uptoBulkEntries entries + 1
  | .held _ => 1
def uptoBulkAll {H : Type} : List (DataW H) → Nat
  | [] => 0
  | d :: r => uptoBulk d + uptoBulkAll r
def uptoBulkEntries {H : Type} : List (Lit × DataW H) → Nat
  | [] => 0
  | x :: r => uptoBulkEntry x + uptoBulkEntries r
def uptoBulkEntry {H : Type} : Lit × DataW H → Nat
  | (.string bytes, d) => bytes.length + uptoBulk d + 1
  | (_, d) => uptoBulk d + 1
 end
def uptoSmall : (H : Type) → List (DataW H) → Bool := fun _ ds => decide (uptoBulkAll ds ≤ 1048576)
def OpenSpec.upto (s : _root_.Go.ChangeSpec) : _root_.Go.OpenSpec := { _root_.Go.OpenSpec.ofChange s with cond := some uptoSmall }

/-- 'moonpoollaw01.CableAgreed', WHERE WHAT IT READS IS OF BULK AT MOST 1048576: true; the input reads as it did. -/
def cableAgreedUptoRow : OpenClaim := { program := "ythkphcmjcekemaa", sum := "b803f84aad4a1074a6d9bbdeb97da70bfb39d754ed57c262bd39eb4b8ae57687", func := "moonpool/moonpoollaw01.CableAgreed", spec := "cableAgreed", unfollowed := true, recurses := true, plainKeys := false, apart := false, narrowed := true }
def CableAgreedUptoSaid : Prop := cableAgreedUptoRow.holds Try.pinned (OpenSpec.upto cableAgreedSpec)

/-- 'moonpoollaw02.WinchSamples', WHERE WHAT IT READS IS OF BULK AT MOST 1048576: true; the input reads as it did. -/
def winchSamplesUptoRow : OpenClaim := { program := "ythkphcmjcekemaa", sum := "b803f84aad4a1074a6d9bbdeb97da70bfb39d754ed57c262bd39eb4b8ae57687", func := "moonpool/moonpoollaw02.WinchSamples", spec := "winchSamples", unfollowed := true, recurses := true, plainKeys := false, apart := false, narrowed := true }
def WinchSamplesUptoSaid : Prop := winchSamplesUptoRow.holds Try.pinned (OpenSpec.upto winchSamplesSpec)

/-- 'moonpoollaw02.WinchNext', WHERE WHAT IT READS IS OF BULK AT MOST 1048576: true; the input reads as it did. -/
def winchNextUptoRow : OpenClaim := { program := "ythkphcmjcekemaa", sum := "b803f84aad4a1074a6d9bbdeb97da70bfb39d754ed57c262bd39eb4b8ae57687", func := "moonpool/moonpoollaw02.WinchNext", spec := "winchNext", unfollowed := true, recurses := true, plainKeys := false, apart := false, narrowed := true }
def WinchNextUptoSaid : Prop := winchNextUptoRow.holds Try.pinned (OpenSpec.upto winchNextSpec)

/-- 'moonpoollaw02.WinchProfiles', WHERE WHAT IT READS IS OF BULK AT MOST 1048576: true; the input reads as it did. -/
def winchProfilesUptoRow : OpenClaim := { program := "ythkphcmjcekemaa", sum := "b803f84aad4a1074a6d9bbdeb97da70bfb39d754ed57c262bd39eb4b8ae57687", func := "moonpool/moonpoollaw02.WinchProfiles", spec := "winchProfiles", unfollowed := true, recurses := true, plainKeys := false, apart := false, narrowed := true }
def WinchProfilesUptoSaid : Prop := winchProfilesUptoRow.holds Try.pinned (OpenSpec.upto winchProfilesSpec)

/-- 'moonpoollaw02.WinchLoops', WHERE WHAT IT READS IS OF BULK AT MOST 1048576: true; the input reads as it did. -/
def winchLoopsUptoRow : OpenClaim := { program := "ythkphcmjcekemaa", sum := "b803f84aad4a1074a6d9bbdeb97da70bfb39d754ed57c262bd39eb4b8ae57687", func := "moonpool/moonpoollaw02.WinchLoops", spec := "winchLoops", unfollowed := true, recurses := true, plainKeys := false, apart := false, narrowed := true }
def WinchLoopsUptoSaid : Prop := winchLoopsUptoRow.holds Try.pinned (OpenSpec.upto winchLoopsSpec)

/-- 'moonpoollaw02.WinchWindows', WHERE WHAT IT READS IS OF BULK AT MOST 1048576: true; the input reads as it did. -/
def winchWindowsUptoRow : OpenClaim := { program := "ythkphcmjcekemaa", sum := "b803f84aad4a1074a6d9bbdeb97da70bfb39d754ed57c262bd39eb4b8ae57687", func := "moonpool/moonpoollaw02.WinchWindows", spec := "winchWindows", unfollowed := true, recurses := true, plainKeys := false, apart := false, narrowed := true }
def WinchWindowsUptoSaid : Prop := winchWindowsUptoRow.holds Try.pinned (OpenSpec.upto winchWindowsSpec)

/-- 'moonpoollaw02.WinchLatches', WHERE WHAT IT READS IS OF BULK AT MOST 1048576: true; the input reads as it did. -/
def winchLatchesUptoRow : OpenClaim := { program := "ythkphcmjcekemaa", sum := "b803f84aad4a1074a6d9bbdeb97da70bfb39d754ed57c262bd39eb4b8ae57687", func := "moonpool/moonpoollaw02.WinchLatches", spec := "winchLatches", unfollowed := true, recurses := true, plainKeys := false, apart := false, narrowed := true }
def WinchLatchesUptoSaid : Prop := winchLatchesUptoRow.holds Try.pinned (OpenSpec.upto winchLatchesSpec)

/-- 'moonpoollaw02.WinchUnloaded', WHERE WHAT IT READS IS OF BULK AT MOST 1048576: true; the input reads as it did. -/
def winchUnloadedUptoRow : OpenClaim := { program := "ythkphcmjcekemaa", sum := "b803f84aad4a1074a6d9bbdeb97da70bfb39d754ed57c262bd39eb4b8ae57687", func := "moonpool/moonpoollaw02.WinchUnloaded", spec := "winchUnloaded", unfollowed := true, recurses := true, plainKeys := false, apart := false, narrowed := true }
def WinchUnloadedUptoSaid : Prop := winchUnloadedUptoRow.holds Try.pinned (OpenSpec.upto winchUnloadedSpec)

end Rows
end Go.Proofs.Ythkphcmjcekemaa
