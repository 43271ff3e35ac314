/-
  No cell of these rows narrows 'for every input' (looked for: loops, veiled, ifaces, maps, wideKeys, modest, calm, conditions, laid).
  DERIVED. THE GIVEN ROWS OF THIS SEAT. 5 by the template 'for every input the law returns true; each argument reads behind the call as it read before'; 0 by the template 'total and deterministic' (their statements: YtefkmidmjofdcaaTotals.lean).
  GIVEN WITH THE SEED: the statements are not yours to turn. If you find one false, say at which input.
  Laid BY PROGRAM, IN A SANDBOX (cutbox-rows.mjs): the forced cells as the released guide's own fill.sh prints them over the translation c72f6fc9e0abad49… (all of the seat's roots in one cut). By AI agents, Wed Nov 11 2026. No macro, syntax, notation, axiom, sorry.
-/
import Derived.Test.YtefkmidmjofdcaaChecked
import GoSem.Claim
import GoSem.ClaimJoined
import GoSem.ClaimMapViews
import Derived.JoinedTies
import Derived.KernelRfl
namespace Go.Proofs.Ytefkmidmjofdcaa
/- THE CELL 'sum', in the pinned program and in every row, IS THE sha256 OF THE DUMP (.gsa) THAT YtefkmidmjofdcaaProg.lean LOADS. Nothing in Lean hashes anything: it is a label: what it is worth is what the hold of that sum in a sandbox is worth. -/
noncomputable def Try.pinned : Pinned := { name := "ytefkmidmjofdcaa", sum := "c72f6fc9e0abad4918caa57e3f7af9cc7a301a2e9f1ce4118b3bb571018546d6", checked := Try.checked }
namespace Rows
def none {H : Type} : Left H := { results := [], args := [] }

/-- 'moonpoollaw02.WinchWindows': WHATEVER THE INPUT: true; the input reads as it did. -/
def winchWindowsSpec : ChangeSpec := { name := "winchWindows", fn := fun _ => fun
  | [d1, d2, d3] => { results := [.lit (.bool true)], args := [d1, d2, d3] }
  | _ => none }
def winchWindowsRow : OpenClaim := { program := "ytefkmidmjofdcaa", sum := "c72f6fc9e0abad4918caa57e3f7af9cc7a301a2e9f1ce4118b3bb571018546d6", func := "moonpool/moonpoollaw02.WinchWindows", spec := "winchWindows", unfollowed := true, recurses := true, plainKeys := false, apart := false }
def WinchWindowsSaid : Prop := winchWindowsRow.holds Try.pinned (OpenSpec.ofChange winchWindowsSpec)

/-- ITS FALSE NEIGHBOUR: 'it returns false'. Refute it at one input. -/
def winchWindowsWrong : ChangeSpec := { name := "winchWindows", fn := fun _ => fun
  | [d1, d2, d3] => { results := [.lit (.bool false)], args := [d1, d2, d3] }
  | _ => none }
def WinchWindowsWrongFalsely : Prop := winchWindowsRow.holds Try.pinned (OpenSpec.ofChange winchWindowsWrong)

/-- 'moonpoollaw02.WinchLatches': WHATEVER THE INPUT: true; the input reads as it did. -/
def winchLatchesSpec : ChangeSpec := { name := "winchLatches", fn := fun _ => fun
  | [d1, d2, d3] => { results := [.lit (.bool true)], args := [d1, d2, d3] }
  | _ => none }
def winchLatchesRow : OpenClaim := { program := "ytefkmidmjofdcaa", sum := "c72f6fc9e0abad4918caa57e3f7af9cc7a301a2e9f1ce4118b3bb571018546d6", func := "moonpool/moonpoollaw02.WinchLatches", spec := "winchLatches", unfollowed := true, recurses := true, plainKeys := false, apart := false }
def WinchLatchesSaid : Prop := winchLatchesRow.holds Try.pinned (OpenSpec.ofChange winchLatchesSpec)

/-- ITS FALSE NEIGHBOUR: 'it returns false'. Refute it at one input. -/
def winchLatchesWrong : ChangeSpec := { name := "winchLatches", fn := fun _ => fun
  | [d1, d2, d3] => { results := [.lit (.bool false)], args := [d1, d2, d3] }
  | _ => none }
def WinchLatchesWrongFalsely : Prop := winchLatchesRow.holds Try.pinned (OpenSpec.ofChange winchLatchesWrong)

/-- 'moonpoollaw02.WinchUnloaded': WHATEVER THE INPUT: true; the input reads as it did. -/
def winchUnloadedSpec : ChangeSpec := { name := "winchUnloaded", fn := fun _ => fun
  | [d1, d2, d3] => { results := [.lit (.bool true)], args := [d1, d2, d3] }
  | _ => none }
def winchUnloadedRow : OpenClaim := { program := "ytefkmidmjofdcaa", sum := "c72f6fc9e0abad4918caa57e3f7af9cc7a301a2e9f1ce4118b3bb571018546d6", func := "moonpool/moonpoollaw02.WinchUnloaded", spec := "winchUnloaded", unfollowed := true, recurses := true, plainKeys := false, apart := false }
def WinchUnloadedSaid : Prop := winchUnloadedRow.holds Try.pinned (OpenSpec.ofChange winchUnloadedSpec)

/-- ITS FALSE NEIGHBOUR: 'it returns false'. Refute it at one input. -/
def winchUnloadedWrong : ChangeSpec := { name := "winchUnloaded", fn := fun _ => fun
  | [d1, d2, d3] => { results := [.lit (.bool false)], args := [d1, d2, d3] }
  | _ => none }
def WinchUnloadedWrongFalsely : Prop := winchUnloadedRow.holds Try.pinned (OpenSpec.ofChange winchUnloadedWrong)

/-- 'moonpoollaw07.BusFound': WHATEVER THE INPUT: true; the input reads as it did. -/
def busFoundSpec : ChangeSpec := { name := "busFound", fn := fun _ => fun
  | [d1, d2, d3] => { results := [.lit (.bool true)], args := [d1, d2, d3] }
  | _ => none }
def busFoundRow : OpenClaim := { program := "ytefkmidmjofdcaa", sum := "c72f6fc9e0abad4918caa57e3f7af9cc7a301a2e9f1ce4118b3bb571018546d6", func := "moonpool/moonpoollaw07.BusFound", spec := "busFound", unfollowed := true, recurses := true, plainKeys := false, apart := false }
def BusFoundSaid : Prop := busFoundRow.holds Try.pinned (OpenSpec.ofChange busFoundSpec)

/-- ITS FALSE NEIGHBOUR: 'it returns false'. Refute it at one input. -/
def busFoundWrong : ChangeSpec := { name := "busFound", fn := fun _ => fun
  | [d1, d2, d3] => { results := [.lit (.bool false)], args := [d1, d2, d3] }
  | _ => none }
def BusFoundWrongFalsely : Prop := busFoundRow.holds Try.pinned (OpenSpec.ofChange busFoundWrong)

/-- 'moonpoollaw07.BusSilence': WHATEVER THE INPUT: true; the input reads as it did. -/
def busSilenceSpec : ChangeSpec := { name := "busSilence", fn := fun _ => fun
  | [d1, d2, d3] => { results := [.lit (.bool true)], args := [d1, d2, d3] }
  | _ => none }
def busSilenceRow : OpenClaim := { program := "ytefkmidmjofdcaa", sum := "c72f6fc9e0abad4918caa57e3f7af9cc7a301a2e9f1ce4118b3bb571018546d6", func := "moonpool/moonpoollaw07.BusSilence", spec := "busSilence", unfollowed := true, recurses := true, plainKeys := false, apart := false }
def BusSilenceSaid : Prop := busSilenceRow.holds Try.pinned (OpenSpec.ofChange busSilenceSpec)

/-- ITS FALSE NEIGHBOUR: 'it returns false'. Refute it at one input. -/
def busSilenceWrong : ChangeSpec := { name := "busSilence", fn := fun _ => fun
  | [d1, d2, d3] => { results := [.lit (.bool false)], args := [d1, d2, d3] }
  | _ => none }
def BusSilenceWrongFalsely : Prop := busSilenceRow.holds Try.pinned (OpenSpec.ofChange busSilenceWrong)

/- THE SECOND FORM. 'bulk': how many values and letters a reading holds, each counted each time it is reached (what is shared counts as often as it is met; a slice's spare places count too). A statement '..UptoSaid' is the law's where the arguments, and the package variables that the reading takes, are together of bulk at most 1048576: NARROWER than '..Said'. Prove '..Said' where nothing that the law and all that it calls make is longer than what came in: it says more and counts as full. Else prove '..UptoSaid'. A law counts once. -/
mutual
def uptoBulk {H : Type} : DataW H → Nat
  | .lit (.string bytes) => bytes.length + 1
  | .lit _ => 1
  | .nil => 1
  | .ptr d => uptoBulk d + 1
  | .slice elems spare => uptoBulkAll elems + uptoBulkAll spare + 1
  | .agg parts => uptoBulkAll parts + 1
  | .iface _ d => uptoBulk d + 1
  | .map entries => uptoBulkEntries entries + 1
  | .held _ => 1
def uptoBulkAll {H : Type} : List (DataW H) → Nat
  | [] => 0
  | d :: r => uptoBulk d + uptoBulkAll r
def uptoBulkEntries {H : Type} : List (Lit × DataW H) → Nat
  | [] => 0
  | x :: r => uptoBulkEntry x + uptoBulkEntries r
def uptoBulkEntry {H : Type} : Lit × DataW H → Nat
  | (.string bytes, d) => bytes.length + uptoBulk d + 1
  | (_, d) => uptoBulk d + 1
 end
def uptoSmall : (H : Type) → List (DataW H) → Bool := fun _ ds => decide (uptoBulkAll ds ≤ 1048576)
def OpenSpec.upto (s : _root_.Go.ChangeSpec) : _root_.Go.OpenSpec := { _root_.Go.OpenSpec.ofChange s with cond := some uptoSmall }

/-- 'moonpoollaw02.WinchWindows', WHERE WHAT IT READS IS OF BULK AT MOST 1048576: true; the input reads as it did. -/
def winchWindowsUptoRow : OpenClaim := { program := "ytefkmidmjofdcaa", sum := "c72f6fc9e0abad4918caa57e3f7af9cc7a301a2e9f1ce4118b3bb571018546d6", func := "moonpool/moonpoollaw02.WinchWindows", spec := "winchWindows", unfollowed := true, recurses := true, plainKeys := false, apart := false, narrowed := true }
def WinchWindowsUptoSaid : Prop := winchWindowsUptoRow.holds Try.pinned (OpenSpec.upto winchWindowsSpec)

/-- 'moonpoollaw02.WinchLatches', WHERE WHAT IT READS IS OF BULK AT MOST 1048576: true; the input reads as it did. -/
def winchLatchesUptoRow : OpenClaim := { program := "ytefkmidmjofdcaa", sum := "c72f6fc9e0abad4918caa57e3f7af9cc7a301a2e9f1ce4118b3bb571018546d6", func := "moonpool/moonpoollaw02.WinchLatches", spec := "winchLatches", unfollowed := true, recurses := true, plainKeys := false, apart := false, narrowed := true }
def WinchLatchesUptoSaid : Prop := winchLatchesUptoRow.holds Try.pinned (OpenSpec.upto winchLatchesSpec)

/-- 'moonpoollaw02.WinchUnloaded', WHERE WHAT IT READS IS OF BULK AT MOST 1048576: true; the input reads as it did. -/
def winchUnloadedUptoRow : OpenClaim := { program := "ytefkmidmjofdcaa", sum := "c72f6fc9e0abad4918caa57e3f7af9cc7a301a2e9f1ce4118b3bb571018546d6", func := "moonpool/moonpoollaw02.WinchUnloaded", spec := "winchUnloaded", unfollowed := true, recurses := true, plainKeys := false, apart := false, narrowed := true }
def WinchUnloadedUptoSaid : Prop := winchUnloadedUptoRow.holds Try.pinned (OpenSpec.upto winchUnloadedSpec)

/-- 'moonpoollaw07.BusFound', WHERE WHAT IT READS IS OF BULK AT MOST 1048576: true; the input reads as it did. -/
def busFoundUptoRow : OpenClaim := { program := "ytefkmidmjofdcaa", sum := "c72f6fc9e0abad4918caa57e3f7af9cc7a301a2e9f1ce4118b3bb571018546d6", func := "moonpool/moonpoollaw07.BusFound", spec := "busFound", unfollowed := true, recurses := true, plainKeys := false, apart := false, narrowed := true }
def BusFoundUptoSaid : Prop := busFoundUptoRow.holds Try.pinned (OpenSpec.upto busFoundSpec)

/-- 'moonpoollaw07.BusSilence', WHERE WHAT IT READS IS OF BULK AT MOST 1048576: true; the input reads as it did. -/
def busSilenceUptoRow : OpenClaim := { program := "ytefkmidmjofdcaa", sum := "c72f6fc9e0abad4918caa57e3f7af9cc7a301a2e9f1ce4118b3bb571018546d6", func := "moonpool/moonpoollaw07.BusSilence", spec := "busSilence", unfollowed := true, recurses := true, plainKeys := false, apart := false, narrowed := true }
def BusSilenceUptoSaid : Prop := busSilenceUptoRow.holds Try.pinned (OpenSpec.upto busSilenceSpec)

end Rows
end Go.Proofs.Ytefkmidmjofdcaa
