/-
  No cell of these rows narrows 'for every input' (looked for: loops, veiled, ifaces, maps, wideKeys, modest, calm, conditions, laid).
  DERIVED. THE GIVEN ROWS OF THIS SEAT. 3 by the template 'for every input the law returns true; each argument reads behind the call as it read before'; 0 by the template 'total and deterministic' (their statements: YthffbfkcmbgghaaTotals.lean).
  GIVEN WITH THE SEED: the statements are not yours to turn. If you find one false, say at which input.
  Laid BY PROGRAM, IN A SANDBOX (cutbox-rows.mjs): the forced cells as the released guide's own fill.sh prints them over the translation 69f8ca11fdf6c210… (all of the seat's roots in one cut). By AI agents, Wed Nov 11 2026. No macro, syntax, notation, axiom, sorry.
-/
import Derived.Test.YthffbfkcmbgghaaChecked
import GoSem.Claim
import GoSem.ClaimJoined
import GoSem.ClaimMapViews
import Derived.JoinedTies
import Derived.KernelRfl
namespace Go.Proofs.Ythffbfkcmbgghaa
/- THE CELL 'sum', in the pinned program and in every row, IS THE sha256 OF THE DUMP (.gsa) THAT YthffbfkcmbgghaaProg.lean LOADS. Nothing in Lean hashes anything: it is a label: what it is worth is what the hold of that sum in a sandbox is worth. -/
noncomputable def Try.pinned : Pinned := { name := "ythffbfkcmbgghaa", sum := "69f8ca11fdf6c2101817e37322e3807c0ceaf91ac5591b8f620bb1747dcf3b37", checked := Try.checked }
namespace Rows
def none {H : Type} : Left H := { results := [], args := [] }

/-- 'moonpoollaw01.CableAgreed': WHATEVER THE INPUT: true; the input reads as it did. -/
def cableAgreedSpec : ChangeSpec := { name := "cableAgreed", fn := fun _ => fun
  | [d1, d2, d3] => { results := [.lit (.bool true)], args := [d1, d2, d3] }
  | _ => none }
def cableAgreedRow : OpenClaim := { program := "ythffbfkcmbgghaa", sum := "69f8ca11fdf6c2101817e37322e3807c0ceaf91ac5591b8f620bb1747dcf3b37", func := "moonpool/moonpoollaw01.CableAgreed", spec := "cableAgreed", unfollowed := true, recurses := true, plainKeys := false, apart := false }
def CableAgreedSaid : Prop := cableAgreedRow.holds Try.pinned (OpenSpec.ofChange cableAgreedSpec)

/-- ITS FALSE NEIGHBOUR: 'it returns false'. Refute it at one input. -/
def cableAgreedWrong : ChangeSpec := { name := "cableAgreed", fn := fun _ => fun
  | [d1, d2, d3] => { results := [.lit (.bool false)], args := [d1, d2, d3] }
  | _ => none }
def CableAgreedWrongFalsely : Prop := cableAgreedRow.holds Try.pinned (OpenSpec.ofChange cableAgreedWrong)

/-- 'moonpoollaw02.WinchSamples': WHATEVER THE INPUT: true; the input reads as it did. -/
def winchSamplesSpec : ChangeSpec := { name := "winchSamples", fn := fun _ => fun
  | [d1, d2] => { results := [.lit (.bool true)], args := [d1, d2] }
  | _ => none }
def winchSamplesRow : OpenClaim := { program := "ythffbfkcmbgghaa", sum := "69f8ca11fdf6c2101817e37322e3807c0ceaf91ac5591b8f620bb1747dcf3b37", func := "moonpool/moonpoollaw02.WinchSamples", spec := "winchSamples", unfollowed := true, recurses := true, plainKeys := false, apart := false }
def WinchSamplesSaid : Prop := winchSamplesRow.holds Try.pinned (OpenSpec.ofChange winchSamplesSpec)

/-- ITS FALSE NEIGHBOUR: 'it returns false'. Refute it at one input. -/
def winchSamplesWrong : ChangeSpec := { name := "winchSamples", fn := fun _ => fun
  | [d1, d2] => { results := [.lit (.bool false)], args := [d1, d2] }
  | _ => none }
def WinchSamplesWrongFalsely : Prop := winchSamplesRow.holds Try.pinned (OpenSpec.ofChange winchSamplesWrong)

/-- 'moonpoollaw02.WinchEquations': WHATEVER THE INPUT: true; the input reads as it did. -/
def winchEquationsSpec : ChangeSpec := { name := "winchEquations", fn := fun _ => fun
  | [d1, d2] => { results := [.lit (.bool true)], args := [d1, d2] }
  | _ => none }
def winchEquationsRow : OpenClaim := { program := "ythffbfkcmbgghaa", sum := "69f8ca11fdf6c2101817e37322e3807c0ceaf91ac5591b8f620bb1747dcf3b37", func := "moonpool/moonpoollaw02.WinchEquations", spec := "winchEquations", unfollowed := true, recurses := true, plainKeys := false, apart := false }
def WinchEquationsSaid : Prop := winchEquationsRow.holds Try.pinned (OpenSpec.ofChange winchEquationsSpec)

/-- ITS FALSE NEIGHBOUR: 'it returns false'. Refute it at one input. -/
def winchEquationsWrong : ChangeSpec := { name := "winchEquations", fn := fun _ => fun
  | [d1, d2] => { results := [.lit (.bool false)], args := [d1, d2] }
  | _ => none }
def WinchEquationsWrongFalsely : Prop := winchEquationsRow.holds Try.pinned (OpenSpec.ofChange winchEquationsWrong)

/- THE SECOND FORM. 'bulk': how many values and letters a reading holds, each counted each time it is reached (what is shared counts as often as it is met; a slice's spare places count too). A statement '..UptoSaid' is the law's where the arguments, and the package variables that the reading takes, are together of bulk at most 1048576: NARROWER than '..Said'. Prove '..Said' where nothing that the law and all that it calls make is longer than what came in: it says more and counts as full. Else prove '..UptoSaid'. A law counts once. -/
mutual
def uptoBulk {H : Type} : DataW H → Nat
  | .lit (.string bytes) => bytes.length + 1
  | .lit _ => 1
  | .nil => 1
  | .ptr d => uptoBulk d + 1
  | .slice elems spare => uptoBulkAll elems + uptoBulkAll spare + 1
  | .agg parts => uptoBulkAll parts + 1
  | .iface _ d => uptoBulk d + 1
  | .map entries => uptoBulkEntries entries + 1
  | .held _ => 1
def uptoBulkAll {H : Type} : List (DataW H) → Nat
  | [] => 0
  | d :: r => uptoBulk d + uptoBulkAll r
def uptoBulkEntries {H : Type} : List (Lit × DataW H) → Nat
  | [] => 0
  | x :: r => uptoBulkEntry x + uptoBulkEntries r
def uptoBulkEntry {H : Type} : Lit × DataW H → Nat
  | (.string bytes, d) => bytes.length + uptoBulk d + 1
  | (_, d) => uptoBulk d + 1
 end
def uptoSmall : (H : Type) → List (DataW H) → Bool := fun _ ds => decide (uptoBulkAll ds ≤ 1048576)
def OpenSpec.upto (s : _root_.Go.ChangeSpec) : _root_.Go.OpenSpec := { _root_.Go.OpenSpec.ofChange s with cond := some uptoSmall }

/-- 'moonpoollaw01.CableAgreed', WHERE WHAT IT READS IS OF BULK AT MOST 1048576: true; the input reads as it did. -/
def cableAgreedUptoRow : OpenClaim := { program := "ythffbfkcmbgghaa", sum := "69f8ca11fdf6c2101817e37322e3807c0ceaf91ac5591b8f620bb1747dcf3b37", func := "moonpool/moonpoollaw01.CableAgreed", spec := "cableAgreed", unfollowed := true, recurses := true, plainKeys := false, apart := false, narrowed := true }
def CableAgreedUptoSaid : Prop := cableAgreedUptoRow.holds Try.pinned (OpenSpec.upto cableAgreedSpec)

/-- 'moonpoollaw02.WinchSamples', WHERE WHAT IT READS IS OF BULK AT MOST 1048576: true; the input reads as it did. -/
def winchSamplesUptoRow : OpenClaim := { program := "ythffbfkcmbgghaa", sum := "69f8ca11fdf6c2101817e37322e3807c0ceaf91ac5591b8f620bb1747dcf3b37", func := "moonpool/moonpoollaw02.WinchSamples", spec := "winchSamples", unfollowed := true, recurses := true, plainKeys := false, apart := false, narrowed := true }
def WinchSamplesUptoSaid : Prop := winchSamplesUptoRow.holds Try.pinned (OpenSpec.upto winchSamplesSpec)

/-- 'moonpoollaw02.WinchEquations', WHERE WHAT IT READS IS OF BULK AT MOST 1048576: true; the input reads as it did. -/
def winchEquationsUptoRow : OpenClaim := { program := "ythffbfkcmbgghaa", sum := "69f8ca11fdf6c2101817e37322e3807c0ceaf91ac5591b8f620bb1747dcf3b37", func := "moonpool/moonpoollaw02.WinchEquations", spec := "winchEquations", unfollowed := true, recurses := true, plainKeys := false, apart := false, narrowed := true }
def WinchEquationsUptoSaid : Prop := winchEquationsUptoRow.holds Try.pinned (OpenSpec.upto winchEquationsSpec)

end Rows
end Go.Proofs.Ythffbfkcmbgghaa
