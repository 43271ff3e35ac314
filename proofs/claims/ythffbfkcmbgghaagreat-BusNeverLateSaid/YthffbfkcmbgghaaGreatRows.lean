/-
  No cell of these rows narrows 'for every input' (looked for: loops, veiled, ifaces, maps, wideKeys, modest, calm, conditions, laid).
  DERIVED. THE GIVEN ROWS OF THIS SEAT. 3 by the template 'for every input the law returns true; each argument reads behind the call as it read before'; 0 by the template 'total and deterministic' (their statements: YthffbfkcmbgghaaGreatTotals.lean).
  GIVEN WITH THE SEED: the statements are not yours to turn. If you find one false, say at which input.
  Laid BY PROGRAM, IN A SANDBOX (cutbox-rows.mjs): the forced cells as the released guide's own fill.sh prints them over the translation ab00a6349fbee463… (all of the seat's roots in one cut). By AI agents, Wed Nov 11 2026. No macro, syntax, notation, axiom, sorry.
-/
import Derived.Test.YthffbfkcmbgghaaGreatChecked
import GoSem.Claim
import GoSem.ClaimJoined
import GoSem.ClaimMapViews
import Derived.JoinedTies
import Derived.KernelRfl
namespace Go.Proofs.YthffbfkcmbgghaaGreat
/- THE CELL 'sum', in the pinned program and in every row, IS THE sha256 OF THE DUMP (.gsa) THAT YthffbfkcmbgghaaGreatProg.lean LOADS. Nothing in Lean hashes anything: it is a label: what it is worth is what the hold of that sum in a sandbox is worth. -/
noncomputable def Tryz.pinned : Pinned := { name := "ythffbfkcmbgghaagreat", sum := "ab00a6349fbee463a4e7569bf2636c50cf5512484a21460db05b7f30c69c91fc", checked := Tryz.checked }
namespace Rows
def none {H : Type} : Left H := { results := [], args := [] }

/-- 'moonpoollaw04.SonarRays': WHATEVER THE INPUT: true; the input reads as it did. -/
def sonarRaysSpec : ChangeSpec := { name := "sonarRays", fn := fun _ => fun
  | [d] => { results := [.lit (.bool true)], args := [d] }
  | _ => none }
def sonarRaysRow : OpenClaim := { program := "ythffbfkcmbgghaagreat", sum := "ab00a6349fbee463a4e7569bf2636c50cf5512484a21460db05b7f30c69c91fc", func := "moonpool/moonpoollaw04.SonarRays", spec := "sonarRays", unfollowed := true, recurses := true, apart := false }
def SonarRaysSaid : Prop := sonarRaysRow.holds Tryz.pinned (OpenSpec.ofChange sonarRaysSpec)

/-- ITS FALSE NEIGHBOUR: 'it returns false'. Refute it at one input. -/
def sonarRaysWrong : ChangeSpec := { name := "sonarRays", fn := fun _ => fun
  | [d] => { results := [.lit (.bool false)], args := [d] }
  | _ => none }
def SonarRaysWrongFalsely : Prop := sonarRaysRow.holds Tryz.pinned (OpenSpec.ofChange sonarRaysWrong)

/-- 'moonpoollaw07.BusCarried': WHATEVER THE INPUT: true; the input reads as it did. -/
def busCarriedSpec : ChangeSpec := { name := "busCarried", fn := fun _ => fun
  | [d1, d2, d3] => { results := [.lit (.bool true)], args := [d1, d2, d3] }
  | _ => none }
def busCarriedRow : OpenClaim := { program := "ythffbfkcmbgghaagreat", sum := "ab00a6349fbee463a4e7569bf2636c50cf5512484a21460db05b7f30c69c91fc", func := "moonpool/moonpoollaw07.BusCarried", spec := "busCarried", unfollowed := true, recurses := true, apart := false }
def BusCarriedSaid : Prop := busCarriedRow.holds Tryz.pinned (OpenSpec.ofChange busCarriedSpec)

/-- ITS FALSE NEIGHBOUR: 'it returns false'. Refute it at one input. -/
def busCarriedWrong : ChangeSpec := { name := "busCarried", fn := fun _ => fun
  | [d1, d2, d3] => { results := [.lit (.bool false)], args := [d1, d2, d3] }
  | _ => none }
def BusCarriedWrongFalsely : Prop := busCarriedRow.holds Tryz.pinned (OpenSpec.ofChange busCarriedWrong)

/-- 'moonpoollaw07.BusNeverLate': WHATEVER THE INPUT: true; the input reads as it did. -/
def busNeverLateSpec : ChangeSpec := { name := "busNeverLate", fn := fun _ => fun
  | [d1, d2, d3] => { results := [.lit (.bool true)], args := [d1, d2, d3] }
  | _ => none }
def busNeverLateRow : OpenClaim := { program := "ythffbfkcmbgghaagreat", sum := "ab00a6349fbee463a4e7569bf2636c50cf5512484a21460db05b7f30c69c91fc", func := "moonpool/moonpoollaw07.BusNeverLate", spec := "busNeverLate", unfollowed := true, recurses := true, apart := false }
def BusNeverLateSaid : Prop := busNeverLateRow.holds Tryz.pinned (OpenSpec.ofChange busNeverLateSpec)

/-- ITS FALSE NEIGHBOUR: 'it returns false'. Refute it at one input. -/
def busNeverLateWrong : ChangeSpec := { name := "busNeverLate", fn := fun _ => fun
  | [d1, d2, d3] => { results := [.lit (.bool false)], args := [d1, d2, d3] }
  | _ => none }
def BusNeverLateWrongFalsely : Prop := busNeverLateRow.holds Tryz.pinned (OpenSpec.ofChange busNeverLateWrong)

/- THE SECOND FORM. 'bulk': how many values and letters a reading holds, each counted each time it is reached (what is shared counts as often as it is met; a slice's spare places count too). A statement '..UptoSaid' is the law's where the arguments, and the package variables that the reading takes, are together of bulk at most 1048576: NARROWER than '..Said'. Prove '..Said' where nothing that the law and all that it calls make is longer than what came in: it says more and counts as full. Else prove '..UptoSaid'. A law counts once. -/
mutual
def uptoBulk {H : Type} : DataW H → Nat
  | .lit (.string bytes) => bytes.length + 1
  | .lit _ => 1
  | .nil => 1
  | .ptr d => uptoBulk d + 1
  | .slice elems spare => uptoBulkAll elems + uptoBulkAll spare + 1
  | .agg parts => uptoBulkAll parts + 1
  | .iface _ d => uptoBulk d + 1
  | .map entries => uptoBulkEntries entries + 1
  | .held _ => 1
def uptoBulkAll {H : Type} : List (DataW H) → Nat
  | [] => 0
  | d :: r => uptoBulk d + uptoBulkAll r
def uptoBulkEntries {H : Type} : List (Lit × DataW H) → Nat
  | [] => 0
  | x :: r => uptoBulkEntry x + uptoBulkEntries r
def uptoBulkEntry {H : Type} : Lit × DataW H → Nat
  | (.string bytes, d) => bytes.length + uptoBulk d + 1
  | (_, d) => uptoBulk d + 1
 end
def uptoSmall : (H : Type) → List (DataW H) → Bool := fun _ ds => decide (uptoBulkAll ds ≤ 1048576)
def OpenSpec.upto (s : _root_.Go.ChangeSpec) : _root_.Go.OpenSpec := { _root_.Go.OpenSpec.ofChange s with cond := some uptoSmall }

/-- 'moonpoollaw04.SonarRays', WHERE WHAT IT READS IS OF BULK AT MOST 1048576: true; the input reads as it did. -/
def sonarRaysUptoRow : OpenClaim := { program := "ythffbfkcmbgghaagreat", sum := "ab00a6349fbee463a4e7569bf2636c50cf5512484a21460db05b7f30c69c91fc", func := "moonpool/moonpoollaw04.SonarRays", spec := "sonarRays", unfollowed := true, recurses := true, apart := false, narrowed := true }
def SonarRaysUptoSaid : Prop := sonarRaysUptoRow.holds Tryz.pinned (OpenSpec.upto sonarRaysSpec)

/-- 'moonpoollaw07.BusCarried', WHERE WHAT IT READS IS OF BULK AT MOST 1048576: true; the input reads as it did. -/
def busCarriedUptoRow : OpenClaim := { program := "ythffbfkcmbgghaagreat", sum := "ab00a6349fbee463a4e7569bf2636c50cf5512484a21460db05b7f30c69c91fc", func := "moonpool/moonpoollaw07.BusCarried", spec := "busCarried", unfollowed := true, recurses := true, apart := false, narrowed := true }
def BusCarriedUptoSaid : Prop := busCarriedUptoRow.holds Tryz.pinned (OpenSpec.upto busCarriedSpec)

/-- 'moonpoollaw07.BusNeverLate', WHERE WHAT IT READS IS OF BULK AT MOST 1048576: true; the input reads as it did. -/
def busNeverLateUptoRow : OpenClaim := { program := "ythffbfkcmbgghaagreat", sum := "ab00a6349fbee463a4e7569bf2636c50cf5512484a21460db05b7f30c69c91fc", func := "moonpool/moonpoollaw07.BusNeverLate", spec := "busNeverLate", unfollowed := true, recurses := true, apart := false, narrowed := true }
def BusNeverLateUptoSaid : Prop := busNeverLateUptoRow.holds Tryz.pinned (OpenSpec.upto busNeverLateSpec)

end Rows
end Go.Proofs.YthffbfkcmbgghaaGreat
