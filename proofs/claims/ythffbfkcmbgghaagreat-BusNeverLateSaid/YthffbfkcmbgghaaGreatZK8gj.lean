/-
  What the row of 'BusNeverLate' asks of its program: each fact by itself (in one the kernel needs more than 10 GB in a great seat).
-/
import Derived.Test.YthffbfkcmbgghaaGreatZKd
set_option linter.all false
namespace Go.Proofs.YthffbfkcmbgghaaGreat
open Go.ChangeShapes Go.WideShapes Go.ChangeAt Go.RowKit
set_option maxRecDepth 100000
theorem busNeverLateLaidOut : laidOutB Tryz.prog = true := by kernel_rfl
theorem busNeverLateMapsRowed : mapsRowed Tryz.prog = true := by kernel_rfl
theorem busNeverLateHeard : Tryz.prog.stopsHeard = true := by kernel_rfl
theorem busNeverLateEnters : Tryz.prog.mayEnter = true := by kernel_rfl
theorem busNeverLateKeys : Tryz.prog.plainKeys = Rows.busNeverLateRow.plainKeys := by kernel_rfl
theorem busNeverLateLifts : Tryz.prog.liftsFinal = Rows.busNeverLateRow.lifted := by kernel_rfl
theorem busNeverLateJoined : joinedFacts Tryz.prog 5 Tryz.f5 Rows.busNeverLateSpec Rows.busNeverLateRow = true := by
 unfold joinedFacts
 rw [busNeverLateLaidOut, busNeverLateMapsRowed, busNeverLateHeard, busNeverLateEnters, busNeverLateKeys, busNeverLateLifts]
 kernel_rfl
end Go.Proofs.YthffbfkcmbgghaaGreat
