/-
  What the row of 'BusCarried' asks of its program: each fact by itself (in one the kernel needs more than 10 GB in a great seat).
-/
import Derived.Test.YthffbfkcmbgghaaGreatQM
set_option linter.all false
namespace Go.Proofs.YthffbfkcmbgghaaGreat
open Go.ChangeShapes Go.WideShapes Go.ChangeAt Go.RowKit
set_option maxRecDepth 100000
theorem busCarriedLaidOut : laidOutB Tryz.prog = true := by kernel_rfl
theorem busCarriedMapsRowed : mapsRowed Tryz.prog = true := by kernel_rfl
theorem busCarriedHeard : Tryz.prog.stopsHeard = true := by kernel_rfl
theorem busCarriedEnters : Tryz.prog.mayEnter = true := by kernel_rfl
theorem busCarriedKeys : Tryz.prog.plainKeys = Rows.busCarriedRow.plainKeys := by kernel_rfl
theorem busCarriedLifts : Tryz.prog.liftsFinal = Rows.busCarriedRow.lifted := by kernel_rfl
theorem busCarriedJoined : joinedFacts Tryz.prog 4 Tryz.f4 Rows.busCarriedSpec Rows.busCarriedRow = true := by
  unfold joinedFacts
  rw [busCarriedLaidOut, busCarriedMapsRowed, busCarriedHeard, busCarriedEnters, busCarriedKeys, busCarriedLifts]
  kernel_rfl
end Go.Proofs.YthffbfkcmbgghaaGreat
