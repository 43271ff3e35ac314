/-
  What the row of 'BusDemands' asks of its program: each fact by itself (in one the kernel needs more than 10 GB in a great seat).
-/
import Derived.Test.YtefkmidmjofdcaaGreatZKd
set_option linter.all false
namespace Go.Proofs.YtefkmidmjofdcaaGreat
open Go.ChangeShapes Go.WideShapes Go.ChangeAt Go.RowKit
set_option maxRecDepth 100000

theorem busDemandsLaidOut : laidOutB Tryz.prog = true := by kernel_rfl
theorem busDemandsMapsRowed : mapsRowed Tryz.prog = true := by kernel_rfl
theorem busDemandsHeard : Tryz.prog.stopsHeard = true := by kernel_rfl
theorem busDemandsEnters : Tryz.prog.mayEnter = true := by kernel_rfl
theorem busDemandsKeys : Tryz.prog.plainKeys = Rows.busDemandsRow.plainKeys := by kernel_rfl
theorem busDemandsLifts : Tryz.prog.liftsFinal = Rows.busDemandsRow.lifted := by kernel_rfl
theorem busDemandsJoined : joinedFacts Tryz.prog 4 Tryz.f4 Rows.busDemandsSpec Rows.busDemandsRow = true := by
  unfold joinedFacts
  rw [busDemandsLaidOut, busDemandsMapsRowed, busDemandsHeard, busDemandsEnters, busDemandsKeys, busDemandsLifts]
  kernel_rfl
end Go.Proofs.YtefkmidmjofdcaaGreat
