/-
  What the row of 'SonarRays' asks of its program: each fact by itself (in one the kernel needs more than 10 GB in a great seat).
-/
import Derived.Test.YthffbfkcmbgghaaGreatZKd
set_option linter.all false
namespace Go.Proofs.YthffbfkcmbgghaaGreat
open Go.ChangeShapes Go.WideShapes Go.ChangeAt Go.RowKit
set_option maxRecDepth 100000
theorem sonarRaysLaidOut : laidOutB Tryz.prog = true := by kernel_rfl
theorem sonarRaysMapsRowed : mapsRowed Tryz.prog = true := by kernel_rfl
theorem sonarRaysHeard : Tryz.prog.stopsHeard = true := by kernel_rfl
theorem sonarRaysEnters : Tryz.prog.mayEnter = true := by kernel_rfl
theorem sonarRaysKeys : Tryz.prog.plainKeys = Rows.sonarRaysRow.plainKeys := by kernel_rfl
theorem sonarRaysLifts : Tryz.prog.liftsFinal = Rows.sonarRaysRow.lifted := by kernel_rfl
theorem sonarRaysJoined : joinedFacts Tryz.prog 3 Tryz.f3 Rows.sonarRaysSpec Rows.sonarRaysRow = true := by
  unfold joinedFacts
  rw [sonarRaysLaidOut, sonarRaysMapsRowed, sonarRaysHeard, sonarRaysEnters, sonarRaysKeys, sonarRaysLifts]
  kernel_rfl
end Go.Proofs.YthffbfkcmbgghaaGreat
