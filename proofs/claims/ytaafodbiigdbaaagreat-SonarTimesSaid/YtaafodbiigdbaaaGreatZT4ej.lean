/-
  What the row of 'SonarTimes' asks of its program: each fact by itself (in one the kernel needs more than 10 GB in a great seat).
-/
import Derived.Test.YtaafodbiigdbaaaGreatZKd
set_option linter.all false
namespace Go.Proofs.YtaafodbiigdbaaaGreat
open Go.ChangeShapes Go.WideShapes Go.ChangeAt Go.RowKit
set_option maxRecDepth 100000

theorem sonarTimesLaidOut : laidOutB Tryz.prog = true := by kernel_rfl
theorem sonarTimesMapsRowed : mapsRowed Tryz.prog = true := by kernel_rfl
theorem sonarTimesHeard : Tryz.prog.stopsHeard = true := by kernel_rfl
theorem sonarTimesEnters : Tryz.prog.mayEnter = true := by kernel_rfl
theorem sonarTimesKeys : Tryz.prog.plainKeys = Rows.sonarTimesRow.plainKeys := by kernel_rfl
theorem sonarTimesLifts : Tryz.prog.liftsFinal = Rows.sonarTimesRow.lifted := by kernel_rfl
theorem sonarTimesJoined : joinedFacts Tryz.prog 4 Tryz.f4 Rows.sonarTimesSpec Rows.sonarTimesRow = true := by
  unfold joinedFacts
  rw [sonarTimesLaidOut, sonarTimesMapsRowed, sonarTimesHeard, sonarTimesEnters, sonarTimesKeys, sonarTimesLifts]
  kernel_rfl
end Go.Proofs.YtaafodbiigdbaaaGreat
