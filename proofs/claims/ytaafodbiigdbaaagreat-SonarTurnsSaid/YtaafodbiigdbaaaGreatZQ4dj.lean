/-
  What the row of 'SonarTurns' asks of its program: each fact by itself (in one the kernel needs more than 10 GB in a great seat).
-/
import Derived.Test.YtaafodbiigdbaaaGreatZKd
set_option linter.all false
namespace Go.Proofs.YtaafodbiigdbaaaGreat
open Go.ChangeShapes Go.WideShapes Go.ChangeAt Go.RowKit
set_option maxRecDepth 100000

theorem sonarTurnsLaidOut : laidOutB Tryz.prog = true := by kernel_rfl
theorem sonarTurnsMapsRowed : mapsRowed Tryz.prog = true := by kernel_rfl
theorem sonarTurnsHeard : Tryz.prog.stopsHeard = true := by kernel_rfl
theorem sonarTurnsEnters : Tryz.prog.mayEnter = true := by kernel_rfl
theorem sonarTurnsKeys : Tryz.prog.plainKeys = Rows.sonarTurnsRow.plainKeys := by kernel_rfl
theorem sonarTurnsLifts : Tryz.prog.liftsFinal = Rows.sonarTurnsRow.lifted := by kernel_rfl
theorem sonarTurnsJoined : joinedFacts Tryz.prog 3 Tryz.f3 Rows.sonarTurnsSpec Rows.sonarTurnsRow = true := by
  unfold joinedFacts
  rw [sonarTurnsLaidOut, sonarTurnsMapsRowed, sonarTurnsHeard, sonarTurnsEnters, sonarTurnsKeys, sonarTurnsLifts]
  kernel_rfl
end Go.Proofs.YtaafodbiigdbaaaGreat
