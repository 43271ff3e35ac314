/-
  What the row of 'SonarStrings' asks of its program: each fact by itself (in one the kernel needs more than 10 GB in a great seat).
-/
import Derived.Test.YtlfmdkmjfokgbaaGreatDoorZKd
set_option linter.all false
namespace Go.Proofs.YtlfmdkmjfokgbaaGreatDoor
open Go.ChangeShapes Go.WideShapes Go.ChangeAt Go.RowKit
set_option maxRecDepth 100000
theorem sonarStringsLaidOut : laidOutB Tryz.prog = true := by kernel_rfl
theorem sonarStringsMapsRowed : mapsRowed Tryz.prog = true := by kernel_rfl
theorem sonarStringsHeard : Tryz.prog.stopsHeard = true := by kernel_rfl
theorem sonarStringsEnters : Tryz.prog.mayEnter = true := by kernel_rfl
theorem sonarStringsKeys : Tryz.prog.plainKeys = Rows.sonarStringsRow.plainKeys := by kernel_rfl
theorem sonarStringsLifts : Tryz.prog.liftsFinal = Rows.sonarStringsRow.lifted := by kernel_rfl
theorem sonarStringsJoined : joinedFacts Tryz.prog 5 Tryz.f5 Rows.sonarStringsSpec Rows.sonarStringsRow = true := by
 unfold joinedFacts
 rw [sonarStringsLaidOut, sonarStringsMapsRowed, sonarStringsHeard, sonarStringsEnters, sonarStringsKeys, sonarStringsLifts]
 kernel_rfl
end Go.Proofs.YtlfmdkmjfokgbaaGreatDoor
