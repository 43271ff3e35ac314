/-
  What the row of 'CableStrings' asks of its program: each fact by itself (in one the kernel needs more than 10 GB in a great seat).
-/
import Derived.Test.YtlfmdkmjfokgbaaGreatDoorZKd
set_option linter.all false
namespace Go.Proofs.YtlfmdkmjfokgbaaGreatDoor
open Go.ChangeShapes Go.WideShapes Go.ChangeAt Go.RowKit
set_option maxRecDepth 100000
theorem cableStringsLaidOut : laidOutB Tryz.prog = true := by kernel_rfl
theorem cableStringsMapsRowed : mapsRowed Tryz.prog = true := by kernel_rfl
theorem cableStringsHeard : Tryz.prog.stopsHeard = true := by kernel_rfl
theorem cableStringsEnters : Tryz.prog.mayEnter = true := by kernel_rfl
theorem cableStringsKeys : Tryz.prog.plainKeys = Rows.cableStringsRow.plainKeys := by kernel_rfl
theorem cableStringsLifts : Tryz.prog.liftsFinal = Rows.cableStringsRow.lifted := by kernel_rfl
theorem cableStringsJoined : joinedFacts Tryz.prog 3 Tryz.f3 Rows.cableStringsSpec Rows.cableStringsRow = true := by
  unfold joinedFacts
  rw [cableStringsLaidOut, cableStringsMapsRowed, cableStringsHeard, cableStringsEnters, cableStringsKeys, cableStringsLifts]
  kernel_rfl
end Go.Proofs.YtlfmdkmjfokgbaaGreatDoor
