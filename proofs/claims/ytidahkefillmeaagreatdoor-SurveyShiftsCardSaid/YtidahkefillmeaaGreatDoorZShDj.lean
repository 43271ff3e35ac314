/-
  What the row of 'SurveyShifts' asks of its program: each fact by itself (in one the kernel needs more than 10 GB in a great seat).
-/
import Derived.Test.YtidahkefillmeaaGreatDoorZKd
set_option linter.all false
namespace Go.Proofs.YtidahkefillmeaaGreatDoor
open Go.ChangeShapes Go.WideShapes Go.ChangeAt Go.RowKit
set_option maxRecDepth 100000
theorem surveyShiftsLaidOut : laidOutB Tryz.prog = true := by kernel_rfl
theorem surveyShiftsMapsRowed : mapsRowed Tryz.prog = true := by kernel_rfl
theorem surveyShiftsHeard : Tryz.prog.stopsHeard = true := by kernel_rfl
theorem surveyShiftsEnters : Tryz.prog.mayEnter = true := by kernel_rfl
theorem surveyShiftsKeys : Tryz.prog.plainKeys = Rows.surveyShiftsRow.plainKeys := by kernel_rfl
theorem surveyShiftsLifts : Tryz.prog.liftsFinal = Rows.surveyShiftsRow.lifted := by kernel_rfl
theorem surveyShiftsJoined : joinedFacts Tryz.prog 8 Tryz.f8 Rows.surveyShiftsSpec Rows.surveyShiftsRow = true := by
  unfold joinedFacts
  rw [surveyShiftsLaidOut, surveyShiftsMapsRowed, surveyShiftsHeard, surveyShiftsEnters, surveyShiftsKeys, surveyShiftsLifts]
  kernel_rfl
end Go.Proofs.YtidahkefillmeaaGreatDoor
