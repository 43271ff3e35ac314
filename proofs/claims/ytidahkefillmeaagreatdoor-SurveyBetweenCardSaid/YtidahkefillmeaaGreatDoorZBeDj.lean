/-
  What the row of 'SurveyBetween' asks of its program: each fact by itself (in one the kernel needs more than 10 GB in a great seat).
-/
import Derived.Test.YtidahkefillmeaaGreatDoorZKd
set_option linter.all false
namespace Go.Proofs.YtidahkefillmeaaGreatDoor
open Go.ChangeShapes Go.WideShapes Go.ChangeAt Go.RowKit
set_option maxRecDepth 100000
theorem surveyBetweenLaidOut : laidOutB Tryz.prog = true := by kernel_rfl
theorem surveyBetweenMapsRowed : mapsRowed Tryz.prog = true := by kernel_rfl
theorem surveyBetweenHeard : Tryz.prog.stopsHeard = true := by kernel_rfl
theorem surveyBetweenEnters : Tryz.prog.mayEnter = true := by kernel_rfl
theorem surveyBetweenKeys : Tryz.prog.plainKeys = Rows.surveyBetweenRow.plainKeys := by kernel_rfl
theorem surveyBetweenLifts : Tryz.prog.liftsFinal = Rows.surveyBetweenRow.lifted := by kernel_rfl
theorem surveyBetweenJoined : joinedFacts Tryz.prog 6 Tryz.f6 Rows.surveyBetweenSpec Rows.surveyBetweenRow = true := by
  unfold joinedFacts
  rw [surveyBetweenLaidOut, surveyBetweenMapsRowed, surveyBetweenHeard, surveyBetweenEnters, surveyBetweenKeys, surveyBetweenLifts]
  kernel_rfl
end Go.Proofs.YtidahkefillmeaaGreatDoor
