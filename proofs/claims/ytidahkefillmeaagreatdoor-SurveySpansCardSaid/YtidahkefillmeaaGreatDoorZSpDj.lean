/-
  What the row of 'SurveySpans' asks of its program: each fact by itself (in one the kernel needs more than 10 GB in a great seat).
-/
import Derived.Test.YtidahkefillmeaaGreatDoorZKd
set_option linter.all false
namespace Go.Proofs.YtidahkefillmeaaGreatDoor
open Go.ChangeShapes Go.WideShapes Go.ChangeAt Go.RowKit
set_option maxRecDepth 100000
theorem surveySpansLaidOut : laidOutB Tryz.prog = true := by kernel_rfl
theorem surveySpansMapsRowed : mapsRowed Tryz.prog = true := by kernel_rfl
theorem surveySpansHeard : Tryz.prog.stopsHeard = true := by kernel_rfl
theorem surveySpansEnters : Tryz.prog.mayEnter = true := by kernel_rfl
theorem surveySpansKeys : Tryz.prog.plainKeys = Rows.surveySpansRow.plainKeys := by kernel_rfl
theorem surveySpansLifts : Tryz.prog.liftsFinal = Rows.surveySpansRow.lifted := by kernel_rfl
theorem surveySpansJoined : joinedFacts Tryz.prog 4 Tryz.f4 Rows.surveySpansSpec Rows.surveySpansRow = true := by
  unfold joinedFacts
  rw [surveySpansLaidOut, surveySpansMapsRowed, surveySpansHeard, surveySpansEnters, surveySpansKeys, surveySpansLifts]
  kernel_rfl
end Go.Proofs.YtidahkefillmeaaGreatDoor
