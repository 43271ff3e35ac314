/-
  What the row of 'SurveySwaths' asks of its program: each fact by itself (in one the kernel needs more than 10 GB in a great seat).
-/
import Derived.Test.YtidahkefillmeaaGreatDoorZKd
set_option linter.all false
namespace Go.Proofs.YtidahkefillmeaaGreatDoor
open Go.ChangeShapes Go.WideShapes Go.ChangeAt Go.RowKit
set_option maxRecDepth 100000
theorem surveySwathsLaidOut : laidOutB Tryz.prog = true := by kernel_rfl
theorem surveySwathsMapsRowed : mapsRowed Tryz.prog = true := by kernel_rfl
theorem surveySwathsHeard : Tryz.prog.stopsHeard = true := by kernel_rfl
theorem surveySwathsEnters : Tryz.prog.mayEnter = true := by kernel_rfl
theorem surveySwathsKeys : Tryz.prog.plainKeys = Rows.surveySwathsRow.plainKeys := by kernel_rfl
theorem surveySwathsLifts : Tryz.prog.liftsFinal = Rows.surveySwathsRow.lifted := by kernel_rfl
theorem surveySwathsJoined : joinedFacts Tryz.prog 7 Tryz.f7 Rows.surveySwathsSpec Rows.surveySwathsRow = true := by
  unfold joinedFacts
  rw [surveySwathsLaidOut, surveySwathsMapsRowed, surveySwathsHeard, surveySwathsEnters, surveySwathsKeys, surveySwathsLifts]
  kernel_rfl
end Go.Proofs.YtidahkefillmeaaGreatDoor
