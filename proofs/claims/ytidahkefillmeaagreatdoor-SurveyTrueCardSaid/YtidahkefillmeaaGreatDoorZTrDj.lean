/-
  What the row of 'SurveyTrue' asks of its program: each fact by itself (in one the kernel needs more than 10 GB in a great seat).
-/
import Derived.Test.YtidahkefillmeaaGreatDoorZKd
set_option linter.all false
namespace Go.Proofs.YtidahkefillmeaaGreatDoor
open Go.ChangeShapes Go.WideShapes Go.ChangeAt Go.RowKit
set_option maxRecDepth 100000
theorem surveyTrueLaidOut : laidOutB Tryz.prog = true := by kernel_rfl
theorem surveyTrueMapsRowed : mapsRowed Tryz.prog = true := by kernel_rfl
theorem surveyTrueHeard : Tryz.prog.stopsHeard = true := by kernel_rfl
theorem surveyTrueEnters : Tryz.prog.mayEnter = true := by kernel_rfl
theorem surveyTrueKeys : Tryz.prog.plainKeys = Rows.surveyTrueRow.plainKeys := by kernel_rfl
theorem surveyTrueLifts : Tryz.prog.liftsFinal = Rows.surveyTrueRow.lifted := by kernel_rfl
theorem surveyTrueJoined : joinedFacts Tryz.prog 5 Tryz.f5 Rows.surveyTrueSpec Rows.surveyTrueRow = true := by
  unfold joinedFacts
  rw [surveyTrueLaidOut, surveyTrueMapsRowed, surveyTrueHeard, surveyTrueEnters, surveyTrueKeys, surveyTrueLifts]
  kernel_rfl
end Go.Proofs.YtidahkefillmeaaGreatDoor
