/-
  What the row of 'SurveyStations' asks of its program: each fact by itself (in one the kernel needs more than 10 GB in a great seat).
-/
import Derived.Test.YtidahkefillmeaaGreatDoorZKd
set_option linter.all false
namespace Go.Proofs.YtidahkefillmeaaGreatDoor
open Go.ChangeShapes Go.WideShapes Go.ChangeAt Go.RowKit
set_option maxRecDepth 100000
theorem surveyStationsLaidOut : laidOutB Tryz.prog = true := by kernel_rfl
theorem surveyStationsMapsRowed : mapsRowed Tryz.prog = true := by kernel_rfl
theorem surveyStationsHeard : Tryz.prog.stopsHeard = true := by kernel_rfl
theorem surveyStationsEnters : Tryz.prog.mayEnter = true := by kernel_rfl
theorem surveyStationsKeys : Tryz.prog.plainKeys = Rows.surveyStationsRow.plainKeys := by kernel_rfl
theorem surveyStationsLifts : Tryz.prog.liftsFinal = Rows.surveyStationsRow.lifted := by kernel_rfl
theorem surveyStationsJoined : joinedFacts Tryz.prog 3 Tryz.f3 Rows.surveyStationsSpec Rows.surveyStationsRow = true := by
  unfold joinedFacts
  rw [surveyStationsLaidOut, surveyStationsMapsRowed, surveyStationsHeard, surveyStationsEnters, surveyStationsKeys, surveyStationsLifts]
  kernel_rfl
end Go.Proofs.YtidahkefillmeaaGreatDoor
