/-
  What the row of 'BusFrames' asks of its program: each fact by itself (in one the kernel needs more than 10 GB in a great seat).
-/
import Derived.Test.YtefkmidmjofdcaaGreatZKd
set_option linter.all false
namespace Go.Proofs.YtefkmidmjofdcaaGreat
open Go.ChangeShapes Go.WideShapes Go.ChangeAt Go.RowKit
set_option maxRecDepth 100000

theorem busFramesLaidOut : laidOutB Tryz.prog = true := by kernel_rfl
theorem busFramesMapsRowed : mapsRowed Tryz.prog = true := by kernel_rfl
theorem busFramesHeard : Tryz.prog.stopsHeard = true := by kernel_rfl
theorem busFramesEnters : Tryz.prog.mayEnter = true := by kernel_rfl
theorem busFramesKeys : Tryz.prog.plainKeys = Rows.busFramesRow.plainKeys := by kernel_rfl
theorem busFramesLifts : Tryz.prog.liftsFinal = Rows.busFramesRow.lifted := by kernel_rfl
theorem busFramesJoined : joinedFacts Tryz.prog 3 Tryz.f3 Rows.busFramesSpec Rows.busFramesRow = true := by
  unfold joinedFacts
  rw [busFramesLaidOut, busFramesMapsRowed, busFramesHeard, busFramesEnters, busFramesKeys, busFramesLifts]
  kernel_rfl
end Go.Proofs.YtefkmidmjofdcaaGreat
