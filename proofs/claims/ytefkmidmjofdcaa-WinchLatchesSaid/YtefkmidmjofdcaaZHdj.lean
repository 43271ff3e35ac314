/-
  What the row of 'WinchLatches' asks of its program: each fact by itself (in one the kernel needs more than 10 GB in a great seat).
-/
import Derived.Test.YtefkmidmjofdcaaZKd
set_option linter.all false
namespace Go.Proofs.Ytefkmidmjofdcaa
open Go.ChangeShapes Go.WideShapes Go.ChangeAt Go.RowKit
set_option maxRecDepth 100000

theorem winchLatchesLaidOut : laidOutB Try.prog = true := by kernel_rfl
theorem winchLatchesMapsRowed : mapsRowed Try.prog = true := by kernel_rfl
theorem winchLatchesHeard : Try.prog.stopsHeard = true := by kernel_rfl
theorem winchLatchesEnters : Try.prog.mayEnter = true := by kernel_rfl
theorem winchLatchesKeys : Try.prog.plainKeys = Rows.winchLatchesRow.plainKeys := by kernel_rfl
theorem winchLatchesLifts : Try.prog.liftsFinal = Rows.winchLatchesRow.lifted := by kernel_rfl
theorem winchLatchesJoined : joinedFacts Try.prog 4 Try.f4 Rows.winchLatchesSpec Rows.winchLatchesRow = true := by
  unfold joinedFacts
  rw [winchLatchesLaidOut, winchLatchesMapsRowed, winchLatchesHeard, winchLatchesEnters, winchLatchesKeys, winchLatchesLifts]
  kernel_rfl
end Go.Proofs.Ytefkmidmjofdcaa
