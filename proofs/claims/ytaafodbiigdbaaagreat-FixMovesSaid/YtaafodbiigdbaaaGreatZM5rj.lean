/-
  What the row of 'FixMoves' asks of its program: each fact by itself (in one the kernel needs more than 10 GB in a great seat).
-/
import Derived.Test.YtaafodbiigdbaaaGreatZKd
set_option linter.all false
namespace Go.Proofs.YtaafodbiigdbaaaGreat
open Go.ChangeShapes Go.WideShapes Go.ChangeAt Go.RowKit
set_option maxRecDepth 100000
theorem fixMovesLaidOut : laidOutB Tryz.prog = true := by kernel_rfl
theorem fixMovesMapsRowed : mapsRowed Tryz.prog = true := by kernel_rfl
theorem fixMovesHeard : Tryz.prog.stopsHeard = true := by kernel_rfl
theorem fixMovesEnters : Tryz.prog.mayEnter = true := by kernel_rfl
theorem fixMovesKeys : Tryz.prog.plainKeys = Rows.fixMovesRow.plainKeys := by kernel_rfl
theorem fixMovesLifts : Tryz.prog.liftsFinal = Rows.fixMovesRow.lifted := by kernel_rfl
theorem fixMovesJoined : joinedFacts Tryz.prog 6 Tryz.f6 Rows.fixMovesSpec Rows.fixMovesRow = true := by
  unfold joinedFacts
  rw [fixMovesLaidOut, fixMovesMapsRowed, fixMovesHeard, fixMovesEnters, fixMovesKeys, fixMovesLifts]
  kernel_rfl
end Go.Proofs.YtaafodbiigdbaaaGreat
