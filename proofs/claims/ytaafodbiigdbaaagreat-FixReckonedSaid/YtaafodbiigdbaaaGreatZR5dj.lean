/-
  What the row of 'FixReckoned' asks of its program: each fact by itself (in one the kernel needs more than 10 GB in a great seat).
-/
import Derived.Test.YtaafodbiigdbaaaGreatZKd
set_option linter.all false
namespace Go.Proofs.YtaafodbiigdbaaaGreat
open Go.ChangeShapes Go.WideShapes Go.ChangeAt Go.RowKit
set_option maxRecDepth 100000

theorem fixReckonedLaidOut : laidOutB Tryz.prog = true := by kernel_rfl
theorem fixReckonedMapsRowed : mapsRowed Tryz.prog = true := by kernel_rfl
theorem fixReckonedHeard : Tryz.prog.stopsHeard = true := by kernel_rfl
theorem fixReckonedEnters : Tryz.prog.mayEnter = true := by kernel_rfl
theorem fixReckonedKeys : Tryz.prog.plainKeys = Rows.fixReckonedRow.plainKeys := by kernel_rfl
theorem fixReckonedLifts : Tryz.prog.liftsFinal = Rows.fixReckonedRow.lifted := by kernel_rfl
theorem fixReckonedJoined : joinedFacts Tryz.prog 7 Tryz.f7 Rows.fixReckonedSpec Rows.fixReckonedRow = true := by
  unfold joinedFacts
  rw [fixReckonedLaidOut, fixReckonedMapsRowed, fixReckonedHeard, fixReckonedEnters, fixReckonedKeys, fixReckonedLifts]
  kernel_rfl
end Go.Proofs.YtaafodbiigdbaaaGreat
