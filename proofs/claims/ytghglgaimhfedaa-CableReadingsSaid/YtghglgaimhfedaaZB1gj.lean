/-
  What the row of 'CableReadings' asks of its program: each fact by itself (in one the kernel needs more than 10 GB in a great seat).
-/
import Derived.Test.YtghglgaimhfedaaZKd
set_option linter.all false
namespace Go.Proofs.Ytghglgaimhfedaa
open Go.ChangeShapes Go.WideShapes Go.ChangeAt Go.RowKit
set_option maxRecDepth 100000

theorem cableReadingsLaidOut : laidOutB Try.prog = true := by kernel_rfl
theorem cableReadingsMapsRowed : mapsRowed Try.prog = true := by kernel_rfl
theorem cableReadingsHeard : Try.prog.stopsHeard = true := by kernel_rfl
theorem cableReadingsEnters : Try.prog.mayEnter = true := by kernel_rfl
theorem cableReadingsKeys : Try.prog.plainKeys = Rows.cableReadingsRow.plainKeys := by kernel_rfl
theorem cableReadingsLifts : Try.prog.liftsFinal = Rows.cableReadingsRow.lifted := by kernel_rfl
theorem cableReadingsJoined : joinedFacts Try.prog 10 Try.f10 Rows.cableReadingsSpec Rows.cableReadingsRow = true := by
  unfold joinedFacts
  rw [cableReadingsLaidOut, cableReadingsMapsRowed, cableReadingsHeard, cableReadingsEnters, cableReadingsKeys, cableReadingsLifts]
  kernel_rfl
end Go.Proofs.Ytghglgaimhfedaa
