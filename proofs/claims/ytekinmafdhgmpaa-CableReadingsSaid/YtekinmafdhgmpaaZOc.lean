/-
  Walks of chapter 1: the length that is enough for a box.
-/
import Derived.Test.YtekinmafdhgmpaaZMv
namespace Go.Proofs.Ytekinmafdhgmpaa
open Go.RowKit Go.Shelf

theorem run_field1 (w : World) (a b : Int) : (Instr.field 56 (.agg #[.int .i64 a, .int .i64 b]) 1).run Try.prog w = .ok (.int .i64 b) w := by kernel_rfl
theorem run_field0 (w : World) (a b : Int) : (Instr.field 56 (.agg #[.int .i64 a, .int .i64 b]) 0).run Try.prog w = .ok (.int .i64 a) w := by kernel_rfl
attribute [local go_sem] run_field0 run_field1
def enoughFor (l : Ln) (b : List (Int × Int)) : Int × Int := if boxShapeErr l b = 0 then ((totR lenR (pulls l b)).2, 0) else (0, boxShapeErr l b)
end Go.Proofs.Ytekinmafdhgmpaa
