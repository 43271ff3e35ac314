/-
  Walks of chapter 1's reference: the length of a link.
-/
import Derived.Test.YtekinmafdhgmpaaZNd
import Derived.Test.YtekinmafdhgmpaaZMt
namespace Go.Proofs.Ytekinmafdhgmpaa
open Go.RowKit Go.Shelf
attribute [local go_sem] monoUpon_value monoUpon_skip monoUpon_enter

/-- The range of a link's length: the root, rounded down, and up if it is not whole. -/
def longR (h : Int) (t : Int × Int) : Int × Int :=
  (isqrt (h * h * sq t) / t.2, if isqrt (h * h * sq t) / t.2 * (isqrt (h * h * sq t) / t.2) * t.2 * t.2 < h * h * sq t then isqrt (h * h * sq t) / t.2 + 1 else isqrt (h * h * sq t) / t.2)
theorem ret_range {q : Int × Int} {a b : Int} (h : q = (a, b)) : Ending.returned (.agg #[.int .i64 a, .int .i64 b]) = .returned (.agg #[.int .i64 q.1, .int .i64 q.2]) := by subst h; rfl
end Go.Proofs.Ytekinmafdhgmpaa
