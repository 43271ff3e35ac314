/-
  Walks of chapter 1's reference: the length that is enough for a box.
-/
import Derived.Test.YtekinmafdhgmpaaZOe
namespace Go.Proofs.Ytekinmafdhgmpaa
open Go.RowKit Go.Shelf
attribute [local go_sem] monoUpon_value monoUpon_skip monoUpon_enter
attribute [local go_sem] run_field0 run_field1

end Go.Proofs.Ytekinmafdhgmpaa
