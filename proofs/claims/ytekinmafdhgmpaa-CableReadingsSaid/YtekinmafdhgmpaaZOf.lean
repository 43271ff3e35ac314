/-
  Walks of chapter 1's reference: the squares over a box.
-/
import Derived.Test.YtekinmafdhgmpaaZOe
namespace Go.Proofs.Ytekinmafdhgmpaa
open Go.RowKit Go.Shelf
attribute [local go_sem] monoUpon_value monoUpon_skip monoUpon_enter

end Go.Proofs.Ytekinmafdhgmpaa
