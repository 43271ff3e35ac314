/-
  Walks of chapter 1: the squares over a box.
-/
import Derived.Test.YtekinmafdhgmpaaZNa
import Derived.Test.YtekinmafdhgmpaaQL
import Derived.Test.YtekinmafdhgmpaaZMs
namespace Go.Proofs.Ytekinmafdhgmpaa
open Go.RowKit Go.Shelf
attribute [local go_sem] Oper.semAt_some wide_fn wide_depth round_fn round_depth
attribute [local go_sem] monoUpon_value monoUpon_skip monoUpon_enter

def squaresIn (l : Ln) (b : List (Int × Int)) : List (Int × Int) × Int := if boxErr l b = 0 then ((pulls l b).map sqR, 0) else ([], boxErr l b)
end Go.Proofs.Ytekinmafdhgmpaa
