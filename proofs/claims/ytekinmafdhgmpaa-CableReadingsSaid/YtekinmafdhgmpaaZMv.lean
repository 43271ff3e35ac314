/-
  Walks of chapter 1: the layback and the length for currents, the length that is enough for a box.
-/
import Derived.Test.YtekinmafdhgmpaaZMu
import Derived.Test.YtekinmafdhgmpaaQL
import Derived.Test.YtekinmafdhgmpaaQK
namespace Go.Proofs.Ytekinmafdhgmpaa
open Go.RowKit Go.Shelf
attribute [local go_sem] monoUpon_value monoUpon_skip monoUpon_enter

def laybackOf (l : Ln) (c : List Int) : (Int × Int) × Int := if shapeErr l c = 0 then (totR offR (pulls l (still c)), 0) else ((0, 0), shapeErr l c)
def lengthOf (l : Ln) (c : List Int) : (Int × Int) × Int := if shapeErr l c = 0 then (totR lenR (pulls l (still c)), 0) else ((0, 0), shapeErr l c)
end Go.Proofs.Ytekinmafdhgmpaa
