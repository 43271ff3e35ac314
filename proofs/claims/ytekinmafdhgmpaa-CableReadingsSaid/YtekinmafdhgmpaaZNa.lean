/-
  Walks of chapter 1's offsets.
-/
import Derived.Test.YtekinmafdhgmpaaQK
import Derived.Test.YtekinmafdhgmpaaQI
namespace Go.Proofs.Ytekinmafdhgmpaa
open Go.RowKit Go.Shelf
attribute [local go_sem] Oper.semAt_some wide_fn wide_depth round_fn round_depth
attribute [local go_sem] monoUpon_value monoUpon_skip monoUpon_enter

/-- The offset of one pull, in lowest terms. -/
def loP (p : Pl) : Int × Int := low (p.h * p.lo) p.z
def offs (l : Ln) (c : List Int) : List (Int × Int) := (pulls l (still c)).map loP
def offsetsOf (l : Ln) (c : List Int) : List (Int × Int) × Int := if shapeErr l c = 0 then (offs l c, 0) else ([], shapeErr l c)
theorem lo_bd {p : Pl} (hp : PlOk p) : -20000000 ≤ p.h * p.lo ∧ p.h * p.lo ≤ 20000000 := by
  have m1 := mul_bd p.h p.lo 1000 20000 (by have := hp.h0; have := hp.h1; omega) (by have := hp.l0; have := hp.l1; omega)
  omega
end Go.Proofs.Ytekinmafdhgmpaa
