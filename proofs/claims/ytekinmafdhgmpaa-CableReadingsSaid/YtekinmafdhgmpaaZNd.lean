/-
  Walks of chapter 1's reference: the bends of a line.
-/
import Derived.Test.YtekinmafdhgmpaaZNc
namespace Go.Proofs.Ytekinmafdhgmpaa
open Go.RowKit Go.Shelf
attribute [local go_sem] monoUpon_value monoUpon_skip monoUpon_enter

theorem tens_fo {l : Ln} {c : List Int} (hl : LnOk l) (hc : CuOk l c) (hz : ∀ t ∈ tens l c, 0 < t.2) : ∀ t ∈ tens l c, Fo t := fun t ht =>
  ⟨(tens_bd hl hc t ht).1, ⟨hz t ht, (tens_bd hl hc t ht).2.2⟩⟩
end Go.Proofs.Ytekinmafdhgmpaa
