/-
  Walks of chapter 1: which tensions are accepted as a balance.
-/
import Derived.Test.YtekinmafdhgmpaaQL
namespace Go.Proofs.Ytekinmafdhgmpaa
open Go.RowKit Go.Shelf
attribute [local go_sem] monoUpon_value monoUpon_skip monoUpon_enter

def checkBalance (l : Ln) (c : List Int) (t : List (Int × Int)) : Int × Int := if currentsErr l c = 0 then balErr l c t else (0, currentsErr l c)
theorem tens_tb (l : Ln) (c : List Int) (_ : c.length = l.ks.length) (k : Nat) (_ : k < l.ks.length) (hk' : k < (tens l c).length) : (tens l c)[k] = tb l c (k + 1) := by
  unfold tb; rw [List.getD_cons_succ, getD_eq _ _ _ hk']
/-- A new box of two cells. -/
def newBox (N : Nat) (v : Value) (w : World) : Prop := ∃ b, v = .pointer (some ⟨b, 0, none⟩) ∧ N ≤ b ∧ (∃ x, At w ⟨b, 0, none⟩ x) ∧ (∃ x, At w ⟨b, 1, none⟩ x)
theorem st_newBox (N : Nat) : Stab (newBox N) := fun _ _ _ ⟨b, h1, h2, ⟨x, h3⟩, ⟨y, h4⟩⟩ hb => ⟨b, h1, h2, ⟨x, h3.below hb⟩, ⟨y, h4.below hb⟩⟩
end Go.Proofs.Ytekinmafdhgmpaa
