/-
  The law of latches, as a Lean function, is true.
-/
import Derived.Test.YtefkmidmjofdcaaZHb
set_option linter.all false
namespace Go.Proofs.Ytefkmidmjofdcaa
open Go Go.RowKit

theorem l2_WinchLatches_true (L H : Int) (c : Bool) (ld si : Int) (l : List (Int × Int × Int)) : ∃ fu, l2_WinchLatches fu L H c ld si l = some true := by
  refine ⟨50, ?_⟩
  unfold l2_WinchLatches l2_awake
  rw [Option.bind_some, if_pos rfl]
  by_cases h42 : (42 : Int) < (l.length : Int)
  · rw [if_pos h42]
  · rw [if_neg h42]
    have hw := w_latchedBy_eq (fu := 50) (by omega) L H l (by omega) (by omega)
    have hr := r2_latchedBy_eq (fu := 50) L H l (by omega) (by omega)
    obtain ⟨x, hx⟩ := latchedV_some L H l
    rw [hx] at hw hr
    have h65 : (l.length : Int) < 65536 := by omega
    obtain ⟨b, p, q, r⟩ := x
    cases l with
    | nil => cases b <;> simp [hw, hr]
    | cons e l =>
      obtain ⟨y, e1, e2⟩ := next_eq (fu := 50) (by omega) L H c ld si e.1 e.2.1 e.2.2
      obtain ⟨b', p', q', r'⟩ := y
      have hpos : (0 : Int) < (((e :: l).length : Nat) : Int) := by simp only [List.length_cons]; omega
      have hget : (e :: l)[0 + ((0 : Int)).toNat]? = some e := rfl
      cases b <;> cases b' <;> simp only [hpos, h65, hget, e1, e2, hw, hr, if_true, Option.bind_some, Bool.false_eq_true, if_false]
end Go.Proofs.Ytefkmidmjofdcaa
