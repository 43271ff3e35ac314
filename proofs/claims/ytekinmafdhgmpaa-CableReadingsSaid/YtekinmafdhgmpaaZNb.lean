/-
  Walks of chapter 1's reference: rounding, divisors, the offset of a link.
-/
import Derived.Test.YtekinmafdhgmpaaZNa
import Derived.Test.YtekinmafdhgmpaaQN
namespace Go.Proofs.Ytekinmafdhgmpaa
open Go.RowKit Go.Shelf
attribute [local go_sem] monoUpon_value monoUpon_skip monoUpon_enter

theorem slackF_any (zs : List Int) (i : Nat) : (zs.any (fun z => decide (z ≤ 0)) = true) ↔ 0 < (slackF zs i).length := by
  induction zs generalizing i with
  | nil => simp [slackF]
  | cons z r ih =>
    by_cases h : z ≤ 0
    · simp [slackF, h]
    · simp only [slackF, h, if_false, List.any_cons, decide_false, Bool.false_or]
      exact ih (i + 1)
theorem slackErr_len (l : Ln) : slackErr l = if 0 < ((slack l).length : Int) then 21 else 0 := by
  unfold slackErr slack
  by_cases h : (zs l).any (fun z => decide (z ≤ 0)) = true
  · have h2 := (slackF_any (zs l) 0).1 h
    rw [if_pos h, if_pos (by omega)]
  · have h2 : ¬ 0 < (slackF (zs l) 0).length := fun hc => h ((slackF_any (zs l) 0).2 hc)
    rw [if_neg h, if_neg (by omega)]
theorem Size_any (n : Int) (w : World) (hn : -9000000000000000000 ≤ n ∧ n ≤ 9000000000000000000) :
    Calls Try.prog 30 #[.int .i64 n] w fun e w' => e = .returned (.int .i64 (n.natAbs : Nat)) ∧ w = w' := by
  have hw1 : IntKind.i64.wrap (-n) = -n := IntWalk.i64_in _ (by omega)
  have E : Hid (max n (-n) = ((n.natAbs : Nat) : Int)) := by unfold Hid; omega
  go_enter Try.func30, Try.ntmps30
  go_wp2_with fail
  all_goals
    go_ret
    exact ⟨ret_int (by have := E.out; omega), rfl⟩
end Go.Proofs.Ytekinmafdhgmpaa
