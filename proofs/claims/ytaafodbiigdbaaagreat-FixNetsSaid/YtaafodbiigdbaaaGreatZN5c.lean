/-
  'FixNets': the lifted law is true.
-/
import Derived.Test.YtaafodbiigdbaaaGreatZN5b
import Derived.Test.YtaafodbiigdbaaaGreatZN5l
set_option linter.all false
namespace Go.Proofs.YtaafodbiigdbaaaGreat
open Go Go.RowKit

theorem l5_FixNets_true (w0 w1 w2 w3 w4 w5 : Int) (l : List (Int × Int × Int × Int)) (a b c d e f : Int) (p q r s : Int) : ∃ fu, l5_FixNets fu w0 w1 w2 w3 w4 w5 l a b c d e f p q r s = some true := by
  refine ⟨1000, ?_⟩
  unfold l5_FixNets l5_awake l5_few
  simp only [Option.bind_some, if_true]
  by_cases h1 : (l.length : Int) ≤ 8
  · rw [if_pos h1, if_pos (by simp), Option.bind_some, if_pos rfl]
    unfold r5_CopyNet
    rw [if_pos (by omega)]
    simp only [Option.bind_some]
    rw [n_net 1000 (by omega) _ _ _ _ _ _ _ (by omega), n_depth 1000 (by omega), r_net 1000 (by omega) _ _ _ _ _ _ _ (by omega)]
    simp only [Option.bind_some, if_true]
    rw [n_box 1000 (by omega) _ _ _ _ _ _ _ (by omega), r_box 1000 (by omega) _ _ _ _ _ _ _ (by omega), r_derr]
    simp only [Option.bind_some, if_true]
    by_cases h2 : depE p q r s = 0
    · simp only [h2, if_true]
      rw [r_depth h2]
      simp only [Option.bind_some, if_true]
    · simp only [h2, if_false, if_true]
  · rw [if_neg h1, Option.bind_some, if_neg (by simp)]
end Go.Proofs.YtaafodbiigdbaaaGreat
