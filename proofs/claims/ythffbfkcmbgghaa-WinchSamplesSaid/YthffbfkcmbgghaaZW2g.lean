/-
  The law of samples and predictors, as a Lean function, is true.
-/
import Derived.Test.YthffbfkcmbgghaaZW2f
import Derived.Test.YthffbfkcmbgghaaZW2l
set_option linter.all false
namespace Go.Proofs.Ythffbfkcmbgghaa
open Go Go.RowKit
theorem first2 (a b : Int) : firstE [a, b] = if a = 0 then b else a := by
  simp only [firstE]
  by_cases h : a = 0
  · rw [if_pos h, if_pos h]
    by_cases h2 : b = 0
    · rw [if_pos h2, h2]
    · rw [if_neg h2]
  · rw [if_neg h, if_neg h]
theorem l2_WinchSamples_true (l : List Int) (A B D : Int) : ∃ fu, l2_WinchSamples fu l A B D = some true := by
  obtain ⟨fu, hf⟩ : ∃ fu : Nat, 18446744073709551616 ≤ fu := ⟨_, Nat.le_refl _⟩
  refine ⟨fu, ?_⟩
  unfold l2_WinchSamples
  rw [show l2_awake = some true from rfl, Option.bind_some, if_pos rfl]
  by_cases hl : 22 < (l.length : Int)
  · rw [if_pos hl]
  · have hl2 : l.length ≤ 22 := by omega
    have cp : b_CopyInts l = some l := by unfold b_CopyInts; rw [if_pos (by omega)]
    rw [if_neg hl]
    simp only [cp, Option.bind_some, w_chk fu hf l hl2, r_chk2 fu hf l hl2, w_chkp hf hl2, first2]
    by_cases h : smpE l = 0
    · have h2 : (smpP l).2 = 0 := by rw [smpP_e, h]
      obtain ⟨h4, h20, hs⟩ := smpE_ok h
      have tail : ∀ (x : Int × Int), x = (if predE A B D = 0 then prf l A B D (l.length - 2) else (0, predE A B D)) → (Option.bind (r2_PredictorErr fu A B D) fun r26 => if r26 = (0 : Int) then (Option.bind (r2_ProofErr fu l A B D) fun r28 => if x.2 = r28.2 then (if x.1 = r28.1 then (some true) else none) else none) else (if x.2 = r26 then (if x.1 = (0 : Int) then (some true) else none) else none)) = some true := fun x hx => by
        rw [rPred_eq fu hf, Option.bind_some]
        by_cases hp : predE A B D = 0
        · rw [if_pos hp, r_prf hf hs (N := l.length - 2) (by omega) hl2 hp, Option.bind_some, hx, if_pos hp, if_pos rfl, if_pos rfl]
        · rw [if_neg hp, hx, if_neg hp, if_pos rfl, if_pos rfl]
      by_cases hd : dT l (l.length - 2) = 0
      · have er : w_ResidualOf fu l = some (0, 0, 11) := by
          unfold w_ResidualOf
          rw [w_pred hf hl2, if_pos h, if_pos hd]; rfl
        rw [w_pred hf hl2, er, if_pos h, if_pos hd, r_pred hf hs (N := l.length - 2) (by omega) hl2, if_pos hd]
        simp only [Option.bind_some, if_true, h2, if_pos h, Bool.false_eq_true, if_false]
        exact tail _ rfl
      · obtain ⟨p, e1, e2⟩ := res_same hf hl2 h hd
        rw [w_pred hf hl2, e1, if_pos h, if_neg hd, r_pred hf hs (N := l.length - 2) (by omega) hl2, if_neg hd]
        simp only [Option.bind_some, if_true, h2, if_pos h, e2]
        exact tail _ rfl
    · have h2 : (smpP l).2 = smpE l := smpP_e l
      have er : w_ResidualOf fu l = some (0, 0, smpE l) := by
        unfold w_ResidualOf
        rw [w_pred hf hl2, if_neg h, Option.bind_some, if_neg h]
      rw [w_pred hf hl2, er, if_neg h]
      simp only [Option.bind_some, if_true, h2, if_neg h]
end Go.Proofs.Ythffbfkcmbgghaa
