/-
  SurveySpans is true.
-/
import Derived.Test.YtidahkefillmeaaGreatDoorZS9h
import Derived.Test.YtidahkefillmeaaGreatDoorZS9Sp
set_option linter.all false
namespace Go.Proofs.YtidahkefillmeaaGreatDoor
open Go Go.RowKit
theorem sp_few (l : List Sta) : l9_few l = some (decide ((l.length : Int) ≤ 22)) := by
  unfold l9_few
  split <;> simp_all
theorem sp_pipe (p : Int) : r9_PipeErr p = some (if 1 ≤ p ∧ p ≤ 1000 then 0 else 2) := by
  unfold r9_PipeErr
  rw [x_within, Option.bind_some]
  by_cases c : 1 ≤ p ∧ p ≤ 1000
  · rw [decide_eq_true c, if_pos rfl, if_pos c]
  · rw [decide_eq_false c, if_neg c]; rfl
theorem l9_SurveySpans_true (a0 : List Sta) (a1 a2 : Int) : ∃ fu, l9_SurveySpans fu a0 a1 a2 = some true := by
  refine ⟨1000, ?_⟩
  unfold l9_SurveySpans l9_awake
  rw [Option.bind_some, if_pos rfl, sp_few, Option.bind_some]
  by_cases hn : (a0.length : Int) ≤ 22
  · have hl : a0.length < 500 := by omega
    have hf : 1000 ≤ 1000 := Nat.le_refl _
    have hz : IntKind.wrap .i64 ((([] : List Ran).length : Int) + (([] : List Ran).length : Int)) = 0 := by decide
    rw [decide_eq_true hn, if_pos rfl, copy_eq' hl]
    simp only [Option.bind_some]
    rw [p_spans hf hl, p_possible hf hl, r_stations hf a0 hl]
    simp only [Option.bind_some, sp_pipe]
    by_cases hc : (ckS a0).2 = 0
    · have fin : (if (if 1 ≤ a1 ∧ a1 ≤ 1000 then (0 : Int) else 2) = 0 then (if (if spE a0 a1 = 0 then (spS true a1 a0, (0 : Int)) else ([], spE a0 a1)).2 = (0 : Int) then (if (if spE a0 a1 = 0 then (spS false a1 a0, (0 : Int)) else ([], spE a0 a1)).2 = (0 : Int) then (Option.bind (r9_Spans 1000 a0 a1 true) fun r22 => Option.bind (b_Ranges 1000 (if spE a0 a1 = 0 then (spS true a1 a0, (0 : Int)) else ([], spE a0 a1)).1 r22) fun r23 => if r23 = true then (Option.bind (r9_Spans 1000 a0 a1 false) fun r25 => Option.bind (b_Ranges 1000 (if spE a0 a1 = 0 then (spS false a1 a0, (0 : Int)) else ([], spE a0 a1)).1 r25) fun r26 => if r26 = true then (some true) else none) else none) else none) else none) else (if (if spE a0 a1 = 0 then (spS true a1 a0, (0 : Int)) else ([], spE a0 a1)).2 = (if 1 ≤ a1 ∧ a1 ≤ 1000 then (0 : Int) else 2) then (if (if spE a0 a1 = 0 then (spS false a1 a0, (0 : Int)) else ([], spE a0 a1)).2 = (if 1 ≤ a1 ∧ a1 ≤ 1000 then (0 : Int) else 2) then (if (IntKind.wrap .i64 (((if spE a0 a1 = 0 then (spS true a1 a0, (0 : Int)) else ([], spE a0 a1)).1.length : Int) + ((if spE a0 a1 = 0 then (spS false a1 a0, (0 : Int)) else ([], spE a0 a1)).1.length : Int))) = (0 : Int) then (some true) else none) else none) else none)) = some true := by
        by_cases hp : 1 ≤ a1 ∧ a1 ≤ 1000
        · have he : spE a0 a1 = 0 := by unfold spE; rw [if_pos hc, if_pos hp]
          have l1 := spS_len true a1 a0
          have l2 := spS_len false a1 a0
          simp only [he, if_true, if_pos hp]
          rw [r_spans hf hl (ckS_ok hc).2 (by omega) true, Option.bind_some, b_ranges (by omega) (by omega), Option.bind_some, if_pos rfl, r_spans hf hl (ckS_ok hc).2 (by omega) false, Option.bind_some, b_ranges (by omega) (by omega), Option.bind_some, if_pos rfl]
        · have he : spE a0 a1 = 2 := by unfold spE; rw [if_pos hc, if_neg hp]
          simp only [he, if_neg hp, show ¬ ((2 : Int) = 0) by omega, if_false, if_true, hz]
      rcases bed_both hf hl hc a2 with ⟨r, e1, e2⟩ | ⟨e1, e2⟩
      · rw [e1, e2]
        simp only [Option.bind_some, hc, if_true]
        exact fin
      · rw [e1, e2]
        simp only [Option.bind_some, hc, if_true, Bool.false_eq_true, if_false]
        exact fin
    · rw [bed_err hf hl hc]
      have he : spE a0 a1 = (ckS a0).2 := by unfold spE; rw [if_neg hc]
      simp only [he, hc, if_false, if_true, Option.bind_some, hz]
  · rw [decide_eq_false hn]; rfl
end Go.Proofs.YtidahkefillmeaaGreatDoor
