/-
  The law of demands, as a Lean function, is true.
-/
import Derived.Test.YtefkmidmjofdcaaGreatZXe
import Derived.Test.YtefkmidmjofdcaaGreatZXc
set_option linter.all false
namespace Go.Proofs.YtefkmidmjofdcaaGreat
open Go Go.RowKit

theorem x_fewL (fu : Nat) (l : List Str) (hl : l.length < 1000) : ∀ n i, i ≤ l.length → l.length - i < n → ∃ x, l7_fewStreams_L1 fu l n ((i : Nat) : Int) = some x
  | 0, i, _, h => by omega
  | n + 1, i, hi, h => by
    rw [l7_fewStreams_L1]
    rcases Nat.lt_or_ge i l.length with h1 | h1
    · obtain ⟨a1, a2, a3⟩ := idx (List.getElem?_eq_getElem h1)
      rw [if_pos a1, if_pos a2, a3, Option.bind_some]
      by_cases c : (30 : Int) < Cm.sln l[i].1
      · rw [if_pos c]; exact ⟨_, rfl⟩
      · rw [if_neg c, wrapS (by omega)]
        exact x_fewL fu l hl n (i + 1) (by omega) (by omega)
    · rw [if_neg (by omega)]; exact ⟨_, rfl⟩
theorem x_few (fu : Nat) (hf : 1000 ≤ fu) (l : List Str) : ∃ b, l7_fewStreams fu l = some b ∧ (b = true → l.length ≤ 8) := by
  unfold l7_fewStreams
  by_cases h : (8 : Int) < (l.length : Int)
  · rw [if_pos h]; exact ⟨false, rfl, fun c => by cases c⟩
  · rw [if_neg h]
    obtain ⟨x, e⟩ := x_fewL fu l (by omega) fu 0 (by omega) (by omega)
    rw [show ((0 : Nat) : Int) = 0 from rfl] at e
    rw [e]
    cases x with
    | inl y => exact ⟨false, rfl, fun c => by cases c⟩
    | inr y => exact ⟨true, rfl, fun _ => by omega⟩
theorem l7_BusDemands_true (l : List Str) (t : Int) : ∃ fu, l7_BusDemands fu l t = some true := by
  refine ⟨20000, ?_⟩
  generalize hfu : 20000 = fu
  have hf : 15000 ≤ fu := by omega
  clear hfu
  unfold l7_BusDemands l7_awake
  rw [Option.bind_some, if_pos rfl]
  obtain ⟨b, eb, hb⟩ := x_few fu (by omega) l
  rw [eb, Option.bind_some]
  cases b with
  | false => rw [if_neg (by decide)]
  | true =>
    have hl := hb rfl
    have cl : r7_CopyStreams l = some l := by unfold r7_CopyStreams; rw [if_pos (by omega)]
    rw [if_pos rfl, cl, Option.bind_some, x_demandIn fu (by omega) l (by omega), Option.bind_some, Option.bind_some, x_overload fu (by omega) l (by omega), Option.bind_some, x_refStreams fu (by omega) l (by omega), Option.bind_some]
    by_cases h0 : stE l = 0
    · have ok : okS l := stE_ok h0
      have over : (Option.bind (r7_Cycle fu l) fun r17 => if r17.2 = true then (Option.bind (r7_Overload fu l r17.1) fun r19 => if r19.2 = true then (if (ovF l).2 = (0 : Int) then (if (ovF l).1 = r19.1 then (some true) else (some false)) else (some false)) else (if (ovF l).2 = (12 : Int) then (if (ovF l).1 = (0 : Int) then (some true) else (some false)) else (some false))) else (if (ovF l).2 = (8 : Int) then (if (ovF l).1 = (0 : Int) then (some true) else (some false)) else (some false))) = some true := by
        rw [x_refCycle fu (by omega) ok, Option.bind_some]
        unfold ovF
        rw [if_pos h0]
        by_cases c : 5000 < cyS l 1
        · rw [if_pos c, if_pos c]; rfl
        · rw [if_neg c, if_neg c]
          simp only [if_true]
          rw [x_refOver fu (by omega) ok (by omega), Option.bind_some]
          cases ov l (cyS l 1) 1 with
          | none => rfl
          | some x => simp
      rw [if_pos h0, x_within, Option.bind_some]
      by_cases ht : 0 ≤ t ∧ t ≤ 10000
      · have e : deF l t = (dem l t, 0) := by unfold deF tiE; rw [if_pos h0, if_pos (limE_zero.2 ht)]
        rw [if_pos (decide_eq_true ht), e]
        simp only [if_true]
        rw [x_refDemand fu (by omega) ok ht.1 ht.2, Option.bind_some, if_pos rfl]
        exact over
      · have e : deF l t = (0, 2) := by unfold deF tiE; rw [if_pos h0, limE_two ht, if_neg (by decide)]
        rw [if_neg (by rw [decide_eq_true_eq]; exact ht), e]
        simp only [if_true]
        exact over
    · have e1 : deF l t = (0, stE l) := by unfold deF; rw [if_neg h0]
      have e2 : ovF l = (0, stE l) := by unfold ovF; rw [if_neg h0]
      rw [if_neg h0, e1, e2]
      simp
end Go.Proofs.YtefkmidmjofdcaaGreat
