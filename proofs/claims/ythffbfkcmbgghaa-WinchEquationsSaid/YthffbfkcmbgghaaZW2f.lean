/-
  Which predictors are accepted: program and document.
-/
import Derived.Test.YthffbfkcmbgghaaZW2e
set_option linter.all false
namespace Go.Proofs.Ythffbfkcmbgghaa
open Go Go.RowKit
def eqA (l : List Int) (A B D : Int) (k : Nat) (N : Nat) : Prop := sm l k 1 N * A + sm l k 2 N * B = sm l k 0 N * D
instance (l : List Int) (A B D : Int) (k N : Nat) : Decidable (eqA l A B D k N) := by unfold eqA; infer_instance
def prf (l : List Int) (A B D : Int) (N : Nat) : Int × Int := if eqA l A B D 1 N then (if eqA l A B D 2 N then (if dT l N = 0 then (0, 11) else (0, 0)) else (1, 19)) else (0, 19)
theorem predE_ok {a b d : Int} (h : predE a b d = 0) : (1 ≤ d ∧ d ≤ 1000000000000) ∧ (-1000000000000 ≤ a ∧ a ≤ 1000000000000) ∧ (-1000000000000 ≤ b ∧ b ≤ 1000000000000) := by
  unfold predE at h
  split at h
  · assumption
  · omega
theorem big_in {l : List Int} (hs : smallL l) {N : Nat} (hN : N ≤ 20) (a b : Nat) {x : Int} (hx : -1000000000000 ≤ x ∧ x ≤ 1000000000000) : -200000000000000000 ≤ sm l a b N * x ∧ sm l a b N * x ≤ 200000000000000000 := by
  have := mulB (s_in hs hN a b) hx; omega
theorem w_eqi {l : List Int} (hs : smallL l) {N : Nat} (hN : N ≤ 20) {A B D : Int} (hA : -1000000000000 ≤ A ∧ A ≤ 1000000000000) (hB : -1000000000000 ≤ B ∧ B ≤ 1000000000000) (hD : -1000000000000 ≤ D ∧ D ≤ 1000000000000) (k : Nat) :
    (IntKind.wrap .i64 (IntKind.wrap .i64 (sm l k 1 N * A) + IntKind.wrap .i64 (sm l k 2 N * B)) = IntKind.wrap .i64 (sm l k 0 N * D)) ↔ eqA l A B D k N := by
  have h1 := big_in hs hN k 1 hA
  have h2 := big_in hs hN k 2 hB
  have h3 := big_in hs hN k 0 hD
  rw [wrapB (x := sm l k 1 N * A) (by omega) (by omega), wrapB (x := sm l k 2 N * B) (by omega) (by omega), wrapB (x := sm l k 0 N * D) (by omega) (by omega), wrapB (x := sm l k 1 N * A + sm l k 2 N * B) (by omega) (by omega)]
  exact Iff.rfl
theorem w_chkp {fu : Nat} (hf : 18446744073709551616 ≤ fu) {l : List Int} (hl : l.length ≤ 22) (A B D : Int) : w_CheckPredictor fu l A B D = some (if firstE [smpE l, predE A B D] = 0 then prf l A B D (l.length - 2) else (0, firstE [smpE l, predE A B D])) := by
  unfold w_CheckPredictor
  rw [wSamples_eq fu hf l hl, Option.bind_some, wPred_eq fu hf, Option.bind_some, firstE_eq fu _ (by simp; omega) (by simp), Option.bind_some]
  by_cases h : firstE [smpE l, predE A B D] = 0
  · have h' := h
    simp only [firstE] at h'
    have e1 : smpE l = 0 := by
      by_cases q : smpE l = 0
      · exact q
      · rw [if_neg q] at h'; exact absurd h' q
    have e2 : predE A B D = 0 := by
      rw [if_pos e1] at h'
      by_cases q : predE A B D = 0
      · exact q
      · rw [if_neg q] at h'; exact absurd h' q
    obtain ⟨h1, h2, hs⟩ := smpE_ok e1
    obtain ⟨hD, hA, hB⟩ := predE_ok e2
    have hN : l.length - 2 ≤ 20 := by omega
    rw [if_pos h, if_pos h, w_eqs (by omega) hs hl (N := l.length - 2) (by omega), Option.bind_some]
    simp only []
    obtain ⟨fu2, rfl⟩ : ∃ k, fu = k + 3 := ⟨fu - 3, by omega⟩
    have q1 := w_eqi hs hN hA hB (D := D) ⟨by omega, by omega⟩ 1
    have q2 := w_eqi hs hN hA hB (D := D) ⟨by omega, by omega⟩ 2
    have z0 : IntKind.wrap .i64 ((0 : Int) + 1) = 1 := by rw [wrapB] <;> omega
    have z1 : IntKind.wrap .i64 ((1 : Int) + 1) = 2 := by rw [wrapB] <;> omega
    unfold prf
    rw [w_CheckPredictor_L1, if_pos (by omega), if_neg (by omega), if_pos rfl]
    by_cases c1 : eqA l A B D 1 (l.length - 2)
    · rw [if_pos (q1.2 c1), if_pos c1, z0, w_CheckPredictor_L1, if_pos (by omega), if_pos rfl]
      by_cases c2 : eqA l A B D 2 (l.length - 2)
      · rw [if_pos (q2.2 c2), if_pos c2, z1, w_CheckPredictor_L1, if_neg (by omega)]
        simp only [Option.bind_some]
        rw [w_det hs hN, Option.bind_some]
        split <;> rfl
      · rw [if_neg (fun q => c2 (q2.1 q)), if_neg c2]; rfl
    · rw [if_neg (fun q => c1 (q1.1 q)), if_neg c1]; rfl
  · rw [if_neg h, if_neg h]
end Go.Proofs.Ythffbfkcmbgghaa
