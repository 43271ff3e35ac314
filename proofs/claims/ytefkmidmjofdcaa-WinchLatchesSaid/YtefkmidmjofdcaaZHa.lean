/-
  Latches: the program's functions and the reference's, as Lean functions, are the same.
-/
import Derived.Test.YtefkmidmjofdcaaZGd
set_option linter.all false
namespace Go.Proofs.Ytefkmidmjofdcaa
open Go Go.RowKit

theorem lim_zero {p : Prop} [Decidable p] : ((if p then (2 : Int) else 0) = 0) ↔ ¬ p := by
  split <;> simp_all
theorem at_cons {α : Type} {l : List α} {i : Nat} {a : α} {r : List α} (h : l.drop i = a :: r) : (i : Int) < (l.length : Int) ∧ (0 : Int) ≤ (i : Int) ∧ l[0 + ((i : Int)).toNat]? = some a ∧ l.drop (i + 1) = r ∧ r.length + i + 1 = l.length := by
  have hl := congrArg List.length h
  rw [List.length_drop, List.length_cons] at hl
  refine ⟨by omega, by omega, ?_, ?_, by omega⟩
  · have := congrArg (fun x : List α => x[0]?) h
    simp only [List.getElem?_drop, List.getElem?_cons_zero] at this
    rw [Int.toNat_natCast, Nat.zero_add]
    exact this
  · rw [← List.drop_drop, h]; rfl
theorem wrap_nat {i : Nat} (h : i < 4611686018427387904) : IntKind.wrap .i64 ((i : Int) + 1) = ((i + 1 : Nat) : Int) := by
  rw [IntKind.wrap_i64]; omega
theorem wrap_pred {i : Nat} (h : i + 1 < 4611686018427387904) : IntKind.wrap .i64 (((i + 1 : Nat) : Int) - 1) = (i : Int) := by
  rw [IntKind.wrap_i64]; omega
def firstE : List Int → Int
  | [] => 0
  | a :: r => if a = 0 then firstE r else a
theorem firstError_L1 (fu : Nat) (l : List Int) (hl : l.length < 4611686018427387904) : ∀ (r : List Int) (i n : Nat), l.drop i = r → i ≤ l.length → r.length < n → u_FirstError_L1 fu l (l.length : Int) n (i : Int) = some (if firstE r = 0 then .inr () else .inl (firstE r))
  | _, _, 0, _, _, h => by omega
  | [], i, n + 1, h, hi, _ => by
    have h2 := congrArg List.length h
    rw [List.length_drop, List.length_nil] at h2
    rw [u_FirstError_L1, if_neg (by omega)]
    rfl
  | a :: r, i, n + 1, h, hi, hn => by
    obtain ⟨h1, h2, h3, h4, h5⟩ := at_cons h
    rw [u_FirstError_L1, if_pos h1, if_pos h2, if_pos h1, h3, Option.bind_some]
    rw [List.length_cons] at hn
    by_cases ha : a = 0
    · rw [if_pos ha, wrap_nat (by omega), firstError_L1 fu l hl r (i + 1) n h4 (by omega) (by omega)]
      simp only [firstE, ha, if_true]
    · rw [if_neg ha]
      simp only [firstE, ha, if_false]
theorem firstError_eq (fu : Nat) (l : List Int) (h : l.length < fu) (hl : l.length < 4611686018427387904) : u_FirstError fu l = some (firstE l) := by
  have := firstError_L1 fu l hl l 0 fu rfl (Nat.zero_le _) h
  unfold u_FirstError
  rw [show ((0 : Nat) : Int) = 0 from rfl] at this
  rw [this, Option.bind_some]
  by_cases h0 : firstE l = 0
  · rw [if_pos h0, h0]
  · rw [if_neg h0]
theorem limit_eq (a lo hi : Int) : u_LimitError a lo hi = some (if a < lo ∨ hi < a then 2 else 0) := by
  unfold u_LimitError
  by_cases h1 : a < lo
  · rw [if_pos h1, if_pos (.inl h1)]
  · rw [if_neg h1]
    by_cases h2 : hi < a
    · rw [if_pos h2, if_pos (.inr h2)]
    · rw [if_neg h2, if_neg (by omega)]
theorem within_eq (n lo hi : Int) : b_Within n lo hi = some (decide (lo ≤ n ∧ n ≤ hi)) := by
  unfold b_Within
  by_cases h1 : lo ≤ n
  · rw [if_pos h1]
    by_cases h2 : n ≤ hi
    · rw [if_pos h2]; simp [h1, h2]
    · rw [if_neg h2]; simp [h2]
  · rw [if_neg h1]; simp [h1]
theorem isLoad_eq (n : Int) : r2_isLoad n = some (decide (0 ≤ n ∧ n ≤ 100000)) := by
  unfold r2_isLoad
  rw [within_eq, Option.bind_some]
  split <;> simp_all
theorem isTick_eq (n : Int) : b_IsTick n = some (decide (0 ≤ n ∧ n ≤ 1000000000000)) := by
  unfold b_IsTick
  rw [within_eq, Option.bind_some]
  split <;> simp_all
def latE (L H : Int) : Int := if (L < 0 ∨ 100000 < L) ∨ (H < 0 ∨ 100000 < H) then 2 else 0
theorem w_latch_eq {fu : Nat} (hf : 5 ≤ fu) (L H : Int) : w_latchError fu L H = some (latE L H) := by
  unfold w_latchError latE
  rw [limit_eq, limit_eq, Option.bind_some, Option.bind_some, firstError_eq _ _ (by simp; omega) (by simp), Option.bind_some]
  congr 1
  simp only [firstE, lim_zero]
  (repeat' split) <;> first | rfl | (exfalso; omega)
theorem r2_latch_eq (L H : Int) : r2_LatchErr L H = some (latE L H) := by
  unfold r2_LatchErr latE
  rw [isLoad_eq, isLoad_eq, Option.bind_some, Option.bind_some]
  simp only [decide_eq_true_eq]
  (repeat' split) <;> first | rfl | (exfalso; omega)
def stE (L ld si : Int) : Int := if (ld < 0 ∨ 100000 < ld) ∨ (si < -1 ∨ 1000000000000 < si) then 2 else if si = -1 then (if L < ld then 0 else 3) else (if L < ld then 3 else 0)
theorem w_state_eq {fu : Nat} (hf : 5 ≤ fu) (L H : Int) (c : Bool) (ld si : Int) : w_latch_stateError fu L H c ld si = some (stE L ld si) := by
  unfold w_latch_stateError stE
  rw [limit_eq, limit_eq, Option.bind_some, Option.bind_some, firstError_eq _ _ (by simp; omega) (by simp), Option.bind_some]
  simp only [firstE, lim_zero]
  (repeat' split) <;> first | rfl | (exfalso; omega) | simp_all
theorem r2_state_eq (L H : Int) (c : Bool) (ld si : Int) : r2_LatchedErr L H c ld si = some (stE L ld si) := by
  unfold r2_LatchedErr stE
  rw [isLoad_eq, within_eq, Option.bind_some, Option.bind_some]
  simp only [decide_eq_true_eq]
  (repeat' split) <;> first | rfl | (exfalso; omega)
def evE (t k v : Int) : Int := if t < 0 ∨ 1000000000000 < t then 2 else if k < 0 ∨ 3 ≤ k then 15 else if k = 0 then (if v < 0 ∨ 100000 < v then 2 else 0) else (if v < 0 ∨ 0 < v then 2 else 0)
theorem kind_eq (k n : Int) : u_KindError k n = some (if k < 0 ∨ n ≤ k then 15 else 0) := by
  unfold u_KindError
  by_cases h1 : k < 0
  · rw [if_pos h1, if_pos (.inl h1)]
  · rw [if_neg h1]
    by_cases h2 : n ≤ k
    · rw [if_pos h2, if_pos (.inr h2)]
    · rw [if_neg h2, if_neg (by omega)]
theorem w_event_eq {fu : Nat} (hf : 5 ≤ fu) (t k v : Int) : w_eventError fu t k v = some (evE t k v) := by
  unfold w_eventError evE
  rw [limit_eq, Option.bind_some, kind_eq, Option.bind_some, firstError_eq _ _ (by simp <;> omega) (by simp), Option.bind_some, limit_eq, limit_eq]
  by_cases c1 : t < 0 ∨ 1000000000000 < t
  · simp [firstE, c1]
  · by_cases c2 : k < 0 ∨ 3 ≤ k
    · simp [firstE, c1, c2]
    · by_cases c3 : k = 0 <;> simp [firstE, c1, c2, c3]
theorem r2_event_eq (t k v : Int) : r2_EventErr t k v = some (evE t k v) := by
  unfold r2_EventErr evE
  simp only [isTick_eq, within_eq, isLoad_eq, Option.bind_some, decide_eq_true_eq]
  (repeat' split) <;> first | rfl | (exfalso; omega)
theorem evE_kind {t k v : Int} (h : evE t k v = 0) : 0 ≤ t ∧ 0 ≤ k ∧ k ≤ 2 := by
  unfold evE at h
  (repeat' split at h) <;> omega
theorem latched_eq {L H : Int} {c : Bool} {ld si t k v : Int} (h0 : 0 ≤ k) (h2 : k ≤ 2) : w_latch_next L H c ld si t k v = r2_Latched L H c ld si t k v := by
  unfold w_latch_next w_latch_loaded r2_Latched
  cases c <;> (repeat' split) <;> first | rfl | (exfalso; omega) | simp_all
theorem latched_some (L H : Int) (c : Bool) (ld si t k v : Int) : ∃ x, r2_Latched L H c ld si t k v = some x := by
  refine Option.isSome_iff_exists.1 ?_
  unfold r2_Latched
  (repeat' split) <;> rfl
theorem next_eq {fu : Nat} (hf : 5 ≤ fu) (L H : Int) (c : Bool) (ld si t k v : Int) : ∃ x, w_NextLatch fu L H c ld si t k v = some x ∧ r2_NextErr L H c ld si t k v = some x := by
  obtain ⟨x, hx⟩ := latched_some L H c ld si t k v
  unfold w_NextLatch r2_NextErr
  rw [w_latch_eq hf, w_state_eq hf, w_event_eq hf, r2_latch_eq, r2_state_eq, r2_event_eq]
  simp only [Option.bind_some]
  rw [firstError_eq _ _ (by simp; omega) (by simp), Option.bind_some]
  by_cases e1 : latE L H = 0
  · by_cases e2 : stE L ld si = 0
    · by_cases e3 : evE t k v = 0
      · obtain ⟨_, k1, k2⟩ := evE_kind e3
        simp only [firstE, e1, e2, e3, if_true, latched_eq k1 k2, hx, Option.bind_some]
        by_cases e4 : t < si
        · simp only [e4, if_true]; exact ⟨_, rfl, rfl⟩
        · simp only [e4, if_false]; exact ⟨_, rfl, rfl⟩
      · simp only [firstE, e1, e2, e3, if_true, if_false]; exact ⟨_, rfl, rfl⟩
    · simp only [firstE, e1, e2, if_true, if_false]; exact ⟨_, rfl, rfl⟩
  · simp only [firstE, e1, if_false]; exact ⟨_, rfl, rfl⟩
end Go.Proofs.Ytefkmidmjofdcaa
