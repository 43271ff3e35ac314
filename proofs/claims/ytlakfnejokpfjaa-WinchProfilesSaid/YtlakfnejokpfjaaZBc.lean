/-
  Profiles of a winch: errors, sums of speeds; plain mathematics over the lifted functions.
-/
import Derived.Test.YtlakfnejokpfjaaZIa
import Derived.Test.YtlakfnejokpfjaaZBa
set_option linter.all false
namespace Go.Proofs.Ytlakfnejokpfjaa
open Go Go.RowKit

theorem p_limit (a lo hi : Int) : u_LimitError a lo hi = some (limE a lo hi) := by
  unfold u_LimitError limE
  by_cases h1 : a < lo
  · rw [if_pos h1, if_pos (.inl h1)]
  · rw [if_neg h1]
    by_cases h2 : hi < a
    · rw [if_pos h2, if_pos (.inr h2)]
    · rw [if_neg h2, if_neg (by omega)]
theorem p_within (n lo hi : Int) : b_Within n lo hi = some (decide (lo ≤ n ∧ n ≤ hi)) := by
  unfold b_Within
  by_cases h1 : lo ≤ n
  · by_cases h2 : n ≤ hi
    · simp [h1, h2]
    · simp [h1, h2]
  · simp [h1]
theorem p_runF_first : ∀ (l : List Int) (i : Nat), runF (fun _ (e : Int) (_ : Unit) => if e = 0 then (.inr () : Int ⊕ Unit) else .inl e) l i () = if firstE l = 0 then .inr () else .inl (firstE l)
  | [], _ => rfl
  | a :: r, i => by
    unfold runF firstE
    by_cases ha : a = 0
    · simp only [ha, if_true]; exact p_runF_first r (i + 1)
    · simp only [ha, if_false]
theorem p_first (fu : Nat) (l : List Int) (h : l.length < fu) (hl : l.length < 4611686018427387904) : u_FirstError fu l = some (firstE l) := by
  have := loop_run l (fun n i _ => u_FirstError_L1 fu l (l.length : Int) n (i : Int)) (fun _ (e : Int) (_ : Unit) => if e = 0 then (.inr () : Int ⊕ Unit) else .inl e) id
    (fun n s => by rw [u_FirstError_L1, if_neg (by omega)]; rfl)
    (fun n i e s he => by
      obtain ⟨h1, h2, h3⟩ := idx he
      rw [u_FirstError_L1, if_pos h1, if_pos h2, if_pos h1, h3, Option.bind_some]
      by_cases h0 : e = 0
      · simp only [h0, if_true]; rw [wrapS (by omega)]
      · simp only [h0, if_false]; rfl) fu 0 () (by omega) (by omega)
  unfold u_FirstError
  rw [show ((0 : Nat) : Int) = 0 from rfl] at this
  rw [this, List.drop_zero, p_runF_first, Option.bind_some]
  by_cases h0 : firstE l = 0
  · simp [h0]
  · simp [h0]
structure Lim (V P : Int) : Prop where
  v1 : 1 ≤ V
  v2 : V ≤ 100
  p1 : 1 ≤ P
  p2 : P ≤ 100
def limsE (V P : Int) : Int := firstE [limE V 1 100, limE P 1 100]
theorem lims_cases (V P : Int) : (limsE V P = 0 ∧ Lim V P) ∨ (limsE V P = 2 ∧ ¬ ((1 ≤ V ∧ V ≤ 100) ∧ (1 ≤ P ∧ P ≤ 100))) := by
  unfold limsE firstE firstE firstE
  by_cases h1 : 1 ≤ V ∧ V ≤ 100
  · rw [limE_zero.2 h1, if_pos rfl]
    by_cases h2 : 1 ≤ P ∧ P ≤ 100
    · rw [limE_zero.2 h2, if_pos rfl]; exact .inl ⟨rfl, h1.1, h1.2, h2.1, h2.2⟩
    · rw [limE_two h2]; exact .inr ⟨rfl, fun c => h2 c.2⟩
  · rw [limE_two h1]; exact .inr ⟨rfl, fun c => h1 c.1⟩
theorem p_limits (fu : Nat) (hf : 100 ≤ fu) (V P : Int) : w_limitsError fu V P = some (limsE V P) := by
  unfold w_limitsError
  rw [p_limit, Option.bind_some, p_limit, Option.bind_some, p_first fu _ (by simp; omega) (by simp)]; rfl

/-! ### Profiles that are given -/
def cp (V P : Int) : List Int → Nat → Int → Int → (Int × Int) ⊕ (Int × Int)
  | [], _, b, d => .inr (b, d)
  | e :: r, i, b, d => if 0 ≤ e ∧ e ≤ V then (if -P ≤ e - b ∧ e - b ≤ P then cp V P r (i + 1) e (d + e) else .inl ((i : Int), 22)) else .inl ((i : Int), 2)
theorem p_uwithin {x P : Int} (h1 : 1 ≤ P) (h2 : P ≤ 100) : u_Within x P = some (decide (-P ≤ x ∧ x ≤ P)) := by
  unfold u_Within
  rw [wrapB (by omega) (by omega)]
  by_cases c1 : 0 - P ≤ x
  · by_cases c2 : x ≤ P
    · rw [if_pos c1, if_pos c2, decide_eq_true ⟨by omega, c2⟩]
    · rw [if_pos c1, if_neg c2, decide_eq_false (by omega)]
  · rw [if_neg c1, decide_eq_false (by omega)]
theorem p_cp (fu : Nat) {V P : Int} (L : Lim V P) (l : List Int) (hl : l.length < 1000) : ∀ n i b d, i ≤ l.length → l.length - i < n → 0 ≤ b ∧ b ≤ 100 → 0 ≤ d ∧ d ≤ 100 * (i : Int) → w_CheckProfile_L1 fu l V P (l.length : Int) n b d ((i : Nat) : Int) = some (cp V P (l.drop i) i b d)
  | 0, i, b, d, _, h, _, _ => by omega
  | n + 1, i, b, d, hi, h, hb, hd => by
    obtain ⟨v1, v2, p1, p2⟩ := L
    rw [w_CheckProfile_L1]
    rcases Nat.lt_or_ge i l.length with h1 | h1
    · obtain ⟨a1, a2, a3⟩ := idx (List.getElem?_eq_getElem h1)
      rw [if_pos a1, if_pos a2, if_pos a1, a3, Option.bind_some, p_limit, Option.bind_some, List.drop_eq_getElem_cons h1, cp]
      by_cases c1 : 0 ≤ l[i] ∧ l[i] ≤ V
      · rw [if_pos (limE_zero.2 c1), if_pos c1, wrapB (by omega) (by omega), p_uwithin p1 p2, Option.bind_some]
        by_cases c2 : -P ≤ l[i] - b ∧ l[i] - b ≤ P
        · rw [if_pos (decide_eq_true c2), if_pos c2, wrapB (by omega) (by omega), wrapS (by omega)]
          exact p_cp fu ⟨v1, v2, p1, p2⟩ l hl n (i + 1) _ _ (by omega) (by omega) (by omega) (by omega)
        · rw [if_neg (by simpa using c2), if_neg c2]
      · rw [limE_two c1, if_neg (by decide), if_neg c1]
    · rw [if_neg (by omega), List.drop_of_length_le h1, cp]
def swp : (Int × Int) ⊕ (Int × Int) → (Int × Int) ⊕ (Int × Int)
  | .inl x => .inl x
  | .inr y => .inr (y.2, y.1)
theorem p_size {x : Int} (h1 : -1000 ≤ x) (h2 : x ≤ 1000) : b_Size x = some (if x < 0 then -x else x) := by
  unfold b_Size
  rw [wrapB (by omega) (by omega)]
  by_cases c : x < 0
  · rw [if_pos (by omega), if_pos c]; congr 1; omega
  · rw [if_neg (by omega), if_neg c]
theorem p_cpR (fu : Nat) {V P : Int} (L : Lim V P) (l : List Int) (hl : l.length < 1000) : ∀ n i b d, i ≤ l.length → l.length - i < n → 0 ≤ b ∧ b ≤ 100 → 0 ≤ d ∧ d ≤ 100 * (i : Int) → r2_ProfileErr_L1 fu l V P n d b ((i : Nat) : Int) = some (swp (cp V P (l.drop i) i b d))
  | 0, i, b, d, _, h, _, _ => by omega
  | n + 1, i, b, d, hi, h, hb, hd => by
    obtain ⟨v1, v2, p1, p2⟩ := L
    rw [r2_ProfileErr_L1]
    rcases Nat.lt_or_ge i l.length with h1 | h1
    · obtain ⟨a1, a2, a3⟩ := idx (List.getElem?_eq_getElem h1)
      rw [if_pos a1, if_pos a2, a3, Option.bind_some, p_within, Option.bind_some, List.drop_eq_getElem_cons h1, cp]
      by_cases c1 : 0 ≤ l[i] ∧ l[i] ≤ V
      · rw [if_pos (decide_eq_true c1), if_pos c1, wrapB (by omega) (by omega), p_size (by omega) (by omega), Option.bind_some]
        by_cases c2 : -P ≤ l[i] - b ∧ l[i] - b ≤ P
        · rw [if_neg (by split <;> omega), if_pos c2, wrapB (by omega) (by omega), wrapS (by omega)]
          exact p_cpR fu ⟨v1, v2, p1, p2⟩ l hl n (i + 1) _ _ (by omega) (by omega) (by omega) (by omega)
        · rw [if_pos (by split <;> omega), if_neg c2]; rfl
      · rw [if_neg (by simpa using c1), if_neg c1]; rfl
    · rw [if_neg (by omega), List.drop_of_length_le h1, cp]; rfl
def cpO (P : Int) (n : Nat) : (Int × Int) ⊕ (Int × Int) → Int × Int
  | .inl x => x
  | .inr y => if P < y.1 then (IntKind.wrap .i64 ((n : Int) - 1), 21) else (y.2, 0)
def cpE (V P : Int) (l : List Int) : Int × Int := if (200 : Int) < (l.length : Int) then (0, 8) else cpO P l.length (cp V P l 0 0 0)
theorem p_check (fu : Nat) (hf : 1000 ≤ fu) (V P : Int) (l : List Int) (hl : l.length ≤ 202) : w_CheckProfile fu V P l = some (if limsE V P = 0 then cpE V P l else (0, limsE V P)) := by
  unfold w_CheckProfile cpE
  rw [p_limits fu (by omega), Option.bind_some]
  rcases lims_cases V P with ⟨h0, L⟩ | ⟨h0, L⟩
  · rw [h0, if_pos rfl, if_pos rfl]
    by_cases h : (200 : Int) < (l.length : Int)
    · rw [if_pos h, if_pos h]
    · rw [if_neg h, if_neg h]
      have e := p_cp fu L l (by omega) fu 0 0 0 (by omega) (by omega) (by omega) (by omega)
      rw [show ((0 : Nat) : Int) = 0 from rfl, List.drop_zero] at e
      rw [e, Option.bind_some]
      cases cp V P l 0 0 0 with
      | inl x => rfl
      | inr y =>
        unfold cpO
        by_cases c : P < y.1
        · simp only [if_pos c]
        · simp only [if_neg c]
  · rw [h0, if_neg (by decide), if_neg (by decide)]
theorem p_profErr (fu : Nat) (hf : 1000 ≤ fu) {V P : Int} (L : Lim V P) (l : List Int) (hl : l.length ≤ 202) : r2_ProfileErr fu V P l = some (cpE V P l) := by
  unfold r2_ProfileErr cpE
  by_cases h : (200 : Int) < (l.length : Int)
  · rw [if_pos h, if_pos h]
  · rw [if_neg h, if_neg h]
    have e := p_cpR fu L l (by omega) fu 0 0 0 (by omega) (by omega) (by omega) (by omega)
    rw [show ((0 : Nat) : Int) = 0 from rfl, List.drop_zero] at e
    rw [e, Option.bind_some]
    cases cp V P l 0 0 0 with
    | inl x => rfl
    | inr y =>
      unfold cpO swp
      by_cases c : P < y.1
      · simp only [if_pos c]
      · simp only [if_neg c]

/-! ### Sums -/
theorem pk {P : Int} (h1 : 1 ≤ P) (h2 : P ≤ 100) {k : Int} (h3 : 0 ≤ k) (h4 : k ≤ 1000) : 0 ≤ P * k ∧ P * k ≤ 100000 ∧ k ≤ P * k := by
  have a := Int.mul_nonneg (show 0 ≤ P by omega) h3
  have b : P * k ≤ 100 * 1000 := Int.mul_le_mul h2 h4 h3 (by omega)
  have c : 1 * k ≤ P * k := Int.mul_le_mul_of_nonneg_right h1 h3
  omega
theorem pmul_succ (P k : Int) : P * (k + 1) = P * k + P := by rw [Int.mul_add, Int.mul_one]
theorem pmono {P a b : Int} (h : 1 ≤ P) (hab : a ≤ b) : P * a ≤ P * b := Int.mul_le_mul_of_nonneg_left hab (by omega)
/-- The least sum of so many speeds behind a speed. -/
def sh (w P : Int) : Nat → Int
  | 0 => 0
  | m + 1 => sh w P m + (if 0 < w - P * ((m : Int) + 1) then w - P * ((m : Int) + 1) else 0)
def mnI (a b : Int) : Int := if a ≤ b then a else b
/-- The greatest i-th of n speeds behind a speed, and the sum of the first m of them. -/
def tm (v P V : Int) (n i : Nat) : Int := mnI V (mnI (v + P * (i : Int)) (P * ((n : Int) + 1 - (i : Int))))
def fa (v P V : Int) (n : Nat) : Nat → Int
  | 0 => 0
  | m + 1 => fa v P V n m + tm v P V n (m + 1)
theorem sh_range {w P : Int} (h1 : 1 ≤ P) (h2 : P ≤ 100) (h3 : 0 ≤ w) (h4 : w ≤ 100) : ∀ m, m ≤ 500 → 0 ≤ sh w P m ∧ sh w P m ≤ 100 * (m : Int)
  | 0, _ => ⟨Int.le_refl _, Int.le_refl _⟩
  | m + 1, hm => by
    obtain ⟨a, b⟩ := sh_range h1 h2 h3 h4 m (by omega)
    obtain ⟨c, d, _⟩ := pk h1 h2 (k := (m : Int) + 1) (by omega) (by omega)
    unfold sh
    split <;> omega
theorem tm_range {v P V : Int} (L : Lim V P) (h3 : 0 ≤ v) {n i : Nat} (hi : i ≤ n) (hn : n ≤ 300) : 0 ≤ tm v P V n i ∧ tm v P V n i ≤ 100 := by
  obtain ⟨v1, v2, p1, p2⟩ := L
  obtain ⟨c, d, _⟩ := pk p1 p2 (k := (i : Int)) (by omega) (by omega)
  obtain ⟨c', d', _⟩ := pk p1 p2 (k := (n : Int) + 1 - (i : Int)) (by omega) (by omega)
  unfold tm mnI
  split <;> split at * <;> omega
theorem fa_range {v P V : Int} (L : Lim V P) (h3 : 0 ≤ v) {n : Nat} (hn : n ≤ 300) : ∀ m, m ≤ n → 0 ≤ fa v P V n m ∧ fa v P V n m ≤ 100 * (m : Int)
  | 0, _ => ⟨Int.le_refl _, Int.le_refl _⟩
  | m + 1, hm => by
    obtain ⟨a, b⟩ := fa_range L h3 hn m (by omega)
    obtain ⟨c, d⟩ := tm_range L h3 (show m + 1 ≤ n from hm) hn
    unfold fa
    omega
theorem p_far (fu : Nat) {v P V : Int} (L : Lim V P) (h3 : 0 ≤ v) (h4 : v ≤ 100) {n : Nat} (hn : n ≤ 200) : ∀ k i, i ≤ n → n - i < k → r2_farthest_L1 fu v (n : Int) V P k (fa v P V n i) ((i : Int) + 1) = some (fa v P V n n)
  | 0, i, _, h => by omega
  | k + 1, i, hi, h => by
    have L' := L
    obtain ⟨v1, v2, p1, p2⟩ := L'
    rw [r2_farthest_L1]
    rcases Nat.lt_or_ge i n with h1 | h1
    · obtain ⟨c, d, _⟩ := pk p1 p2 (k := (i : Int) + 1) (by omega) (by omega)
      obtain ⟨c', d', _⟩ := pk p1 p2 (k := (n : Int) - (i : Int)) (by omega) (by omega)
      obtain ⟨f1, f2⟩ := fa_range L h3 (show n ≤ 300 by omega) i (by omega)
      have ih := p_far fu L h3 h4 hn k (i + 1) (by omega) (by omega)
      rw [show ((i + 1 : Nat) : Int) + 1 = (i : Int) + 1 + 1 by omega, fa] at ih
      have key : tm v P V n (i + 1) = mnI V (mnI (v + P * ((i : Int) + 1)) (P * ((n : Int) - (i : Int)))) := by
        unfold tm
        rw [show ((i + 1 : Nat) : Int) = (i : Int) + 1 by omega, show (n : Int) + 1 - ((i : Int) + 1) = (n : Int) - (i : Int) by omega]
      rw [key] at ih
      rw [if_pos (by omega), wrapB (x := (n : Int) + 1) (by omega) (by omega), show (n : Int) + 1 - ((i : Int) + 1) = (n : Int) - (i : Int) by omega, wrapB (x := (n : Int) - (i : Int)) (by omega) (by omega), wrapB (x := P * ((n : Int) - (i : Int))) (by omega) (by omega), wrapB (x := P * ((i : Int) + 1)) (by omega) (by omega), wrapB (x := v + P * ((i : Int) + 1)) (by omega) (by omega), wrapB (x := (i : Int) + 1 + 1) (by omega) (by omega)]
      generalize P * ((n : Int) - (i : Int)) = A at *
      generalize P * ((i : Int) + 1) = B at *
      rw [wrapB (x := fa v P V n i + A) (by omega) (by omega), wrapB (x := fa v P V n i + V) (by omega) (by omega), wrapB (x := fa v P V n i + (v + B)) (by omega) (by omega)]
      unfold mnI at ih
      by_cases c1 : A < v + B
      · rw [if_pos c1]
        rw [if_neg (show ¬ v + B ≤ A by omega)] at ih
        by_cases c2 : A < V
        · rw [if_pos c2]; rw [if_neg (show ¬ V ≤ A by omega)] at ih; exact ih
        · rw [if_neg c2]; rw [if_pos (show V ≤ A by omega)] at ih; exact ih
      · rw [if_neg c1]
        rw [if_pos (show v + B ≤ A by omega)] at ih
        by_cases c2 : v + B < V
        · rw [if_pos c2]; rw [if_neg (show ¬ V ≤ v + B by omega)] at ih; exact ih
        · rw [if_neg c2]; rw [if_pos (show V ≤ v + B by omega)] at ih; exact ih
    · rw [if_neg (by omega), show i = n by omega]
theorem p_farthest (fu : Nat) (hf : 1000 ≤ fu) {v P V : Int} (L : Lim V P) (h3 : 0 ≤ v) (h4 : v ≤ 100) {n : Nat} (hn : n ≤ 200) : r2_farthest fu V P v (n : Int) = some (fa v P V n n) := by
  unfold r2_farthest
  have e := p_far fu L h3 h4 hn fu 0 (by omega) (by omega)
  rw [fa, show ((0 : Nat) : Int) + 1 = 1 from rfl] at e
  rw [e]; rfl
theorem p_farW (fu : Nat) {P V : Int} (L : Lim V P) {n : Nat} (hn : n ≤ 200) : ∀ k i, i ≤ n → n - i < k → w_limits_farthest_L1 fu (n : Int) V P k (fa 0 P V n i) ((i : Nat) : Int) = some (fa 0 P V n n)
  | 0, i, _, h => by omega
  | k + 1, i, hi, h => by
    have L' := L
    obtain ⟨v1, v2, p1, p2⟩ := L'
    rw [w_limits_farthest_L1]
    rcases Nat.lt_or_ge i n with h1 | h1
    · obtain ⟨c, d, _⟩ := pk p1 p2 (k := (i : Int) + 1) (by omega) (by omega)
      obtain ⟨c', d', _⟩ := pk p1 p2 (k := (n : Int) - (i : Int)) (by omega) (by omega)
      obtain ⟨f1, f2⟩ := fa_range L (Int.le_refl 0) (show n ≤ 300 by omega) i (by omega)
      have ih := p_farW fu L hn k (i + 1) (by omega) (by omega)
      rw [show ((i + 1 : Nat) : Int) = (i : Int) + 1 by omega, fa] at ih
      have key : tm 0 P V n (i + 1) = mnI V (mnI (0 + P * ((i : Int) + 1)) (P * ((n : Int) - (i : Int)))) := by
        unfold tm
        rw [show ((i + 1 : Nat) : Int) = (i : Int) + 1 by omega, show (n : Int) + 1 - ((i : Int) + 1) = (n : Int) - (i : Int) by omega]
      rw [key] at ih
      rw [if_pos (by omega), wrapB (x := (i : Int) + 1) (by omega) (by omega), wrapB (x := (n : Int) - (i : Int)) (by omega) (by omega), wrapB (x := P * ((n : Int) - (i : Int))) (by omega) (by omega), wrapB (x := P * ((i : Int) + 1)) (by omega) (by omega)]
      generalize P * ((n : Int) - (i : Int)) = A at *
      generalize P * ((i : Int) + 1) = B at *
      rw [wrapB (x := fa 0 P V n i + A) (by omega) (by omega), wrapB (x := fa 0 P V n i + V) (by omega) (by omega), wrapB (x := fa 0 P V n i + B) (by omega) (by omega)]
      unfold mnI at ih
      rw [show 0 + B = B by omega] at ih
      by_cases c1 : B < V
      · rw [if_pos c1]
        by_cases c2 : A < B
        · rw [if_pos c2]; rw [if_neg (show ¬ B ≤ A by omega), if_neg (show ¬ V ≤ A by omega)] at ih; exact ih
        · rw [if_neg c2]; rw [if_pos (show B ≤ A by omega), if_neg (show ¬ V ≤ B by omega)] at ih; exact ih
      · rw [if_neg c1]
        by_cases c2 : A < V
        · rw [if_pos c2]; rw [if_neg (show ¬ B ≤ A by omega), if_neg (show ¬ V ≤ A by omega)] at ih; exact ih
        · rw [if_neg c2]
          by_cases c3 : B ≤ A
          · rw [if_pos c3, if_pos (show V ≤ B by omega)] at ih; exact ih
          · rw [if_neg c3, if_pos (show V ≤ A by omega)] at ih; exact ih
    · rw [if_neg (by omega), show i = n by omega]
theorem p_farthestW (fu : Nat) (hf : 1000 ≤ fu) {P V : Int} (L : Lim V P) {n : Nat} (hn : n ≤ 200) : w_limits_farthest fu V P (n : Int) = some (fa 0 P V n n) := by
  unfold w_limits_farthest
  have e := p_farW fu L hn fu 0 (by omega) (by omega)
  rw [fa, show ((0 : Nat) : Int) = 0 from rfl] at e
  rw [e]; rfl
theorem p_short (fu : Nat) {w P : Int} (V : Int) (p1 : 1 ≤ P) (p2 : P ≤ 100) (h3 : 0 ≤ w) (h4 : w ≤ 100) {n : Nat} (hn : n ≤ 200) : ∀ k i, i ≤ n → n - i < k → r2_shortest_L1 fu w (n : Int) V P k (sh w P i) ((i : Int) + 1) = some (sh w P n)
  | 0, i, _, h => by omega
  | k + 1, i, hi, h => by
    rw [r2_shortest_L1]
    rcases Nat.lt_or_ge i n with h1 | h1
    · obtain ⟨c, d, _⟩ := pk p1 p2 (k := (i : Int) + 1) (by omega) (by omega)
      obtain ⟨f1, f2⟩ := sh_range p1 p2 h3 h4 i (by omega)
      have ih := p_short fu V p1 p2 h3 h4 hn k (i + 1) (by omega) (by omega)
      rw [show ((i + 1 : Nat) : Int) + 1 = (i : Int) + 1 + 1 by omega, sh] at ih
      rw [if_pos (by omega), wrapB (x := P * ((i : Int) + 1)) (by omega) (by omega), wrapB (x := w - P * ((i : Int) + 1)) (by omega) (by omega), wrapB (x := (i : Int) + 1 + 1) (by omega) (by omega), wrapB (x := sh w P i + 0) (by omega) (by omega), wrapB (x := sh w P i + (w - P * ((i : Int) + 1))) (by omega) (by omega)]
      by_cases c1 : 0 < w - P * ((i : Int) + 1)
      · rw [if_pos c1]; rw [if_pos c1] at ih; exact ih
      · rw [if_neg c1]; rw [if_neg c1] at ih; exact ih
    · rw [if_neg (by omega), show i = n by omega]
theorem p_shortest (fu : Nat) (hf : 1000 ≤ fu) {w P : Int} (V : Int) (p1 : 1 ≤ P) (p2 : P ≤ 100) (h3 : 0 ≤ w) (h4 : w ≤ 100) {n : Nat} (hn : n ≤ 200) : r2_shortest fu V P w (n : Int) = some (sh w P n) := by
  unfold r2_shortest
  have e := p_short fu V p1 p2 h3 h4 hn fu 0 (by omega) (by omega)
  rw [sh, show ((0 : Nat) : Int) + 1 = 1 from rfl] at e
  rw [e]; rfl
theorem sh_end {w P : Int} (p1 : 1 ≤ P) {i : Nat} (h : w ≤ P * ((i : Int) + 1)) : ∀ j, sh w P (i + j) = sh w P i
  | 0 => rfl
  | j + 1 => by
    have := pmono p1 (show (i : Int) + 1 ≤ ((i + j : Nat) : Int) + 1 by omega)
    rw [show i + (j + 1) = (i + j) + 1 from rfl, sh, if_neg (by omega), sh_end p1 h j]; omega
theorem sh_st {w P : Int} (p1 : 1 ≤ P) {i : Nat} (hi : i ≤ 300) (h : w ≤ P * ((i : Int) + 1)) : sh w P i = sh w P 300 := by
  have := sh_end p1 h (300 - i)
  rw [show i + (300 - i) = 300 by omega] at this
  exact this.symm
theorem p_stop (fu : Nat) {w P : Int} (V : Int) (p1 : 1 ≤ P) (p2 : P ≤ 100) (h3 : 0 ≤ w) (h4 : w ≤ 100) : ∀ k i, i ≤ 200 → 200 - i < k → w_limits_stopping_L1 fu V P k (sh w P i) (w - P * ((i : Int) + 1)) = some (sh w P 300)
  | 0, i, _, h => by omega
  | k + 1, i, hi, h => by
    obtain ⟨c, d, e⟩ := pk p1 p2 (k := (i : Int) + 1) (by omega) (by omega)
    rw [w_limits_stopping_L1]
    by_cases c1 : 0 < w - P * ((i : Int) + 1)
    · obtain ⟨f1, f2⟩ := sh_range p1 p2 h3 h4 i (by omega)
      have ih := p_stop fu V p1 p2 h3 h4 k (i + 1) (by omega) (by omega)
      rw [sh, if_pos c1, show ((i + 1 : Nat) : Int) + 1 = (i : Int) + 1 + 1 by omega, pmul_succ P ((i : Int) + 1)] at ih
      rw [if_pos c1, wrapB (x := sh w P i + (w - P * ((i : Int) + 1))) (by omega) (by omega), wrapB (x := w - P * ((i : Int) + 1) - P) (by omega) (by omega), show w - P * ((i : Int) + 1) - P = w - (P * ((i : Int) + 1) + P) by omega]
      exact ih
    · rw [if_neg c1, sh_st p1 (by omega) (by omega)]
theorem p_stopping (fu : Nat) (hf : 1000 ≤ fu) {w P : Int} (V : Int) (p1 : 1 ≤ P) (p2 : P ≤ 100) (h3 : 0 ≤ w) (h4 : w ≤ 100) : w_limits_stopping fu V P w = some (sh w P 300) := by
  unfold w_limits_stopping
  have e := p_stop fu V p1 p2 h3 h4 fu 0 (by omega) (by omega)
  rw [sh, show ((0 : Nat) : Int) + 1 = 1 from rfl, Int.mul_one] at e
  rw [wrapB (by omega) (by omega), e]; rfl
end Go.Proofs.Ytlakfnejokpfjaa
