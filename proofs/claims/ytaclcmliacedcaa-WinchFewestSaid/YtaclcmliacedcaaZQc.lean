/-
  Profiles of a winch, without the reference: errors, sums, the greedy choice, profiles that are accepted.
-/
import Derived.Test.YtaclcmliacedcaaZIa
import Derived.Test.YtaclcmliacedcaaZQa
set_option linter.all false
namespace Go.Proofs.Ytaclcmliacedcaa
open Go Go.RowKit


theorem p_limit (a lo hi : Int) : u_LimitError a lo hi = some (limE a lo hi) := by
  unfold u_LimitError limE
  by_cases h1 : a < lo
  · rw [if_pos h1, if_pos (.inl h1)]
  · rw [if_neg h1]
    by_cases h2 : hi < a
    · rw [if_pos h2, if_pos (.inr h2)]
    · rw [if_neg h2, if_neg (by omega)]
theorem p_within (n lo hi : Int) : b_Within n lo hi = some (decide (lo ≤ n ∧ n ≤ hi)) := by
  unfold b_Within
  by_cases h1 : lo ≤ n
  · by_cases h2 : n ≤ hi
    · simp [h1, h2]
    · simp [h1, h2]
  · simp [h1]
theorem p_runF_first : ∀ (l : List Int) (i : Nat), runF (fun _ (e : Int) (_ : Unit) => if e = 0 then (.inr () : Int ⊕ Unit) else .inl e) l i () = if firstE l = 0 then .inr () else .inl (firstE l)
  | [], _ => rfl
  | a :: r, i => by
    unfold runF firstE
    by_cases ha : a = 0
    · simp only [ha, if_true]; exact p_runF_first r (i + 1)
    · simp only [ha, if_false]
theorem p_first (fu : Nat) (l : List Int) (h : l.length < fu) (hl : l.length < 4611686018427387904) : u_FirstError fu l = some (firstE l) := by
  have := loop_run l (fun n i _ => u_FirstError_L1 fu l (l.length : Int) n (i : Int)) (fun _ (e : Int) (_ : Unit) => if e = 0 then (.inr () : Int ⊕ Unit) else .inl e) id
    (fun n s => by rw [u_FirstError_L1, if_neg (by omega)]; rfl)
    (fun n i e s he => by
      obtain ⟨h1, h2, h3⟩ := idx he
      rw [u_FirstError_L1, if_pos h1, if_pos h2, if_pos h1, h3, Option.bind_some]
      by_cases h0 : e = 0
      · simp only [h0, if_true]; rw [wrapS (by omega)]
      · simp only [h0, if_false]; rfl) fu 0 () (by omega) (by omega)
  unfold u_FirstError
  rw [show ((0 : Nat) : Int) = 0 from rfl] at this
  rw [this, List.drop_zero, p_runF_first, Option.bind_some]
  by_cases h0 : firstE l = 0
  · simp [h0]
  · simp [h0]
structure Lim (V P : Int) : Prop where
  v1 : 1 ≤ V
  v2 : V ≤ 100
  p1 : 1 ≤ P
  p2 : P ≤ 100
def limsE (V P : Int) : Int := firstE [limE V 1 100, limE P 1 100]
theorem lims_cases (V P : Int) : (limsE V P = 0 ∧ Lim V P) ∨ (limsE V P = 2 ∧ ¬ ((1 ≤ V ∧ V ≤ 100) ∧ (1 ≤ P ∧ P ≤ 100))) := by
  unfold limsE firstE firstE firstE
  by_cases h1 : 1 ≤ V ∧ V ≤ 100
  · rw [limE_zero.2 h1, if_pos rfl]
    by_cases h2 : 1 ≤ P ∧ P ≤ 100
    · rw [limE_zero.2 h2, if_pos rfl]; exact .inl ⟨rfl, h1.1, h1.2, h2.1, h2.2⟩
    · rw [limE_two h2]; exact .inr ⟨rfl, fun c => h2 c.2⟩
  · rw [limE_two h1]; exact .inr ⟨rfl, fun c => h1 c.1⟩
theorem p_limits (fu : Nat) (hf : 100 ≤ fu) (V P : Int) : w_limitsError fu V P = some (limsE V P) := by
  unfold w_limitsError
  rw [p_limit, Option.bind_some, p_limit, Option.bind_some, p_first fu _ (by simp; omega) (by simp)]; rfl

/-! ### Profiles that are given -/
def cp (V P : Int) : List Int → Nat → Int → Int → (Int × Int) ⊕ (Int × Int)
  | [], _, b, d => .inr (b, d)
  | e :: r, i, b, d => if 0 ≤ e ∧ e ≤ V then (if -P ≤ e - b ∧ e - b ≤ P then cp V P r (i + 1) e (d + e) else .inl ((i : Int), 22)) else .inl ((i : Int), 2)
theorem p_uwithin {x P : Int} (h1 : 1 ≤ P) (h2 : P ≤ 100) : u_Within x P = some (decide (-P ≤ x ∧ x ≤ P)) := by
  unfold u_Within
  rw [wrapB (by omega) (by omega)]
  by_cases c1 : 0 - P ≤ x
  · by_cases c2 : x ≤ P
    · rw [if_pos c1, if_pos c2, decide_eq_true ⟨by omega, c2⟩]
    · rw [if_pos c1, if_neg c2, decide_eq_false (by omega)]
  · rw [if_neg c1, decide_eq_false (by omega)]
theorem p_cp (fu : Nat) {V P : Int} (L : Lim V P) (l : List Int) (hl : l.length < 1000) : ∀ n i b d, i ≤ l.length → l.length - i < n → 0 ≤ b ∧ b ≤ 100 → 0 ≤ d ∧ d ≤ 100 * (i : Int) → w_CheckProfile_L1 fu l V P (l.length : Int) n b d ((i : Nat) : Int) = some (cp V P (l.drop i) i b d)
  | 0, i, b, d, _, h, _, _ => by omega
  | n + 1, i, b, d, hi, h, hb, hd => by
    obtain ⟨v1, v2, p1, p2⟩ := L
    rw [w_CheckProfile_L1]
    rcases Nat.lt_or_ge i l.length with h1 | h1
    · obtain ⟨a1, a2, a3⟩ := idx (List.getElem?_eq_getElem h1)
      rw [if_pos a1, if_pos a2, if_pos a1, a3, Option.bind_some, p_limit, Option.bind_some, List.drop_eq_getElem_cons h1, cp]
      by_cases c1 : 0 ≤ l[i] ∧ l[i] ≤ V
      · rw [if_pos (limE_zero.2 c1), if_pos c1, wrapB (by omega) (by omega), p_uwithin p1 p2, Option.bind_some]
        by_cases c2 : -P ≤ l[i] - b ∧ l[i] - b ≤ P
        · rw [if_pos (decide_eq_true c2), if_pos c2, wrapB (by omega) (by omega), wrapS (by omega)]
          exact p_cp fu ⟨v1, v2, p1, p2⟩ l hl n (i + 1) _ _ (by omega) (by omega) (by omega) (by omega)
        · rw [if_neg (by simpa using c2), if_neg c2]
      · rw [limE_two c1, if_neg (by decide), if_neg c1]
    · rw [if_neg (by omega), List.drop_of_length_le h1, cp]
def swp : (Int × Int) ⊕ (Int × Int) → (Int × Int) ⊕ (Int × Int)
  | .inl x => .inl x
  | .inr y => .inr (y.2, y.1)
def cpO (P : Int) (n : Nat) : (Int × Int) ⊕ (Int × Int) → Int × Int
  | .inl x => x
  | .inr y => if P < y.1 then (IntKind.wrap .i64 ((n : Int) - 1), 21) else (y.2, 0)
def cpE (V P : Int) (l : List Int) : Int × Int := if (200 : Int) < (l.length : Int) then (0, 8) else cpO P l.length (cp V P l 0 0 0)
theorem p_check (fu : Nat) (hf : 1000 ≤ fu) (V P : Int) (l : List Int) (hl : l.length ≤ 202) : w_CheckProfile fu V P l = some (if limsE V P = 0 then cpE V P l else (0, limsE V P)) := by
  unfold w_CheckProfile cpE
  rw [p_limits fu (by omega), Option.bind_some]
  rcases lims_cases V P with ⟨h0, L⟩ | ⟨h0, L⟩
  · rw [h0, if_pos rfl, if_pos rfl]
    by_cases h : (200 : Int) < (l.length : Int)
    · rw [if_pos h, if_pos h]
    · rw [if_neg h, if_neg h]
      have e := p_cp fu L l (by omega) fu 0 0 0 (by omega) (by omega) (by omega) (by omega)
      rw [show ((0 : Nat) : Int) = 0 from rfl, List.drop_zero] at e
      rw [e, Option.bind_some]
      cases cp V P l 0 0 0 with
      | inl x => rfl
      | inr y =>
        unfold cpO
        by_cases c : P < y.1
        · simp only [if_pos c]
        · simp only [if_neg c]
  · rw [h0, if_neg (by decide), if_neg (by decide)]
/-! ### Sums -/
theorem pk {P : Int} (h1 : 1 ≤ P) (h2 : P ≤ 100) {k : Int} (h3 : 0 ≤ k) (h4 : k ≤ 1000) : 0 ≤ P * k ∧ P * k ≤ 100000 ∧ k ≤ P * k := by
  have a := Int.mul_nonneg (show 0 ≤ P by omega) h3
  have b : P * k ≤ 100 * 1000 := Int.mul_le_mul h2 h4 h3 (by omega)
  have c : 1 * k ≤ P * k := Int.mul_le_mul_of_nonneg_right h1 h3
  omega
theorem pmul_succ (P k : Int) : P * (k + 1) = P * k + P := by rw [Int.mul_add, Int.mul_one]
theorem pmono {P a b : Int} (h : 1 ≤ P) (hab : a ≤ b) : P * a ≤ P * b := Int.mul_le_mul_of_nonneg_left hab (by omega)
/-- The least sum of so many speeds behind a speed. -/
def sh (w P : Int) : Nat → Int
  | 0 => 0
  | m + 1 => sh w P m + (if 0 < w - P * ((m : Int) + 1) then w - P * ((m : Int) + 1) else 0)
def mnI (a b : Int) : Int := if a ≤ b then a else b
/-- The greatest i-th of n speeds behind a speed, and the sum of the first m of them. -/
def tm (v P V : Int) (n i : Nat) : Int := mnI V (mnI (v + P * (i : Int)) (P * ((n : Int) + 1 - (i : Int))))
def fa (v P V : Int) (n : Nat) : Nat → Int
  | 0 => 0
  | m + 1 => fa v P V n m + tm v P V n (m + 1)
theorem sh_range {w P : Int} (h1 : 1 ≤ P) (h2 : P ≤ 100) (h3 : 0 ≤ w) (h4 : w ≤ 100) : ∀ m, m ≤ 500 → 0 ≤ sh w P m ∧ sh w P m ≤ 100 * (m : Int)
  | 0, _ => ⟨Int.le_refl _, Int.le_refl _⟩
  | m + 1, hm => by
    obtain ⟨a, b⟩ := sh_range h1 h2 h3 h4 m (by omega)
    obtain ⟨c, d, _⟩ := pk h1 h2 (k := (m : Int) + 1) (by omega) (by omega)
    unfold sh
    split <;> omega
theorem tm_range {v P V : Int} (L : Lim V P) (h3 : 0 ≤ v) {n i : Nat} (hi : i ≤ n) (hn : n ≤ 300) : 0 ≤ tm v P V n i ∧ tm v P V n i ≤ 100 := by
  obtain ⟨v1, v2, p1, p2⟩ := L
  obtain ⟨c, d, _⟩ := pk p1 p2 (k := (i : Int)) (by omega) (by omega)
  obtain ⟨c', d', _⟩ := pk p1 p2 (k := (n : Int) + 1 - (i : Int)) (by omega) (by omega)
  unfold tm mnI
  split <;> split at * <;> omega
theorem fa_range {v P V : Int} (L : Lim V P) (h3 : 0 ≤ v) {n : Nat} (hn : n ≤ 300) : ∀ m, m ≤ n → 0 ≤ fa v P V n m ∧ fa v P V n m ≤ 100 * (m : Int)
  | 0, _ => ⟨Int.le_refl _, Int.le_refl _⟩
  | m + 1, hm => by
    obtain ⟨a, b⟩ := fa_range L h3 hn m (by omega)
    obtain ⟨c, d⟩ := tm_range L h3 (show m + 1 ≤ n from hm) hn
    unfold fa
    omega
theorem p_farW (fu : Nat) {P V : Int} (L : Lim V P) {n : Nat} (hn : n ≤ 200) : ∀ k i, i ≤ n → n - i < k → w_limits_farthest_L1 fu (n : Int) V P k (fa 0 P V n i) ((i : Nat) : Int) = some (fa 0 P V n n)
  | 0, i, _, h => by omega
  | k + 1, i, hi, h => by
    have L' := L
    obtain ⟨v1, v2, p1, p2⟩ := L'
    rw [w_limits_farthest_L1]
    rcases Nat.lt_or_ge i n with h1 | h1
    · obtain ⟨c, d, _⟩ := pk p1 p2 (k := (i : Int) + 1) (by omega) (by omega)
      obtain ⟨c', d', _⟩ := pk p1 p2 (k := (n : Int) - (i : Int)) (by omega) (by omega)
      obtain ⟨f1, f2⟩ := fa_range L (Int.le_refl 0) (show n ≤ 300 by omega) i (by omega)
      have ih := p_farW fu L hn k (i + 1) (by omega) (by omega)
      rw [show ((i + 1 : Nat) : Int) = (i : Int) + 1 by omega, fa] at ih
      have key : tm 0 P V n (i + 1) = mnI V (mnI (0 + P * ((i : Int) + 1)) (P * ((n : Int) - (i : Int)))) := by
        unfold tm
        rw [show ((i + 1 : Nat) : Int) = (i : Int) + 1 by omega, show (n : Int) + 1 - ((i : Int) + 1) = (n : Int) - (i : Int) by omega]
      rw [key] at ih
      rw [if_pos (by omega), wrapB (x := (i : Int) + 1) (by omega) (by omega), wrapB (x := (n : Int) - (i : Int)) (by omega) (by omega), wrapB (x := P * ((n : Int) - (i : Int))) (by omega) (by omega), wrapB (x := P * ((i : Int) + 1)) (by omega) (by omega)]
      generalize P * ((n : Int) - (i : Int)) = A at *
      generalize P * ((i : Int) + 1) = B at *
      rw [wrapB (x := fa 0 P V n i + A) (by omega) (by omega), wrapB (x := fa 0 P V n i + V) (by omega) (by omega), wrapB (x := fa 0 P V n i + B) (by omega) (by omega)]
      unfold mnI at ih
      rw [show 0 + B = B by omega] at ih
      by_cases c1 : B < V
      · rw [if_pos c1]
        by_cases c2 : A < B
        · rw [if_pos c2]; rw [if_neg (show ¬ B ≤ A by omega), if_neg (show ¬ V ≤ A by omega)] at ih; exact ih
        · rw [if_neg c2]; rw [if_pos (show B ≤ A by omega), if_neg (show ¬ V ≤ B by omega)] at ih; exact ih
      · rw [if_neg c1]
        by_cases c2 : A < V
        · rw [if_pos c2]; rw [if_neg (show ¬ B ≤ A by omega), if_neg (show ¬ V ≤ A by omega)] at ih; exact ih
        · rw [if_neg c2]
          by_cases c3 : B ≤ A
          · rw [if_pos c3, if_pos (show V ≤ B by omega)] at ih; exact ih
          · rw [if_neg c3, if_pos (show V ≤ A by omega)] at ih; exact ih
    · rw [if_neg (by omega), show i = n by omega]
theorem p_farthestW (fu : Nat) (hf : 1000 ≤ fu) {P V : Int} (L : Lim V P) {n : Nat} (hn : n ≤ 200) : w_limits_farthest fu V P (n : Int) = some (fa 0 P V n n) := by
  unfold w_limits_farthest
  have e := p_farW fu L hn fu 0 (by omega) (by omega)
  rw [fa, show ((0 : Nat) : Int) = 0 from rfl] at e
  rw [e]; rfl
theorem sh_end {w P : Int} (p1 : 1 ≤ P) {i : Nat} (h : w ≤ P * ((i : Int) + 1)) : ∀ j, sh w P (i + j) = sh w P i
  | 0 => rfl
  | j + 1 => by
    have := pmono p1 (show (i : Int) + 1 ≤ ((i + j : Nat) : Int) + 1 by omega)
    rw [show i + (j + 1) = (i + j) + 1 from rfl, sh, if_neg (by omega), sh_end p1 h j]; omega
theorem sh_st {w P : Int} (p1 : 1 ≤ P) {i : Nat} (hi : i ≤ 300) (h : w ≤ P * ((i : Int) + 1)) : sh w P i = sh w P 300 := by
  have := sh_end p1 h (300 - i)
  rw [show i + (300 - i) = 300 by omega] at this
  exact this.symm
theorem p_stop (fu : Nat) {w P : Int} (V : Int) (p1 : 1 ≤ P) (p2 : P ≤ 100) (h3 : 0 ≤ w) (h4 : w ≤ 100) : ∀ k i, i ≤ 200 → 200 - i < k → w_limits_stopping_L1 fu V P k (sh w P i) (w - P * ((i : Int) + 1)) = some (sh w P 300)
  | 0, i, _, h => by omega
  | k + 1, i, hi, h => by
    obtain ⟨c, d, e⟩ := pk p1 p2 (k := (i : Int) + 1) (by omega) (by omega)
    rw [w_limits_stopping_L1]
    by_cases c1 : 0 < w - P * ((i : Int) + 1)
    · obtain ⟨f1, f2⟩ := sh_range p1 p2 h3 h4 i (by omega)
      have ih := p_stop fu V p1 p2 h3 h4 k (i + 1) (by omega) (by omega)
      rw [sh, if_pos c1, show ((i + 1 : Nat) : Int) + 1 = (i : Int) + 1 + 1 by omega, pmul_succ P ((i : Int) + 1)] at ih
      rw [if_pos c1, wrapB (x := sh w P i + (w - P * ((i : Int) + 1))) (by omega) (by omega), wrapB (x := w - P * ((i : Int) + 1) - P) (by omega) (by omega), show w - P * ((i : Int) + 1) - P = w - (P * ((i : Int) + 1) + P) by omega]
      exact ih
    · rw [if_neg c1, sh_st p1 (by omega) (by omega)]
theorem p_stopping (fu : Nat) (hf : 1000 ≤ fu) {w P : Int} (V : Int) (p1 : 1 ≤ P) (p2 : P ≤ 100) (h3 : 0 ≤ w) (h4 : w ≤ 100) : w_limits_stopping fu V P w = some (sh w P 300) := by
  unfold w_limits_stopping
  have e := p_stop fu V p1 p2 h3 h4 fu 0 (by omega) (by omega)
  rw [sh, show ((0 : Nat) : Int) + 1 = 1 from rfl, Int.mul_one] at e
  rw [wrapB (by omega) (by omega), e]; rfl



theorem sh_zero {P : Int} (p1 : 1 ≤ P) : ∀ m, sh 0 P m = 0
  | 0 => rfl
  | m + 1 => by
    have := pmono p1 (show (0 : Int) ≤ (m : Int) + 1 by omega)
    rw [Int.mul_zero] at this
    rw [sh, sh_zero p1 m, if_neg (by omega)]; rfl
theorem sh_mono {w P : Int} : ∀ {i j : Nat}, i ≤ j → sh w P i ≤ sh w P j
  | i, 0, h => by rw [show i = 0 by omega]; exact Int.le_refl _
  | i, j + 1, h => by
    rcases Nat.lt_or_ge j i with h1 | h1
    · rw [show i = j + 1 by omega]; exact Int.le_refl _
    · have := sh_mono (w := w) (P := P) h1
      rw [show sh w P (j + 1) = sh w P j + (if 0 < w - P * ((j : Int) + 1) then w - P * ((j : Int) + 1) else 0) from rfl]
      split <;> omega
def dn (P D : Int) : Nat → Nat
  | 0 => 0
  | w + 1 => if (w : Int) + 1 + sh ((w : Int) + 1) P 300 ≤ D then w + 1 else dn P D w
theorem dn_le (P D : Int) : ∀ w, dn P D w ≤ w
  | 0 => Nat.le_refl _
  | w + 1 => by
    have := dn_le P D w
    unfold dn
    split <;> omega
theorem dn_ok {P D : Int} (p1 : 1 ≤ P) (hD : 0 ≤ D) : ∀ w, (dn P D w : Int) + sh (dn P D w : Int) P 300 ≤ D
  | 0 => by
    unfold dn
    rw [show ((0 : Nat) : Int) = 0 from rfl, sh_zero p1]; omega
  | w + 1 => by
    unfold dn
    by_cases h : (w : Int) + 1 + sh ((w : Int) + 1) P 300 ≤ D
    · rw [if_pos h, show ((w + 1 : Nat) : Int) = (w : Int) + 1 by omega]; exact h
    · rw [if_neg h]; exact dn_ok p1 hD w
theorem dn_gt {P D : Int} : ∀ {w u : Nat}, dn P D w < u → u ≤ w → D < (u : Int) + sh (u : Int) P 300
  | 0, u, h, hu => by omega
  | w + 1, u, h, hu => by
    unfold dn at h
    by_cases c : (w : Int) + 1 + sh ((w : Int) + 1) P 300 ≤ D
    · rw [if_pos c] at h; omega
    · rw [if_neg c] at h
      rcases Nat.lt_or_ge w u with h1 | h1
      · rw [show u = w + 1 by omega, show ((w + 1 : Nat) : Int) = (w : Int) + 1 by omega]; omega
      · exact dn_gt h h1
def tp (V P v : Int) : Nat := (if v + P < V then v + P else V).toNat
theorem tp_le {V P v : Int} (L : Lim V P) (hv : 0 ≤ v) : tp V P v ≤ 100 ∧ (tp V P v : Int) ≤ V ∧ (tp V P v : Int) ≤ v + P ∧ ((tp V P v : Int) = V ∨ (tp V P v : Int) = v + P) := by
  obtain ⟨v1, v2, p1, p2⟩ := L
  unfold tp
  split <;> omega
theorem p_fast (fu : Nat) (hf : 1000 ≤ fu) {V P D : Int} (L : Lim V P) (hD : 0 ≤ D) (hD2 : D ≤ 100000) : ∀ k w, w ≤ 100 → w < k → w_limits_fastest_L1 fu D V P k ((w : Nat) : Int) = some ((dn P D w : Nat) : Int)
  | 0, w, _, h => by omega
  | k + 1, 0, _, _ => by
    rw [w_limits_fastest_L1, p_stopping fu hf V L.p1 L.p2 (by omega) (by omega), Option.bind_some, show ((0 : Nat) : Int) = 0 from rfl, sh_zero L.p1, wrapB (by omega) (by omega), if_neg (by omega), dn]; rfl
  | k + 1, w + 1, hw, h => by
    obtain ⟨a, b⟩ := sh_range L.p1 L.p2 (w := ((w + 1 : Nat) : Int)) (by omega) (by omega) 300 (by omega)
    rw [w_limits_fastest_L1, p_stopping fu hf V L.p1 L.p2 (by omega) (by omega), Option.bind_some, wrapB (x := ((w + 1 : Nat) : Int) + _) (by omega) (by omega), dn]
    rw [show ((w + 1 : Nat) : Int) = (w : Int) + 1 by omega] at *
    by_cases c : (w : Int) + 1 + sh ((w : Int) + 1) P 300 ≤ D
    · rw [if_neg (by omega), if_pos c]; congr 1
    · rw [if_pos (by omega), if_neg c, wrapB (by omega) (by omega), show (w : Int) + 1 - 1 = (w : Int) by omega]
      exact p_fast fu hf L hD hD2 k w (by omega) (by omega)
theorem p_fastest (fu : Nat) (hf : 1000 ≤ fu) {V P D v : Int} (L : Lim V P) (hD : 0 ≤ D) (hD2 : D ≤ 100000) (hv : 0 ≤ v) (hv2 : v ≤ 100) : w_limits_fastest fu V P v D = some ((dn P D (tp V P v) : Nat) : Int) := by
  obtain ⟨t1, -, -, -⟩ := tp_le L hv
  have e := p_fast fu hf L hD hD2 fu (tp V P v) t1 (by omega)
  have L' := L
  obtain ⟨v1, v2, p1, p2⟩ := L'
  unfold w_limits_fastest
  rw [wrapB (by omega) (by omega)]
  by_cases c : v + P < V
  · have q : ((tp V P v : Nat) : Int) = v + P := by unfold tp; rw [if_pos c]; omega
    rw [q] at e
    rw [if_pos c, e]; rfl
  · have q : ((tp V P v : Nat) : Int) = V := by unfold tp; rw [if_neg c]; omega
    rw [q] at e
    rw [if_neg c, e]; rfl
def ft (V P w : Int) (n : Nat) (r : Int) : Prop := w ≤ P * ((n : Int) + 1) ∧ sh w P n ≤ r ∧ r ≤ fa w P V n n
instance (V P w : Int) (n : Nat) (r : Int) : Decidable (ft V P w n r) := by unfold ft; infer_instance
def rf (V P D : Int) (n : Nat) : Nat → Nat
  | 0 => 0
  | w + 1 => if ft V P ((w : Int) + 1) n (D - ((w : Int) + 1)) then w + 1 else rf V P D n w
theorem rf_eq {V P D : Int} {n w : Nat} : ∀ t, (∀ u : Nat, w < u → u ≤ t → ¬ ft V P (u : Int) n (D - (u : Int))) → (w = 0 ∨ ft V P (w : Int) n (D - (w : Int))) → w ≤ t → rf V P D n t = w
  | 0, _, _, h => by rw [rf]; omega
  | t + 1, h1, h2, h => by
    rw [rf]
    rcases Nat.lt_or_ge t w with h3 | h3
    · have e : w = t + 1 := by omega
      subst e
      rcases h2 with h2 | h2
      · omega
      · rw [show ((t + 1 : Nat) : Int) = (t : Int) + 1 by omega] at h2
        rw [if_pos h2]
    · have q := h1 (t + 1) (by omega) (by omega)
      rw [show ((t + 1 : Nat) : Int) = (t : Int) + 1 by omega] at q
      rw [if_neg q]
      exact rf_eq t (fun u a b => h1 u a (by omega)) h2 h3

/-! ### The greatest one -/
def tri (P : Int) : Nat → Int
  | 0 => 0
  | n + 1 => tri P n + P * ((n : Int) + 1)
theorem tm_le {v P V : Int} {n i : Nat} : tm v P V n i ≤ V ∧ tm v P V n i ≤ v + P * (i : Int) ∧ tm v P V n i ≤ P * ((n : Int) + 1 - (i : Int)) := by
  unfold tm mnI
  generalize P * (i : Int) = A
  generalize P * ((n : Int) + 1 - (i : Int)) = B
  split <;> split at * <;> omega
theorem tm_ge {v P V x : Int} {n i : Nat} (h1 : x ≤ V) (h2 : x ≤ v + P * (i : Int)) (h3 : x ≤ P * ((n : Int) + 1 - (i : Int))) : x ≤ tm v P V n i := by
  unfold tm mnI
  generalize P * (i : Int) = A at *
  generalize P * ((n : Int) + 1 - (i : Int)) = B at *
  split <;> split at * <;> omega
theorem fa_tri {v P V : Int} {n : Nat} : ∀ m, m ≤ n → fa v P V n m ≤ tri P n - tri P (n - m)
  | 0, _ => by rw [fa, Nat.sub_zero]; omega
  | m + 1, h => by
    have ih := fa_tri (v := v) (P := P) (V := V) (n := n) m (by omega)
    have t := (tm_le (v := v) (P := P) (V := V) (n := n) (i := m + 1)).2.2
    rw [show n - m = (n - (m + 1)) + 1 by omega, tri, show ((n - (m + 1) : Nat) : Int) + 1 = (n : Int) + 1 - ((m + 1 : Nat) : Int) by omega] at ih
    rw [fa]
    omega
theorem sh_tri {w P δ : Int} {n : Nat} (h : P * (n : Int) + δ ≤ w) (hδ : 0 ≤ δ) : ∀ m, m + 1 ≤ n → tri P n - tri P (n - 1 - m) + δ ≤ w + sh w P m
  | 0, hm => by
    rw [sh, show n - 1 - 0 = n - 1 from rfl]
    have e : tri P n = tri P (n - 1) + P * (n : Int) := by
      obtain ⟨q, rfl⟩ : ∃ q, n = q + 1 := ⟨n - 1, by omega⟩
      rw [tri, show q + 1 - 1 = q by omega, show ((q + 1 : Nat) : Int) = (q : Int) + 1 by omega]
    omega
  | m + 1, hm => by
    have ih := sh_tri h hδ m (by omega)
    have e : tri P (n - 1 - m) = tri P (n - 1 - (m + 1)) + P * ((n : Int) - ((m : Int) + 1)) := by
      obtain ⟨q, rfl⟩ : ∃ q, n = q + (m + 2) := ⟨n - (m + 2), by omega⟩
      rw [show q + (m + 2) - 1 - m = q + 1 by omega, show q + (m + 2) - 1 - (m + 1) = q by omega, tri, show ((q + (m + 2) : Nat) : Int) - ((m : Int) + 1) = (q : Int) + 1 by omega]
    rw [Int.mul_sub] at e
    rw [sh]
    split <;> omega
theorem fa_step {v w P V : Int} {n : Nat} (p1 : 1 ≤ P) (hw : w = V ∨ w = v + P) (h1 : w ≤ V) (h2 : w ≤ v + P) : ∀ m, m ≤ n → fa v P V (n + 1) (m + 1) ≤ w + fa w P V n m
  | 0, _ => by
    obtain ⟨a, b, _⟩ := tm_le (v := v) (P := P) (V := V) (n := n + 1) (i := 0 + 1)
    rw [show ((0 + 1 : Nat) : Int) = 1 from rfl, Int.mul_one] at b
    rw [fa, fa, fa]
    omega
  | m + 1, h => by
    have ih := fa_step (n := n) p1 hw h1 h2 m (by omega)
    obtain ⟨a, b, c⟩ := tm_le (v := v) (P := P) (V := V) (n := n + 1) (i := m + 1 + 1)
    have e1 : P * ((m + 1 + 1 : Nat) : Int) = P * ((m + 1 : Nat) : Int) + P := by rw [show ((m + 1 + 1 : Nat) : Int) = ((m + 1 : Nat) : Int) + 1 by omega, pmul_succ]
    have e2 : ((n + 1 : Nat) : Int) + 1 - ((m + 1 + 1 : Nat) : Int) = (n : Int) + 1 - ((m + 1 : Nat) : Int) := by omega
    have e3 := pmono p1 (show (0 : Int) ≤ ((m + 1 : Nat) : Int) by omega)
    rw [Int.mul_zero] at e3
    have t := tm_ge (v := w) (P := P) (V := V) (n := n) (i := m + 1) (x := tm v P V (n + 1) (m + 1 + 1)) a (by omega) (by rw [← e2]; exact c)
    have e4 : fa v P V (n + 1) (m + 1 + 1) = fa v P V (n + 1) (m + 1) + tm v P V (n + 1) (m + 1 + 1) := rfl
    have e5 : fa w P V n (m + 1) = fa w P V n m + tm w P V n (m + 1) := rfl
    omega
theorem sh_fa {w x P V : Int} {n : Nat} (L : Lim V P) (hw : 0 ≤ w) (hn : n ≤ 300) (h1 : x ≤ w + 1) (h2 : x ≤ V) (h3 : x ≤ P * ((n : Int) + 1)) : ∀ m, m ≤ n → sh x P m ≤ fa w P V n m
  | 0, _ => by rw [sh, fa]; omega
  | m + 1, h => by
    have ih := sh_fa L hw hn h1 h2 h3 m (by omega)
    have r := tm_range L hw (show m + 1 ≤ n from h) hn
    obtain ⟨c, d, e⟩ := pk L.p1 L.p2 (k := (m : Int) + 1) (by omega) (by omega)
    rw [sh, fa]
    by_cases c1 : 0 < x - P * ((m : Int) + 1)
    · rw [if_pos c1]
      have t := tm_ge (v := w) (P := P) (V := V) (n := n) (i := m + 1) (x := x - P * ((m : Int) + 1)) (by omega) (by rw [show ((m + 1 : Nat) : Int) = (m : Int) + 1 by omega]; omega) (by rw [show ((m + 1 : Nat) : Int) = (m : Int) + 1 by omega, Int.mul_sub]; omega)
      omega
    · rw [if_neg c1]; omega
theorem greedy {V P v D : Int} (L : Lim V P) (hv : 0 ≤ v) {n : Nat} (hn : n + 1 ≤ 200) (hD : 0 ≤ D) (hF : D ≤ fa v P V (n + 1) (n + 1)) : rf V P D n (tp V P v) = dn P D (tp V P v) ∧ D - (dn P D (tp V P v) : Int) ≤ fa (dn P D (tp V P v) : Int) P V n n := by
  obtain ⟨t1, t2, t3, t4⟩ := tp_le L hv
  have hle := dn_le P D (tp V P v)
  have hok := dn_ok L.p1 hD (tp V P v)
  have hgt := @dn_gt P D (tp V P v)
  generalize hw : dn P D (tp V P v) = w at *
  have h0 : (0 : Int) ≤ (w : Int) := by omega
  have hT := fa_tri (v := v) (P := P) (V := V) (n := n + 1) (n + 1) (Nat.le_refl _)
  rw [Nat.sub_self, tri] at hT
  have ha : (w : Int) ≤ P * ((n : Int) + 1) := by
    rcases Int.lt_or_le (P * ((n : Int) + 1)) (w : Int) with c | c
    · exfalso
      have q := sh_tri (w := (w : Int)) (P := P) (δ := 1) (n := n + 1) (by rw [show ((n + 1 : Nat) : Int) = (n : Int) + 1 by omega]; omega) (by omega) n (by omega)
      rw [show n + 1 - 1 - n = 0 by omega] at q
      have m := sh_mono (w := (w : Int)) (P := P) (show n ≤ 300 by omega)
      rw [show tri P 0 = 0 from rfl] at q
      omega
    · exact c
  have hb := sh_st L.p1 (show n ≤ 300 by omega) ha
  have hc : D - (w : Int) ≤ fa (w : Int) P V n n := by
    by_cases ht : w = tp V P v
    · have q := fa_step (v := v) (w := (w : Int)) (P := P) (V := V) (n := n) L.p1 (by rw [ht]; exact t4) (by omega) (by omega) n (Nat.le_refl _)
      omega
    · have g := hgt (u := w + 1) (by omega) (by omega)
      rw [show ((w + 1 : Nat) : Int) = (w : Int) + 1 by omega] at g
      by_cases c : (w : Int) + 1 ≤ P * ((n : Int) + 1)
      · have e := sh_st L.p1 (show n ≤ 300 by omega) c
        have q := sh_fa (w := (w : Int)) (x := (w : Int) + 1) L h0 (show n ≤ 300 by omega) (Int.le_refl _) (by omega) c n (Nat.le_refl _)
        omega
      · have q := sh_tri (w := (w : Int)) (P := P) (δ := 0) (n := n + 1) (by rw [show ((n + 1 : Nat) : Int) = (n : Int) + 1 by omega]; omega) (by omega) n (by omega)
        rw [show n + 1 - 1 - n = 0 by omega] at q
        have q2 := sh_fa (w := (w : Int)) (x := (w : Int)) L h0 (show n ≤ 300 by omega) (by omega) (by omega) ha n (Nat.le_refl _)
        rw [show tri P 0 = 0 from rfl] at q
        omega
  refine ⟨rf_eq _ (fun u a b c => ?_) (.inr ⟨ha, by omega, hc⟩) hle, hc⟩
  have g := hgt (u := u) a b
  have e := sh_st L.p1 (show n ≤ 300 by omega) c.1
  have := c.2.1
  omega



/-- The first number of ticks, from t on, that reaches a distance. -/
def tk (D V P : Int) : Nat → Nat → Option Nat
  | 0, _ => none
  | m + 1, t => if D ≤ fa 0 P V t t then some t else tk D V P m (t + 1)
theorem tk_ok {D V P : Int} : ∀ {m t x : Nat}, tk D V P m t = some x → x < t + m ∧ D ≤ fa 0 P V x x
  | 0, t, x, h => by cases h
  | m + 1, t, x, h => by
    unfold tk at h
    by_cases c : D ≤ fa 0 P V t t
    · rw [if_pos c] at h; injection h with h; subst h; exact ⟨by omega, c⟩
    · rw [if_neg c] at h
      have := tk_ok h
      exact ⟨by omega, this.2⟩
def tkO : Option Nat → Int ⊕ Unit
  | some x => .inl ((x : Nat) : Int)
  | none => .inr ()
theorem p_ticksL (fu : Nat) (hf : 1000 ≤ fu) {V P : Int} (L : Lim V P) (D : Int) : ∀ k t, t ≤ 201 → 201 - t < k → w_TicksFor_L1 fu D V P k ((t : Nat) : Int) = some (tkO (tk D V P (201 - t) t))
  | 0, t, _, h => by omega
  | k + 1, t, ht, h => by
    rw [w_TicksFor_L1]
    rcases Nat.lt_or_ge t 201 with h1 | h1
    · rw [if_pos (by omega), p_farthestW fu hf L (by omega), Option.bind_some, show 201 - t = (201 - (t + 1)) + 1 by omega, tk]
      by_cases c : D ≤ fa 0 P V t t
      · rw [if_pos c, if_pos c]; rfl
      · rw [if_neg c, if_neg c, wrapS (by omega)]
        exact p_ticksL fu hf L D k (t + 1) (by omega) (by omega)
    · rw [if_neg (by omega), show 201 - t = 0 by omega]; rfl
def diE (D : Int) : Int := limE D 0 10000
def tkE (V P D : Int) : Int := firstE [limsE V P, diE D]
def tkF (V P D : Int) : Int × Int := if tkE V P D = 0 then (match tk D V P 201 0 with | some x => ((x : Int), 0) | none => (0, 8)) else (0, tkE V P D)
theorem p_ticksFor (fu : Nat) (hf : 1000 ≤ fu) (V P D : Int) : w_TicksFor fu V P D = some (tkF V P D) := by
  unfold w_TicksFor tkF
  rw [p_limits fu (by omega), Option.bind_some, p_limit, Option.bind_some, p_first fu _ (by simp; omega) (by simp), Option.bind_some]
  show (if tkE V P D = 0 then _ else _) = _
  rcases lims_cases V P with ⟨h0, L⟩ | ⟨h0, L⟩
  · have e := p_ticksL fu hf L D fu 0 (by omega) (by omega)
    rw [show ((0 : Nat) : Int) = 0 from rfl, Nat.sub_zero] at e
    rw [e, Option.bind_some]
    by_cases c : tkE V P D = 0
    · rw [if_pos c, if_pos c]
      cases tk D V P 201 0 <;> rfl
    · rw [if_neg c, if_neg c]
      unfold tkE diE; rfl
  · have c : ¬ tkE V P D = 0 := by unfold tkE firstE; rw [h0, if_neg (by decide)]; decide
    rw [if_neg c, if_neg c]
    unfold tkE diE; rfl
/-! ### The profile -/
def pr (V P : Int) : Nat → Int → Int → List Int
  | 0, _, _ => []
  | n + 1, v, D => ((dn P D (tp V P v) : Nat) : Int) :: pr V P n ((dn P D (tp V P v) : Nat) : Int) (D - ((dn P D (tp V P v) : Nat) : Int))
theorem pr_len (V P : Int) : ∀ n v D, (pr V P n v D).length = n
  | 0, _, _ => rfl
  | n + 1, v, D => by rw [pr, List.length_cons, pr_len V P n]
theorem dn_rest {V P v D : Int} (L : Lim V P) (hv : 0 ≤ v) (hD : 0 ≤ D) : dn P D (tp V P v) ≤ 100 ∧ ((dn P D (tp V P v) : Nat) : Int) ≤ D := by
  have a := tp_le L hv
  have b := dn_le P D (tp V P v)
  have c := dn_ok L.p1 hD (tp V P v)
  have d := sh_range (w := ((dn P D (tp V P v) : Nat) : Int)) L.p1 L.p2 (by omega) (by omega) 300 (by omega)
  omega
theorem p_prog (fu : Nat) (hf : 1000 ≤ fu) {V P : Int} (L : Lim V P) {T : Nat} (hT : T ≤ 200) : ∀ k i out v D, out.length = i → i ≤ T → T - i < k → 0 ≤ v → v ≤ 100 → 0 ≤ D → D ≤ 10000 → w_ProfileFor_L1 fu V P (T : Int) k D (out ++ List.replicate (T - i) 0) v ((i : Nat) : Int) = some (out ++ pr V P (T - i) v D)
  | 0, i, out, v, D, _, _, h, _, _, _, _ => by omega
  | k + 1, i, out, v, D, ho, hi, h, v0, v1, d0, d1 => by
    rw [w_ProfileFor_L1]
    rcases Nat.lt_or_ge i T with h1 | h1
    · obtain ⟨r1, r2⟩ := dn_rest (v := v) (D := D) L v0 d0
      have q : T - i = (T - (i + 1)) + 1 := by omega
      have g : (out ++ List.replicate (T - i) (0 : Int))[0 + ((i : Nat) : Int).toNat]? = some 0 := by
        rw [Int.toNat_natCast, Nat.zero_add, List.getElem?_append_right (by omega), q, List.replicate_succ, ho, Nat.sub_self]; rfl
      have st : (out ++ List.replicate (T - i) (0 : Int)).set (0 + ((i : Nat) : Int).toNat) ((dn P D (tp V P v) : Nat) : Int) = (out ++ [((dn P D (tp V P v) : Nat) : Int)]) ++ List.replicate (T - (i + 1)) 0 := by
        rw [Int.toNat_natCast, Nat.zero_add, List.set_append_right _ _ (by omega), q, List.replicate_succ, ho, Nat.sub_self, List.set_cons_zero, List.append_assoc]; rfl
      rw [if_pos (by omega), p_fastest fu hf L d0 (by omega) v0 v1, Option.bind_some, if_pos (by omega), if_pos (by rw [List.length_append, List.length_replicate]; omega), g, Option.bind_some, st, wrapB (x := D - _) (by omega) (by omega), wrapS (by omega), p_prog fu hf L hT k (i + 1) _ _ _ (by rw [List.length_append, ho]; rfl) (by omega) (by omega) (by omega) (by omega) (by omega) (by omega), q, pr, List.append_assoc]; rfl
    · rw [if_neg (by omega), show T - i = 0 by omega, List.replicate_zero, pr]


def okP (V P : Int) : List Int → Int → Prop
  | [], v => v ≤ P
  | e :: r, v => (0 ≤ e ∧ e ≤ V) ∧ (-P ≤ e - v ∧ e - v ≤ P) ∧ okP V P r e
def sumL : List Int → Int
  | [] => 0
  | e :: r => e + sumL r
theorem cp_ok {V P : Int} : ∀ {l : List Int} {i : Nat} {b d : Int}, okP V P l b → ∃ b', b' ≤ P ∧ cp V P l i b d = .inr (b', d + sumL l)
  | [], i, b, d, h => ⟨b, h, by rw [cp, sumL, Int.add_zero]⟩
  | e :: r, i, b, d, h => by
    obtain ⟨h1, h2, h3⟩ := h
    obtain ⟨b', x, y⟩ := cp_ok (i := i + 1) (d := d + e) h3
    refine ⟨b', x, ?_⟩
    rw [cp, if_pos h1, if_pos h2, y, sumL]
    congr 2; omega
theorem cp_inv {V P : Int} : ∀ {l : List Int} {i : Nat} {b d b' d' : Int}, cp V P l i b d = .inr (b', d') → b' ≤ P → okP V P l b ∧ d' = d + sumL l
  | [], i, b, d, b', d', h, hb => by
    rw [cp] at h
    injection h with h; injection h with h1 h2
    subst h1; subst h2
    exact ⟨hb, by rw [sumL, Int.add_zero]⟩
  | e :: r, i, b, d, b', d', h, hb => by
    rw [cp] at h
    by_cases h1 : 0 ≤ e ∧ e ≤ V
    · rw [if_pos h1] at h
      by_cases h2 : -P ≤ e - b ∧ e - b ≤ P
      · rw [if_pos h2] at h
        obtain ⟨x, y⟩ := cp_inv h hb
        exact ⟨⟨h1, h2, x⟩, by rw [y, sumL]; omega⟩
      · rw [if_neg h2] at h; cases h
    · rw [if_neg h1] at h; cases h
theorem cp_err {V P : Int} : ∀ {l : List Int} {i : Nat} {b d : Int} {x : Int × Int}, cp V P l i b d = .inl x → x.2 ≠ 0
  | [], i, b, d, x, h => by rw [cp] at h; cases h
  | e :: r, i, b, d, x, h => by
    rw [cp] at h
    by_cases h1 : 0 ≤ e ∧ e ≤ V
    · rw [if_pos h1] at h
      by_cases h2 : -P ≤ e - b ∧ e - b ≤ P
      · rw [if_pos h2] at h; exact cp_err h
      · rw [if_neg h2] at h; injection h with h; subst h; show (22 : Int) ≠ 0; decide
    · rw [if_neg h1] at h; injection h with h; subst h; show (2 : Int) ≠ 0; decide
theorem cpE_ok {V P : Int} {l : List Int} (hl : l.length ≤ 200) (h : okP V P l 0) : cpE V P l = (sumL l, 0) := by
  obtain ⟨b', x, y⟩ := cp_ok (i := 0) (d := 0) h
  unfold cpE
  rw [if_neg (by omega), y, cpO]
  simp only
  rw [if_neg (by omega), Int.zero_add]
theorem cpE_inv {V P : Int} {l : List Int} (h : (cpE V P l).2 = 0) : l.length ≤ 200 ∧ okP V P l 0 ∧ (cpE V P l).1 = sumL l := by
  unfold cpE at h ⊢
  by_cases h1 : (200 : Int) < (l.length : Int)
  · rw [if_pos h1] at h; cases h
  · rw [if_neg h1] at h ⊢
    cases hc : cp V P l 0 0 0 with
    | inl x => rw [hc, cpO] at h; exact absurd h (cp_err hc)
    | inr y =>
      obtain ⟨b', d'⟩ := y
      rw [hc, cpO] at h
      rw [cpO]
      by_cases h2 : P < b'
      · simp only [if_pos h2] at h; cases h
      · simp only [if_neg h2]
        obtain ⟨q1, q2⟩ := cp_inv hc (by omega)
        exact ⟨by omega, q1, by omega⟩

/-! ### Sums -/
theorem sh_shift {v P : Int} : ∀ m, sh v P (m + 1) = (if 0 < v - P then v - P else 0) + sh (v - P) P m
  | 0 => by
    rw [sh, sh, sh, show ((0 : Nat) : Int) + 1 = 1 from rfl, Int.mul_one]; omega
  | m + 1 => by
    have ih := sh_shift (v := v) (P := P) m
    have e1 : sh v P (m + 1 + 1) = sh v P (m + 1) + (if 0 < v - P * (((m + 1 : Nat) : Int) + 1) then v - P * (((m + 1 : Nat) : Int) + 1) else 0) := rfl
    have e2 : sh (v - P) P (m + 1) = sh (v - P) P m + (if 0 < v - P - P * ((m : Int) + 1) then v - P - P * ((m : Int) + 1) else 0) := rfl
    rw [show ((m + 1 : Nat) : Int) + 1 = (m : Int) + 1 + 1 by omega, pmul_succ P ((m : Int) + 1), show v - (P * ((m : Int) + 1) + P) = v - P - P * ((m : Int) + 1) by omega] at e1
    rw [e1, e2, ih]; omega
theorem sh_monoW {w x P : Int} (h : w ≤ x) : ∀ m, sh w P m ≤ sh x P m
  | 0 => Int.le_refl _
  | m + 1 => by
    have ih := sh_monoW (P := P) h m
    rw [sh, sh]
    split <;> split <;> omega
theorem sh_301 {v P : Int} (p1 : 1 ≤ P) (h : v ≤ 100) : sh v P 301 = sh v P 300 := by
  have := pmono p1 (show (301 : Int) ≤ ((300 : Nat) : Int) + 1 by omega)
  have q : (1 : Int) * 301 ≤ P * 301 := Int.mul_le_mul_of_nonneg_right p1 (by omega)
  exact sh_end p1 (show v ≤ P * (((300 : Nat) : Int) + 1) by omega) 1
theorem dn_low {V P v D : Int} (L : Lim V P) (hv : 0 ≤ v) (hV : v ≤ V) (hs : sh v P 300 ≤ D) : v - P ≤ ((dn P D (tp V P v) : Nat) : Int) := by
  obtain ⟨t1, t2, t3, t4⟩ := tp_le L hv
  have L' := L
  obtain ⟨v1, v2, p1, p2⟩ := L'
  rcases Int.lt_or_le ((dn P D (tp V P v) : Nat) : Int) (v - P) with c | c
  · exfalso
    obtain ⟨u, hu⟩ := Int.eq_ofNat_of_zero_le (show 0 ≤ v - P by omega)
    have g := @dn_gt P D (tp V P v) u (by omega) (by omega)
    have s := sh_shift (v := v) (P := P) 300
    rw [sh_301 p1 (by omega), if_pos (by omega), hu] at s
    omega
  · exact c
theorem greedy_a {V P v D : Int} (L : Lim V P) (hv : 0 ≤ v) {n : Nat} (hn : n + 1 ≤ 200) (hD : 0 ≤ D) (hF : D ≤ fa v P V (n + 1) (n + 1)) : ((dn P D (tp V P v) : Nat) : Int) ≤ P * ((n : Int) + 1) := by
  have hok := dn_ok L.p1 hD (tp V P v)
  generalize dn P D (tp V P v) = w at *
  have hT := fa_tri (v := v) (P := P) (V := V) (n := n + 1) (n + 1) (Nat.le_refl _)
  rw [Nat.sub_self, show tri P 0 = 0 from rfl] at hT
  rcases Int.lt_or_le (P * ((n : Int) + 1)) (w : Int) with c | c
  · exfalso
    have q := sh_tri (w := (w : Int)) (P := P) (δ := 1) (n := n + 1) (by rw [show ((n + 1 : Nat) : Int) = (n : Int) + 1 by omega]; omega) (by omega) n (by omega)
    rw [show n + 1 - 1 - n = 0 by omega] at q
    have m := sh_mono (w := (w : Int)) (P := P) (show n ≤ 300 by omega)
    rw [show tri P 0 = 0 from rfl] at q
    omega
  · exact c
/-- The profile for a distance is accepted. -/
theorem pr_ok {V P : Int} (L : Lim V P) (n : Nat) : ∀ v D, n ≤ 200 → 0 ≤ v → v ≤ V → 0 ≤ D → D ≤ fa v P V n n → sh v P 300 ≤ D → (n = 0 → v ≤ P) → okP V P (pr V P n v D) v ∧ sumL (pr V P n v D) = D := by
  induction n with
  | zero =>
    intro v D _ _ _ d0 hF _ h0
    rw [pr, okP, sumL]
    rw [fa] at hF
    exact ⟨h0 rfl, by omega⟩
  | succ n ih =>
    intro v D hn v0 v1 d0 hF hs _
    obtain ⟨r1, r2⟩ := dn_rest (v := v) (D := D) L v0 d0
    obtain ⟨g1, g2⟩ := greedy L v0 hn d0 hF
    have ga := greedy_a L v0 hn d0 hF
    have gl := dn_low L v0 v1 hs
    have hok := dn_ok L.p1 d0 (tp V P v)
    obtain ⟨t1, t2, t3, -⟩ := tp_le L v0
    have hle := dn_le P D (tp V P v)
    obtain ⟨a, b⟩ := ih ((dn P D (tp V P v) : Nat) : Int) (D - ((dn P D (tp V P v) : Nat) : Int)) (by omega) (by omega) (by omega) (by omega) g2 (by omega) (fun h => by subst h; rw [show ((0 : Nat) : Int) + 1 = 1 from rfl, Int.mul_one] at ga; exact ga)
    rw [pr, okP, sumL, b]
    exact ⟨⟨⟨by omega, by omega⟩, ⟨by omega, by omega⟩, a⟩, by omega⟩
theorem okP_le {V P : Int} : ∀ {l : List Int} {v : Int}, okP V P l v → v ≤ P * ((l.length : Int) + 1)
  | [], v, h => by
    rw [show (([] : List Int).length : Int) + 1 = 1 from rfl, Int.mul_one]; exact h
  | e :: r, v, h => by
    obtain ⟨_, h2, h3⟩ := h
    have := okP_le h3
    rw [List.length_cons, show ((r.length + 1 : Nat) : Int) + 1 = (r.length : Int) + 1 + 1 by omega, pmul_succ]
    omega
theorem fa_up {v e P V : Int} {n : Nat} (p1 : 1 ≤ P) (h1 : e ≤ V) (h2 : e ≤ v + P) (h3 : e ≤ P * ((n : Int) + 1)) : ∀ m, m ≤ n → e + fa e P V n m ≤ fa v P V (n + 1) (m + 1)
  | 0, _ => by
    have t := tm_ge (v := v) (P := P) (V := V) (n := n + 1) (i := 0 + 1) (x := e) h1 (by rw [show ((0 + 1 : Nat) : Int) = 1 from rfl, Int.mul_one]; exact h2) (by rw [show ((n + 1 : Nat) : Int) + 1 - ((0 + 1 : Nat) : Int) = (n : Int) + 1 by omega]; exact h3)
    rw [fa, fa, fa]; omega
  | m + 1, h => by
    have ih := fa_up (v := v) (n := n) p1 h1 h2 h3 m (by omega)
    obtain ⟨a, b, c⟩ := tm_le (v := e) (P := P) (V := V) (n := n) (i := m + 1)
    have e1 : P * ((m + 1 + 1 : Nat) : Int) = P * ((m + 1 : Nat) : Int) + P := by rw [show ((m + 1 + 1 : Nat) : Int) = ((m + 1 : Nat) : Int) + 1 by omega, pmul_succ]
    have e2 : ((n + 1 : Nat) : Int) + 1 - ((m + 1 + 1 : Nat) : Int) = (n : Int) + 1 - ((m + 1 : Nat) : Int) := by omega
    have t := tm_ge (v := v) (P := P) (V := V) (n := n + 1) (i := m + 1 + 1) (x := tm e P V n (m + 1)) a (by omega) (by rw [e2]; exact c)
    have e4 : fa v P V (n + 1) (m + 1 + 1) = fa v P V (n + 1) (m + 1) + tm v P V (n + 1) (m + 1 + 1) := rfl
    have e5 : fa e P V n (m + 1) = fa e P V n m + tm e P V n (m + 1) := rfl
    omega
/-- No accepted profile goes farther. -/
theorem sum_fa {V P : Int} (p1 : 1 ≤ P) : ∀ {l : List Int} {v : Int}, okP V P l v → sumL l ≤ fa v P V l.length l.length
  | [], v, _ => Int.le_refl _
  | e :: r, v, h => by
    obtain ⟨h1, h2, h3⟩ := h
    have ih := sum_fa p1 h3
    have q := fa_up (v := v) (e := e) (P := P) (V := V) (n := r.length) p1 h1.2 (by omega) (okP_le h3) r.length (Nat.le_refl _)
    rw [sumL, List.length_cons]
    omega
theorem sum_sh {V P : Int} (L : Lim V P) : ∀ {l : List Int} {v : Int}, okP V P l v → v ≤ 100 → sh v P 300 ≤ sumL l
  | [], v, h, _ => by
    have := sh_end (w := v) (i := 0) L.p1 (by rw [show ((0 : Nat) : Int) + 1 = 1 from rfl, Int.mul_one]; exact h) 300
    rw [Nat.zero_add] at this
    rw [this, sh, sumL]; omega
  | e :: r, v, h, hv => by
    obtain ⟨h1, h2, h3⟩ := h
    have L' := L
    obtain ⟨v1, v2, p1, p2⟩ := L'
    have ih := sum_sh L h3 (by omega)
    have s := sh_shift (v := v) (P := P) 300
    rw [sh_301 p1 hv] at s
    have m := sh_monoW (P := P) (show v - P ≤ e by omega) 300
    rw [sumL]
    split at s <;> omega
/-- A list that is not greater, number by number. -/
def notB : List Int → List Int → Prop
  | [], _ => True
  | _ :: _, [] => True
  | a :: l, b :: m => b < a ∨ (a = b ∧ notB l m)
theorem pr_lex {V P : Int} (L : Lim V P) : ∀ (s : List Int) (v D : Int), s.length ≤ 200 → 0 ≤ v → v ≤ V → 0 ≤ D → D ≤ fa v P V s.length s.length → okP V P s v → sumL s = D → notB (pr V P s.length v D) s
  | [], v, D, _, _, _, _, _, _, _ => trivial
  | e :: r, v, D, hn, v0, v1, d0, hF, hs, hD => by
    obtain ⟨h1, h2, h3⟩ := hs
    obtain ⟨r1, r2⟩ := dn_rest (v := v) (D := D) L v0 d0
    rw [List.length_cons] at hn hF
    obtain ⟨g1, g2⟩ := greedy L v0 hn d0 hF
    have L' := L
    obtain ⟨a1, a2, p1, p2⟩ := L'
    have ss := sum_sh L h3 (by omega)
    rw [sumL] at hD
    obtain ⟨t1, t2, t3, t4⟩ := tp_le L v0
    have hle := dn_le P D (tp V P v)
    have he : e ≤ ((dn P D (tp V P v) : Nat) : Int) := by
      rcases Int.lt_or_le ((dn P D (tp V P v) : Nat) : Int) e with c | c
      · exfalso
        obtain ⟨u, hu⟩ := Int.eq_ofNat_of_zero_le h1.1
        have g := @dn_gt P D (tp V P v) u (by omega) (by omega)
        rw [hu] at ss hD
        omega
      · exact c
    rw [List.length_cons, pr, notB]
    by_cases c : e = ((dn P D (tp V P v) : Nat) : Int)
    · refine .inr ⟨c.symm, ?_⟩
      rw [← c] at g2 ⊢
      exact pr_lex L r e (D - e) (by omega) h1.1 h1.2 (by omega) g2 h3 (by omega)
    · exact .inl (by omega)

/-! ### Ticks -/
theorem tk_ex {D V P : Int} : ∀ {m t s : Nat}, t ≤ s → s < t + m → D ≤ fa 0 P V s s → ∃ x, x ≤ s ∧ tk D V P m t = some x
  | 0, t, s, _, h, _ => by omega
  | m + 1, t, s, h1, h2, h3 => by
    rw [tk]
    by_cases c : D ≤ fa 0 P V t t
    · rw [if_pos c]; exact ⟨t, h1, rfl⟩
    · rw [if_neg c]
      rcases Nat.lt_or_ge t s with h4 | h4
      · exact tk_ex (by omega) (by omega) h3
      · have : t = s := by omega
        subst this; exact absurd h3 c
theorem fa_lim {V P V' P' : Int} (p1 : 1 ≤ P) (hV : V ≤ V') (hP : P ≤ P') {n : Nat} : ∀ m, m ≤ n → fa 0 P V n m ≤ fa 0 P' V' n m
  | 0, _ => Int.le_refl _
  | m + 1, h => by
    have ih := fa_lim p1 hV hP (n := n) m (by omega)
    obtain ⟨a, b, c⟩ := tm_le (v := 0) (P := P) (V := V) (n := n) (i := m + 1)
    have q1 := Int.mul_le_mul_of_nonneg_right hP (show (0 : Int) ≤ ((m + 1 : Nat) : Int) by omega)
    have q2 := Int.mul_le_mul_of_nonneg_right hP (show (0 : Int) ≤ (n : Int) + 1 - ((m + 1 : Nat) : Int) by omega)
    have t := tm_ge (v := 0) (P := P') (V := V') (n := n) (i := m + 1) (x := tm 0 P V n (m + 1)) (by omega) (by omega) (by omega)
    rw [fa, fa]; omega

end Go.Proofs.Ytaclcmliacedcaa
