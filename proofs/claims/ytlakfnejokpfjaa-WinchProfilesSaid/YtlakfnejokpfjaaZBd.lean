/-
  Profiles of a winch: the greatest speed that still rests within the distance is the greatest one after which the rest can be had.
-/
import Derived.Test.YtlakfnejokpfjaaZBc
set_option linter.all false
namespace Go.Proofs.Ytlakfnejokpfjaa
open Go Go.RowKit

theorem sh_zero {P : Int} (p1 : 1 ≤ P) : ∀ m, sh 0 P m = 0
  | 0 => rfl
  | m + 1 => by
    have := pmono p1 (show (0 : Int) ≤ (m : Int) + 1 by omega)
    rw [Int.mul_zero] at this
    rw [sh, sh_zero p1 m, if_neg (by omega)]; rfl
theorem sh_mono {w P : Int} : ∀ {i j : Nat}, i ≤ j → sh w P i ≤ sh w P j
  | i, 0, h => by rw [show i = 0 by omega]; exact Int.le_refl _
  | i, j + 1, h => by
    rcases Nat.lt_or_ge j i with h1 | h1
    · rw [show i = j + 1 by omega]; exact Int.le_refl _
    · have := sh_mono (w := w) (P := P) h1
      rw [show sh w P (j + 1) = sh w P j + (if 0 < w - P * ((j : Int) + 1) then w - P * ((j : Int) + 1) else 0) from rfl]
      split <;> omega
def dn (P D : Int) : Nat → Nat
  | 0 => 0
  | w + 1 => if (w : Int) + 1 + sh ((w : Int) + 1) P 300 ≤ D then w + 1 else dn P D w
theorem dn_le (P D : Int) : ∀ w, dn P D w ≤ w
  | 0 => Nat.le_refl _
  | w + 1 => by
    have := dn_le P D w
    unfold dn
    split <;> omega
theorem dn_ok {P D : Int} (p1 : 1 ≤ P) (hD : 0 ≤ D) : ∀ w, (dn P D w : Int) + sh (dn P D w : Int) P 300 ≤ D
  | 0 => by
    unfold dn
    rw [show ((0 : Nat) : Int) = 0 from rfl, sh_zero p1]; omega
  | w + 1 => by
    unfold dn
    by_cases h : (w : Int) + 1 + sh ((w : Int) + 1) P 300 ≤ D
    · rw [if_pos h, show ((w + 1 : Nat) : Int) = (w : Int) + 1 by omega]; exact h
    · rw [if_neg h]; exact dn_ok p1 hD w
theorem dn_gt {P D : Int} : ∀ {w u : Nat}, dn P D w < u → u ≤ w → D < (u : Int) + sh (u : Int) P 300
  | 0, u, h, hu => by omega
  | w + 1, u, h, hu => by
    unfold dn at h
    by_cases c : (w : Int) + 1 + sh ((w : Int) + 1) P 300 ≤ D
    · rw [if_pos c] at h; omega
    · rw [if_neg c] at h
      rcases Nat.lt_or_ge w u with h1 | h1
      · rw [show u = w + 1 by omega, show ((w + 1 : Nat) : Int) = (w : Int) + 1 by omega]; omega
      · exact dn_gt h h1
def tp (V P v : Int) : Nat := (if v + P < V then v + P else V).toNat
theorem tp_le {V P v : Int} (L : Lim V P) (hv : 0 ≤ v) : tp V P v ≤ 100 ∧ (tp V P v : Int) ≤ V ∧ (tp V P v : Int) ≤ v + P ∧ ((tp V P v : Int) = V ∨ (tp V P v : Int) = v + P) := by
  obtain ⟨v1, v2, p1, p2⟩ := L
  unfold tp
  split <;> omega
theorem p_fast (fu : Nat) (hf : 1000 ≤ fu) {V P D : Int} (L : Lim V P) (hD : 0 ≤ D) (hD2 : D ≤ 100000) : ∀ k w, w ≤ 100 → w < k → w_limits_fastest_L1 fu D V P k ((w : Nat) : Int) = some ((dn P D w : Nat) : Int)
  | 0, w, _, h => by omega
  | k + 1, 0, _, _ => by
    rw [w_limits_fastest_L1, p_stopping fu hf V L.p1 L.p2 (by omega) (by omega), Option.bind_some, show ((0 : Nat) : Int) = 0 from rfl, sh_zero L.p1, wrapB (by omega) (by omega), if_neg (by omega), dn]; rfl
  | k + 1, w + 1, hw, h => by
    obtain ⟨a, b⟩ := sh_range L.p1 L.p2 (w := ((w + 1 : Nat) : Int)) (by omega) (by omega) 300 (by omega)
    rw [w_limits_fastest_L1, p_stopping fu hf V L.p1 L.p2 (by omega) (by omega), Option.bind_some, wrapB (x := ((w + 1 : Nat) : Int) + _) (by omega) (by omega), dn]
    rw [show ((w + 1 : Nat) : Int) = (w : Int) + 1 by omega] at *
    by_cases c : (w : Int) + 1 + sh ((w : Int) + 1) P 300 ≤ D
    · rw [if_neg (by omega), if_pos c]; congr 1
    · rw [if_pos (by omega), if_neg c, wrapB (by omega) (by omega), show (w : Int) + 1 - 1 = (w : Int) by omega]
      exact p_fast fu hf L hD hD2 k w (by omega) (by omega)
theorem p_fastest (fu : Nat) (hf : 1000 ≤ fu) {V P D v : Int} (L : Lim V P) (hD : 0 ≤ D) (hD2 : D ≤ 100000) (hv : 0 ≤ v) (hv2 : v ≤ 100) : w_limits_fastest fu V P v D = some ((dn P D (tp V P v) : Nat) : Int) := by
  obtain ⟨t1, -, -, -⟩ := tp_le L hv
  have e := p_fast fu hf L hD hD2 fu (tp V P v) t1 (by omega)
  have L' := L
  obtain ⟨v1, v2, p1, p2⟩ := L'
  unfold w_limits_fastest
  rw [wrapB (by omega) (by omega)]
  by_cases c : v + P < V
  · have q : ((tp V P v : Nat) : Int) = v + P := by unfold tp; rw [if_pos c]; omega
    rw [q] at e
    rw [if_pos c, e]; rfl
  · have q : ((tp V P v : Nat) : Int) = V := by unfold tp; rw [if_neg c]; omega
    rw [q] at e
    rw [if_neg c, e]; rfl
def ft (V P w : Int) (n : Nat) (r : Int) : Prop := w ≤ P * ((n : Int) + 1) ∧ sh w P n ≤ r ∧ r ≤ fa w P V n n
instance (V P w : Int) (n : Nat) (r : Int) : Decidable (ft V P w n r) := by unfold ft; infer_instance
theorem p_fits (fu : Nat) (hf : 1000 ≤ fu) {V P w : Int} (L : Lim V P) (h3 : 0 ≤ w) (h4 : w ≤ 100) {n : Nat} (hn : n ≤ 200) (r : Int) : r2_fits fu V P w (n : Int) r = some (decide (ft V P w n r)) := by
  obtain ⟨c, d, _⟩ := pk L.p1 L.p2 (k := (n : Int) + 1) (by omega) (by omega)
  unfold r2_fits
  rw [wrapB (x := (n : Int) + 1) (by omega) (by omega), wrapB (x := P * ((n : Int) + 1)) (by omega) (by omega), p_shortest fu hf V L.p1 L.p2 h3 h4 hn, p_farthest fu hf L h3 h4 hn]
  by_cases c1 : w ≤ P * ((n : Int) + 1)
  · rw [if_pos c1, Option.bind_some]
    by_cases c2 : sh w P n ≤ r
    · rw [if_pos c2, Option.bind_some]
      by_cases c3 : r ≤ fa w P V n n
      · rw [if_pos c3, decide_eq_true (show ft V P w n r from ⟨c1, c2, c3⟩)]
      · rw [if_neg c3, decide_eq_false (fun q : ft V P w n r => c3 q.2.2)]
    · rw [if_neg c2, decide_eq_false (fun q : ft V P w n r => c2 q.2.1)]
  · rw [if_neg c1, decide_eq_false (fun q : ft V P w n r => c1 q.1)]
def rf (V P D : Int) (n : Nat) : Nat → Nat
  | 0 => 0
  | w + 1 => if ft V P ((w : Int) + 1) n (D - ((w : Int) + 1)) then w + 1 else rf V P D n w
theorem p_ref (fu : Nat) (hf : 1000 ≤ fu) {V P D : Int} (L : Lim V P) (hD : 0 ≤ D) (hD2 : D ≤ 100000) (out : List Int) {n : Nat} (hn : n ≤ 200) : ∀ k w, w ≤ 100 → w < k → r2_Profile_L2 fu D V P out (n : Int) k ((w : Nat) : Int) = some (out, ((rf V P D n w : Nat) : Int))
  | 0, w, _, h => by omega
  | k + 1, 0, _, _ => by
    rw [r2_Profile_L2, if_neg (by omega)]; rfl
  | k + 1, w + 1, hw, h => by
    rw [r2_Profile_L2, if_pos (by omega), wrapB (x := D - ((w + 1 : Nat) : Int)) (by omega) (by omega), p_fits fu hf L (by omega) (by omega) hn, Option.bind_some, rf]
    rw [show ((w + 1 : Nat) : Int) = (w : Int) + 1 by omega]
    by_cases c : ft V P ((w : Int) + 1) n (D - ((w : Int) + 1))
    · rw [if_pos (decide_eq_true c), if_pos c]; congr 2
    · rw [if_neg (by simpa using c), if_neg c, wrapB (by omega) (by omega), show (w : Int) + 1 - 1 = (w : Int) by omega]
      exact p_ref fu hf L hD hD2 out hn k w (by omega) (by omega)
theorem rf_eq {V P D : Int} {n w : Nat} : ∀ t, (∀ u : Nat, w < u → u ≤ t → ¬ ft V P (u : Int) n (D - (u : Int))) → (w = 0 ∨ ft V P (w : Int) n (D - (w : Int))) → w ≤ t → rf V P D n t = w
  | 0, _, _, h => by rw [rf]; omega
  | t + 1, h1, h2, h => by
    rw [rf]
    rcases Nat.lt_or_ge t w with h3 | h3
    · have e : w = t + 1 := by omega
      subst e
      rcases h2 with h2 | h2
      · omega
      · rw [show ((t + 1 : Nat) : Int) = (t : Int) + 1 by omega] at h2
        rw [if_pos h2]
    · have q := h1 (t + 1) (by omega) (by omega)
      rw [show ((t + 1 : Nat) : Int) = (t : Int) + 1 by omega] at q
      rw [if_neg q]
      exact rf_eq t (fun u a b => h1 u a (by omega)) h2 h3

/-! ### The greatest one -/
def tri (P : Int) : Nat → Int
  | 0 => 0
  | n + 1 => tri P n + P * ((n : Int) + 1)
theorem tm_le {v P V : Int} {n i : Nat} : tm v P V n i ≤ V ∧ tm v P V n i ≤ v + P * (i : Int) ∧ tm v P V n i ≤ P * ((n : Int) + 1 - (i : Int)) := by
  unfold tm mnI
  generalize P * (i : Int) = A
  generalize P * ((n : Int) + 1 - (i : Int)) = B
  split <;> split at * <;> omega
theorem tm_ge {v P V x : Int} {n i : Nat} (h1 : x ≤ V) (h2 : x ≤ v + P * (i : Int)) (h3 : x ≤ P * ((n : Int) + 1 - (i : Int))) : x ≤ tm v P V n i := by
  unfold tm mnI
  generalize P * (i : Int) = A at *
  generalize P * ((n : Int) + 1 - (i : Int)) = B at *
  split <;> split at * <;> omega
theorem fa_tri {v P V : Int} {n : Nat} : ∀ m, m ≤ n → fa v P V n m ≤ tri P n - tri P (n - m)
  | 0, _ => by rw [fa, Nat.sub_zero]; omega
  | m + 1, h => by
    have ih := fa_tri (v := v) (P := P) (V := V) (n := n) m (by omega)
    have t := (tm_le (v := v) (P := P) (V := V) (n := n) (i := m + 1)).2.2
    rw [show n - m = (n - (m + 1)) + 1 by omega, tri, show ((n - (m + 1) : Nat) : Int) + 1 = (n : Int) + 1 - ((m + 1 : Nat) : Int) by omega] at ih
    rw [fa]
    omega
theorem sh_tri {w P δ : Int} {n : Nat} (h : P * (n : Int) + δ ≤ w) (hδ : 0 ≤ δ) : ∀ m, m + 1 ≤ n → tri P n - tri P (n - 1 - m) + δ ≤ w + sh w P m
  | 0, hm => by
    rw [sh, show n - 1 - 0 = n - 1 from rfl]
    have e : tri P n = tri P (n - 1) + P * (n : Int) := by
      obtain ⟨q, rfl⟩ : ∃ q, n = q + 1 := ⟨n - 1, by omega⟩
      rw [tri, show q + 1 - 1 = q by omega, show ((q + 1 : Nat) : Int) = (q : Int) + 1 by omega]
    omega
  | m + 1, hm => by
    have ih := sh_tri h hδ m (by omega)
    have e : tri P (n - 1 - m) = tri P (n - 1 - (m + 1)) + P * ((n : Int) - ((m : Int) + 1)) := by
      obtain ⟨q, rfl⟩ : ∃ q, n = q + (m + 2) := ⟨n - (m + 2), by omega⟩
      rw [show q + (m + 2) - 1 - m = q + 1 by omega, show q + (m + 2) - 1 - (m + 1) = q by omega, tri, show ((q + (m + 2) : Nat) : Int) - ((m : Int) + 1) = (q : Int) + 1 by omega]
    rw [Int.mul_sub] at e
    rw [sh]
    split <;> omega
theorem fa_step {v w P V : Int} {n : Nat} (p1 : 1 ≤ P) (hw : w = V ∨ w = v + P) (h1 : w ≤ V) (h2 : w ≤ v + P) : ∀ m, m ≤ n → fa v P V (n + 1) (m + 1) ≤ w + fa w P V n m
  | 0, _ => by
    obtain ⟨a, b, _⟩ := tm_le (v := v) (P := P) (V := V) (n := n + 1) (i := 0 + 1)
    rw [show ((0 + 1 : Nat) : Int) = 1 from rfl, Int.mul_one] at b
    rw [fa, fa, fa]
    omega
  | m + 1, h => by
    have ih := fa_step (n := n) p1 hw h1 h2 m (by omega)
    obtain ⟨a, b, c⟩ := tm_le (v := v) (P := P) (V := V) (n := n + 1) (i := m + 1 + 1)
    have e1 : P * ((m + 1 + 1 : Nat) : Int) = P * ((m + 1 : Nat) : Int) + P := by rw [show ((m + 1 + 1 : Nat) : Int) = ((m + 1 : Nat) : Int) + 1 by omega, pmul_succ]
    have e2 : ((n + 1 : Nat) : Int) + 1 - ((m + 1 + 1 : Nat) : Int) = (n : Int) + 1 - ((m + 1 : Nat) : Int) := by omega
    have e3 := pmono p1 (show (0 : Int) ≤ ((m + 1 : Nat) : Int) by omega)
    rw [Int.mul_zero] at e3
    have t := tm_ge (v := w) (P := P) (V := V) (n := n) (i := m + 1) (x := tm v P V (n + 1) (m + 1 + 1)) a (by omega) (by rw [← e2]; exact c)
    have e4 : fa v P V (n + 1) (m + 1 + 1) = fa v P V (n + 1) (m + 1) + tm v P V (n + 1) (m + 1 + 1) := rfl
    have e5 : fa w P V n (m + 1) = fa w P V n m + tm w P V n (m + 1) := rfl
    omega
theorem sh_fa {w x P V : Int} {n : Nat} (L : Lim V P) (hw : 0 ≤ w) (hn : n ≤ 300) (h1 : x ≤ w + 1) (h2 : x ≤ V) (h3 : x ≤ P * ((n : Int) + 1)) : ∀ m, m ≤ n → sh x P m ≤ fa w P V n m
  | 0, _ => by rw [sh, fa]; omega
  | m + 1, h => by
    have ih := sh_fa L hw hn h1 h2 h3 m (by omega)
    have r := tm_range L hw (show m + 1 ≤ n from h) hn
    obtain ⟨c, d, e⟩ := pk L.p1 L.p2 (k := (m : Int) + 1) (by omega) (by omega)
    rw [sh, fa]
    by_cases c1 : 0 < x - P * ((m : Int) + 1)
    · rw [if_pos c1]
      have t := tm_ge (v := w) (P := P) (V := V) (n := n) (i := m + 1) (x := x - P * ((m : Int) + 1)) (by omega) (by rw [show ((m + 1 : Nat) : Int) = (m : Int) + 1 by omega]; omega) (by rw [show ((m + 1 : Nat) : Int) = (m : Int) + 1 by omega, Int.mul_sub]; omega)
      omega
    · rw [if_neg c1]; omega
theorem greedy {V P v D : Int} (L : Lim V P) (hv : 0 ≤ v) {n : Nat} (hn : n + 1 ≤ 200) (hD : 0 ≤ D) (hF : D ≤ fa v P V (n + 1) (n + 1)) : rf V P D n (tp V P v) = dn P D (tp V P v) ∧ D - (dn P D (tp V P v) : Int) ≤ fa (dn P D (tp V P v) : Int) P V n n := by
  obtain ⟨t1, t2, t3, t4⟩ := tp_le L hv
  have hle := dn_le P D (tp V P v)
  have hok := dn_ok L.p1 hD (tp V P v)
  have hgt := @dn_gt P D (tp V P v)
  generalize hw : dn P D (tp V P v) = w at *
  have h0 : (0 : Int) ≤ (w : Int) := by omega
  have hT := fa_tri (v := v) (P := P) (V := V) (n := n + 1) (n + 1) (Nat.le_refl _)
  rw [Nat.sub_self, tri] at hT
  have ha : (w : Int) ≤ P * ((n : Int) + 1) := by
    rcases Int.lt_or_le (P * ((n : Int) + 1)) (w : Int) with c | c
    · exfalso
      have q := sh_tri (w := (w : Int)) (P := P) (δ := 1) (n := n + 1) (by rw [show ((n + 1 : Nat) : Int) = (n : Int) + 1 by omega]; omega) (by omega) n (by omega)
      rw [show n + 1 - 1 - n = 0 by omega] at q
      have m := sh_mono (w := (w : Int)) (P := P) (show n ≤ 300 by omega)
      rw [show tri P 0 = 0 from rfl] at q
      omega
    · exact c
  have hb := sh_st L.p1 (show n ≤ 300 by omega) ha
  have hc : D - (w : Int) ≤ fa (w : Int) P V n n := by
    by_cases ht : w = tp V P v
    · have q := fa_step (v := v) (w := (w : Int)) (P := P) (V := V) (n := n) L.p1 (by rw [ht]; exact t4) (by omega) (by omega) n (Nat.le_refl _)
      omega
    · have g := hgt (u := w + 1) (by omega) (by omega)
      rw [show ((w + 1 : Nat) : Int) = (w : Int) + 1 by omega] at g
      by_cases c : (w : Int) + 1 ≤ P * ((n : Int) + 1)
      · have e := sh_st L.p1 (show n ≤ 300 by omega) c
        have q := sh_fa (w := (w : Int)) (x := (w : Int) + 1) L h0 (show n ≤ 300 by omega) (Int.le_refl _) (by omega) c n (Nat.le_refl _)
        omega
      · have q := sh_tri (w := (w : Int)) (P := P) (δ := 0) (n := n + 1) (by rw [show ((n + 1 : Nat) : Int) = (n : Int) + 1 by omega]; omega) (by omega) n (by omega)
        rw [show n + 1 - 1 - n = 0 by omega] at q
        have q2 := sh_fa (w := (w : Int)) (x := (w : Int)) L h0 (show n ≤ 300 by omega) (by omega) (by omega) ha n (Nat.le_refl _)
        rw [show tri P 0 = 0 from rfl] at q
        omega
  refine ⟨rf_eq _ (fun u a b c => ?_) (.inr ⟨ha, by omega, hc⟩) hle, hc⟩
  have g := hgt (u := u) a b
  have e := sh_st L.p1 (show n ≤ 300 by omega) c.1
  have := c.2.1
  omega
end Go.Proofs.Ytlakfnejokpfjaa
