/-
  Profiles of a winch: the ticks and the profile for a distance.
-/
import Derived.Test.YtlakfnejokpfjaaZBd
import Derived.Test.YtlakfnejokpfjaaZBb
set_option linter.all false
namespace Go.Proofs.Ytlakfnejokpfjaa
open Go Go.RowKit

/-- The first number of ticks, from t on, that reaches a distance. -/
def tk (D V P : Int) : Nat → Nat → Option Nat
  | 0, _ => none
  | m + 1, t => if D ≤ fa 0 P V t t then some t else tk D V P m (t + 1)
theorem tk_ok {D V P : Int} : ∀ {m t x : Nat}, tk D V P m t = some x → x < t + m ∧ D ≤ fa 0 P V x x
  | 0, t, x, h => by cases h
  | m + 1, t, x, h => by
    unfold tk at h
    by_cases c : D ≤ fa 0 P V t t
    · rw [if_pos c] at h; injection h with h; subst h; exact ⟨by omega, c⟩
    · rw [if_neg c] at h
      have := tk_ok h
      exact ⟨by omega, this.2⟩
def tkO : Option Nat → Int ⊕ Unit
  | some x => .inl ((x : Nat) : Int)
  | none => .inr ()
theorem p_ticksL (fu : Nat) (hf : 1000 ≤ fu) {V P : Int} (L : Lim V P) (D : Int) : ∀ k t, t ≤ 201 → 201 - t < k → w_TicksFor_L1 fu D V P k ((t : Nat) : Int) = some (tkO (tk D V P (201 - t) t))
  | 0, t, _, h => by omega
  | k + 1, t, ht, h => by
    rw [w_TicksFor_L1]
    rcases Nat.lt_or_ge t 201 with h1 | h1
    · rw [if_pos (by omega), p_farthestW fu hf L (by omega), Option.bind_some, show 201 - t = (201 - (t + 1)) + 1 by omega, tk]
      by_cases c : D ≤ fa 0 P V t t
      · rw [if_pos c, if_pos c]; rfl
      · rw [if_neg c, if_neg c, wrapS (by omega)]
        exact p_ticksL fu hf L D k (t + 1) (by omega) (by omega)
    · rw [if_neg (by omega), show 201 - t = 0 by omega]; rfl
theorem p_ticksR (fu : Nat) (hf : 1000 ≤ fu) {V P : Int} (L : Lim V P) (D : Int) : ∀ k t, t ≤ 201 → 201 - t < k → r2_Ticks_L1 fu D V P k ((t : Nat) : Int) = some (tkO (tk D V P (201 - t) t))
  | 0, t, _, h => by omega
  | k + 1, t, ht, h => by
    rw [r2_Ticks_L1]
    rcases Nat.lt_or_ge t 201 with h1 | h1
    · rw [if_pos (by omega), p_farthest fu hf L (by omega) (by omega) (by omega), Option.bind_some, show 201 - t = (201 - (t + 1)) + 1 by omega, tk]
      by_cases c : D ≤ fa 0 P V t t
      · rw [if_pos c, if_pos c]; rfl
      · rw [if_neg c, if_neg c, wrapS (by omega)]
        exact p_ticksR fu hf L D k (t + 1) (by omega) (by omega)
    · rw [if_neg (by omega), show 201 - t = 0 by omega]; rfl
def diE (D : Int) : Int := limE D 0 10000
def tkE (V P D : Int) : Int := firstE [limsE V P, diE D]
def tkF (V P D : Int) : Int × Int := if tkE V P D = 0 then (match tk D V P 201 0 with | some x => ((x : Int), 0) | none => (0, 8)) else (0, tkE V P D)
theorem p_ticksFor (fu : Nat) (hf : 1000 ≤ fu) (V P D : Int) : w_TicksFor fu V P D = some (tkF V P D) := by
  unfold w_TicksFor tkF
  rw [p_limits fu (by omega), Option.bind_some, p_limit, Option.bind_some, p_first fu _ (by simp; omega) (by simp), Option.bind_some]
  show (if tkE V P D = 0 then _ else _) = _
  rcases lims_cases V P with ⟨h0, L⟩ | ⟨h0, L⟩
  · have e := p_ticksL fu hf L D fu 0 (by omega) (by omega)
    rw [show ((0 : Nat) : Int) = 0 from rfl, Nat.sub_zero] at e
    rw [e, Option.bind_some]
    by_cases c : tkE V P D = 0
    · rw [if_pos c, if_pos c]
      cases tk D V P 201 0 <;> rfl
    · rw [if_neg c, if_neg c]
      unfold tkE diE; rfl
  · have c : ¬ tkE V P D = 0 := by unfold tkE firstE; rw [h0, if_neg (by decide)]; decide
    rw [if_neg c, if_neg c]
    unfold tkE diE; rfl
theorem p_ticks (fu : Nat) (hf : 1000 ≤ fu) {V P : Int} (L : Lim V P) (D : Int) : r2_Ticks fu V P D = some (match tk D V P 201 0 with | some x => ((x : Int), true) | none => (0, false)) := by
  unfold r2_Ticks
  have e := p_ticksR fu hf L D fu 0 (by omega) (by omega)
  rw [show ((0 : Nat) : Int) = 0 from rfl, Nat.sub_zero] at e
  rw [e, Option.bind_some]
  cases tk D V P 201 0 <;> rfl

/-! ### The profile -/
def pr (V P : Int) : Nat → Int → Int → List Int
  | 0, _, _ => []
  | n + 1, v, D => ((dn P D (tp V P v) : Nat) : Int) :: pr V P n ((dn P D (tp V P v) : Nat) : Int) (D - ((dn P D (tp V P v) : Nat) : Int))
theorem pr_len (V P : Int) : ∀ n v D, (pr V P n v D).length = n
  | 0, _, _ => rfl
  | n + 1, v, D => by rw [pr, List.length_cons, pr_len V P n]
theorem dn_rest {V P v D : Int} (L : Lim V P) (hv : 0 ≤ v) (hD : 0 ≤ D) : dn P D (tp V P v) ≤ 100 ∧ ((dn P D (tp V P v) : Nat) : Int) ≤ D := by
  have a := tp_le L hv
  have b := dn_le P D (tp V P v)
  have c := dn_ok L.p1 hD (tp V P v)
  have d := sh_range (w := ((dn P D (tp V P v) : Nat) : Int)) L.p1 L.p2 (by omega) (by omega) 300 (by omega)
  omega
theorem p_prog (fu : Nat) (hf : 1000 ≤ fu) {V P : Int} (L : Lim V P) {T : Nat} (hT : T ≤ 200) : ∀ k i out v D, out.length = i → i ≤ T → T - i < k → 0 ≤ v → v ≤ 100 → 0 ≤ D → D ≤ 10000 → w_ProfileFor_L1 fu V P (T : Int) k D (out ++ List.replicate (T - i) 0) v ((i : Nat) : Int) = some (out ++ pr V P (T - i) v D)
  | 0, i, out, v, D, _, _, h, _, _, _, _ => by omega
  | k + 1, i, out, v, D, ho, hi, h, v0, v1, d0, d1 => by
    rw [w_ProfileFor_L1]
    rcases Nat.lt_or_ge i T with h1 | h1
    · obtain ⟨r1, r2⟩ := dn_rest (v := v) (D := D) L v0 d0
      have q : T - i = (T - (i + 1)) + 1 := by omega
      have g : (out ++ List.replicate (T - i) (0 : Int))[0 + ((i : Nat) : Int).toNat]? = some 0 := by
        rw [Int.toNat_natCast, Nat.zero_add, List.getElem?_append_right (by omega), q, List.replicate_succ, ho, Nat.sub_self]; rfl
      have st : (out ++ List.replicate (T - i) (0 : Int)).set (0 + ((i : Nat) : Int).toNat) ((dn P D (tp V P v) : Nat) : Int) = (out ++ [((dn P D (tp V P v) : Nat) : Int)]) ++ List.replicate (T - (i + 1)) 0 := by
        rw [Int.toNat_natCast, Nat.zero_add, List.set_append_right _ _ (by omega), q, List.replicate_succ, ho, Nat.sub_self, List.set_cons_zero, List.append_assoc]; rfl
      rw [if_pos (by omega), p_fastest fu hf L d0 (by omega) v0 v1, Option.bind_some, if_pos (by omega), if_pos (by rw [List.length_append, List.length_replicate]; omega), g, Option.bind_some, st, wrapB (x := D - _) (by omega) (by omega), wrapS (by omega), p_prog fu hf L hT k (i + 1) _ _ _ (by rw [List.length_append, ho]; rfl) (by omega) (by omega) (by omega) (by omega) (by omega) (by omega), q, pr, List.append_assoc]; rfl
    · rw [if_neg (by omega), show T - i = 0 by omega, List.replicate_zero, pr]
theorem p_refP (fu : Nat) (hf : 1000 ≤ fu) {V P : Int} (L : Lim V P) : ∀ k n D out v, n < k → n ≤ 200 → out.length + n < 1000 → 0 ≤ v → v ≤ 100 → 0 ≤ D → D ≤ 10000 → D ≤ fa v P V n n → r2_Profile_L3 fu V P k D out v ((n : Int) - 1) = some (out ++ pr V P n v D)
  | 0, n, D, out, v, h, _, _, _, _, _, _, _ => by omega
  | k + 1, 0, D, out, v, _, _, _, _, _, _, _, _ => by
    rw [r2_Profile_L3, if_neg (by omega), pr, List.append_nil]
  | k + 1, n + 1, D, out, v, h, hn, ho, v0, v1, d0, d1, hF => by
    obtain ⟨r1, r2⟩ := dn_rest (v := v) (D := D) L v0 d0
    obtain ⟨g1, g2⟩ := greedy L v0 hn d0 hF
    obtain ⟨t1, -, -, -⟩ := tp_le L v0
    have e := p_ref fu hf L d0 (by omega) out (show n ≤ 200 by omega) fu (tp V P v) t1 (by omega)
    rw [g1] at e
    have L' := L
    obtain ⟨a1, a2, a3, a4⟩ := L'
    rw [r2_Profile_L3, show ((n + 1 : Nat) : Int) - 1 = (n : Int) by omega, if_pos (by omega), wrapB (x := v + P) (by omega) (by omega)]
    have fin : (if (out.length : Int) < (65536 : Int) then r2_Profile_L3 fu V P k (IntKind.wrap .i64 (D - ((dn P D (tp V P v) : Nat) : Int))) (out ++ [((dn P D (tp V P v) : Nat) : Int)]) ((dn P D (tp V P v) : Nat) : Int) (IntKind.wrap .i64 ((n : Int) - 1)) else none) = some (out ++ pr V P (n + 1) v D) := by
      rw [if_pos (by omega), wrapB (x := D - _) (by omega) (by omega), wrapB (x := (n : Int) - 1) (by omega) (by omega), p_refP fu hf L k n _ _ _ (by omega) (by omega) (by rw [List.length_append, List.length_singleton]; omega) (by omega) (by omega) (by omega) (by omega) g2, pr, List.append_assoc]; rfl
    by_cases c : v + P < V
    · have q : ((tp V P v : Nat) : Int) = v + P := by unfold tp; rw [if_pos c]; omega
      rw [q] at e
      rw [if_pos c, e, Option.bind_some]
      exact fin
    · have q : ((tp V P v : Nat) : Int) = V := by unfold tp; rw [if_neg c]; omega
      rw [q] at e
      rw [if_neg c, e, Option.bind_some]
      exact fin
end Go.Proofs.Ytlakfnejokpfjaa
