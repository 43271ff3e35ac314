/-
  'SonarTurns': the lifted law is true.
-/
import Derived.Test.YtaafodbiigdbaaaGreatZQ4b
set_option linter.all false
namespace Go.Proofs.YtaafodbiigdbaaaGreat
open Go Go.RowKit

theorem at_nat {α : Type} {l : List α} {i : Nat} {a : α} (h : l[i]? = some a) : (0 : Int) ≤ (i : Int) ∧ (i : Int) < (l.length : Int) ∧ l[0 + ((i : Int)).toNat]? = some a := by
  have := (List.getElem?_eq_some_iff.1 h).1
  refine ⟨by omega, by omega, ?_⟩
  rw [Int.toNat_natCast, Nat.zero_add]; exact h
theorem p_win {l : List Dv} {i : Nat} {a : Dv} (h : l[i]? = some a) (ha : okD a) : s_devices_window l (i : Int) = some (a.2.1 + a.2.2) := by
  obtain ⟨h1, h2, h3⟩ := at_nat h
  obtain ⟨_, a1, a2⟩ := ha
  unfold s_devices_window
  rw [if_pos h1, if_pos h2, h3, Option.bind_some, wrapB (by omega) (by omega)]
theorem p_dist {l : List Dv} {i k : Nat} {a b : Dv} (h : l[i]? = some a) (g : l[k]? = some b) (ha : okD a) (hb : okD b) : s_devices_disturb l (i : Int) (k : Int) = some (dst a b) := by
  obtain ⟨h1, h2, h3⟩ := at_nat h
  obtain ⟨g1, g2, g3⟩ := at_nat g
  obtain ⟨a1, _, _⟩ := ha
  obtain ⟨b1, _, _⟩ := hb
  unfold s_devices_disturb u_Within dst
  rw [if_pos h1, if_pos h2, h3, Option.bind_some, if_pos g1, if_pos g2, g3, Option.bind_some, wrapB (x := a.1 - b.1) (by omega) (by omega), wrapB (x := 0 - 1) (by omega) (by omega)]
  by_cases c1 : a.1 - b.1 ≤ 1 <;> by_cases c2 : b.1 - a.1 ≤ 1
  · rw [if_pos (show (0 : Int) - 1 ≤ a.1 - b.1 by omega), if_pos c1, Option.bind_some, if_pos rfl, decide_eq_true ⟨c1, c2⟩]
  · rw [if_neg (show ¬ (0 : Int) - 1 ≤ a.1 - b.1 by omega), Option.bind_some, if_neg (by simp), decide_eq_false (by omega)]
  · rw [if_pos (show (0 : Int) - 1 ≤ a.1 - b.1 by omega), if_neg c1, Option.bind_some, if_neg (by simp), decide_eq_false (by omega)]
  · omega
theorem p_open {l : List Dv} {st : List Int} {i : Nat} {a : Dv} {s t C : Int} (h : l[i]? = some a) (g : st[i]? = some s) (ha : okD a) (hs : 0 ≤ s ∧ s < C) (ht : 0 ≤ t ∧ t < C) (hC : C ≤ 40) : s_devices_isOpen l (i : Int) C st t = some (decide ((t - s) % C < a.2.1 + a.2.2)) := by
  obtain ⟨g1, g2, g3⟩ := at_nat g
  unfold s_devices_isOpen
  rw [if_pos g1, if_pos g2, g3, Option.bind_some, if_neg (by omega), p_win h ha, Option.bind_some, wrapB (x := t - s) (by omega) (by omega), wrapB (x := t - s + C) (by omega) (by omega), Int.tmod_eq_emod_of_nonneg (by omega), Int.add_emod_right]
  by_cases c : (t - s) % C < a.2.1 + a.2.2
  · rw [if_pos c, decide_eq_true c]
  · rw [if_neg c, decide_eq_false c]
def blB (l : List Dv) (st : List Int) (C : Int) (i k : Nat) : Bool :=
  match l[i]?, l[k]?, st[i]?, st[k]? with
  | some a, some b, some s, some t => if i = k then decide (C < a.2.1 + a.2.2) else bli a b s t C
  | _, _, _, _ => false
structure Val2 (l : List Dv) (st : List Int) (C : Int) : Prop where
  dev : ∀ e ∈ l, okD e
  cyc : 1 ≤ C ∧ C ≤ 40
  len : st.length = l.length
  st : ∀ x ∈ st, 0 ≤ x ∧ x < C
theorem Val2.at {l : List Dv} {st : List Int} {C : Int} (v : Val2 l st C) {i : Nat} (h : i < l.length) : ∃ a s, l[i]? = some a ∧ st[i]? = some s ∧ okD a ∧ 0 ≤ s ∧ s < C := by
  have h2 : i < st.length := by rw [v.len]; exact h
  exact ⟨l[i], st[i], List.getElem?_eq_getElem h, List.getElem?_eq_getElem h2, v.dev _ (List.getElem_mem h), v.st _ (List.getElem_mem h2)⟩
theorem p_blind {l : List Dv} {st : List Int} {C : Int} (v : Val2 l st C) {i k : Nat} (hi : i < l.length) (hk : k < l.length) : s_devices_blind l (i : Int) (k : Int) C st = some (blB l st C i k) := by
  obtain ⟨a, s, e1, e2, e3, e4⟩ := v.at hi
  obtain ⟨b, t, f1, f2, f3, f4⟩ := v.at hk
  obtain ⟨g1, g2, g3⟩ := at_nat e2
  obtain ⟨k1, k2, k3⟩ := at_nat f2
  unfold s_devices_blind blB
  simp only [e1, e2, f1, f2]
  by_cases c : i = k
  · subst c
    rw [if_pos rfl, p_win e1 e3, Option.bind_some, if_pos rfl]
    by_cases d : C < a.2.1 + a.2.2
    · rw [if_pos d, decide_eq_true d]
    · rw [if_neg d, decide_eq_false d]
  · rw [if_neg (by omega), p_dist e1 f1 e3 f3, Option.bind_some, if_neg c]
    unfold bli
    cases dst a b with
    | false => rfl
    | true =>
      rw [if_pos rfl, if_pos k1, if_pos k2, k3, Option.bind_some, p_open e1 e2 e3 e4 f4 v.cyc.2, Option.bind_some]
      cases decide ((t - s) % C < a.2.1 + a.2.2) with
      | true => rfl
      | false =>
        rw [if_neg (by simp), if_pos g1, if_pos g2, g3, Option.bind_some, p_open f1 f2 f3 f4 e4 v.cyc.2, Option.bind_some]
        cases decide ((s - t) % C < b.2.1 + b.2.2) <;> rfl
/-- The first partner from k on. -/
def innL (l : List Dv) (st : List Int) (C : Int) (i : Nat) : Nat → Nat → Option Nat
  | 0, _ => none
  | m + 1, k => if blB l st C i k then some k else innL l st C i m (k + 1)
theorem innL_s (l : List Dv) (st : List Int) (C : Int) (i m k : Nat) : innL l st C i (m + 1) k = if blB l st C i k then some k else innL l st C i m (k + 1) := rfl
def outL (l : List Dv) (st : List Int) (C : Int) : Nat → Nat → Option (Nat × Nat)
  | 0, _ => none
  | m + 1, i => match innL l st C i (m + 1) i with
    | some k => some (i, k)
    | none => outL l st C m (i + 1)
theorem outL_s (l : List Dv) (st : List Int) (C : Int) (m i : Nat) : outL l st C (m + 1) i = match innL l st C i (m + 1) i with | some k => some (i, k) | none => outL l st C m (i + 1) := rfl
theorem p_L1 (fu : Nat) {l : List Dv} {st : List Int} {C : Int} (v : Val2 l st C) (hl : l.length ≤ 5) {i : Nat} (hi : i < l.length) (p5 : Int) : ∀ (m n k : Nat), k + m = l.length → m < n → s_BlindIn_L1 fu l st C (i : Int) p5 n (k : Int) = some (match innL l st C i m k with | some x => .inl (x : Int) | none => .inr ())
  | _, 0, _, _, h => by omega
  | 0, n + 1, k, hk, _ => by
    rw [s_BlindIn_L1, if_neg (by omega)]; rfl
  | m + 1, n + 1, k, hk, hn => by
    rw [s_BlindIn_L1, if_pos (by omega), p_blind v hi (by omega), Option.bind_some, wrapS (by omega), p_L1 fu v hl hi p5 m n (k + 1) (by omega) (by omega)]
    rw [innL_s]
    cases blB l st C i k <;> rfl
theorem r_L1 {fu : Nat} (hf : 1000 ≤ fu) {l : List Dv} {st : List Int} {C : Int} (v : Val2 l st C) (hl : l.length ≤ 5) {i : Nat} (hi : i < l.length) : ∀ (m n k : Nat), k + m = l.length → i ≤ k → m < n → r4_Pair_L1 fu l st C (i : Int) n (k : Int) = some (match innL l st C i m k with | some x => .inl (x : Int) | none => .inr ())
  | _, 0, _, _, _, h => by omega
  | 0, n + 1, k, hk, _, _ => by
    rw [r4_Pair_L1, if_neg (by omega)]; rfl
  | m + 1, n + 1, k, hk, hik, hn => by
    have ih := r_L1 hf v hl hi m n (k + 1) (by omega) (by omega) (by omega)
    obtain ⟨a, s, e1, e2, e3, e4⟩ := v.at hi
    obtain ⟨b, t, f1, f2, f3, f4⟩ := v.at (show k < l.length by omega)
    obtain ⟨g1, g2, g3⟩ := at_nat e1
    obtain ⟨g4, g5, g6⟩ := at_nat e2
    obtain ⟨k1, k2, k3⟩ := at_nat f1
    obtain ⟨k4, k5, k6⟩ := at_nat f2
    rw [r4_Pair_L1, if_pos (by omega), wrapS (by omega), ih]
    have hb : blB l st C i k = if i = k then decide (C < a.2.1 + a.2.2) else bli a b s t C := by
      unfold blB
      simp only [e1, e2, f1, f2]
    rw [innL_s, hb]
    by_cases c : i = k
    · subst c
      obtain ⟨_, a1, a2⟩ := e3
      rw [if_pos rfl, if_pos g1, if_pos g2, g3, Option.bind_some, if_pos rfl]
      unfold r4_Itself r4_Window
      rw [Option.bind_some, wrapB (by omega) (by omega)]
      by_cases d : C < a.2.1 + a.2.2
      · rw [if_pos d, decide_eq_true d]; rfl
      · rw [if_neg d, decide_eq_false d]; rfl
    · rw [if_neg (by omega), if_pos (by omega), if_pos g1, if_pos g2, g3, Option.bind_some, if_pos k1, k3, Option.bind_some, if_pos g5, g6, Option.bind_some, if_pos k5, k6, Option.bind_some, q_rbl hf e3 f3 e4 f4 v.cyc.2, Option.bind_some, if_neg c]
      cases bli a b s t C <;> rfl
theorem p_L2 (fu : Nat) (hf : 1000 ≤ fu) {l : List Dv} {st : List Int} {C : Int} (v : Val2 l st C) (hl : l.length ≤ 5) : ∀ (m n i : Nat), i + m = l.length → m < n → s_BlindIn_L2 fu l st C (l.length : Int) n (i : Int) = some (match outL l st C m i with | some x => .inl ((x.1 : Int), (x.2 : Int)) | none => .inr ())
  | _, 0, _, _, h => by omega
  | 0, n + 1, i, hk, _ => by
    rw [s_BlindIn_L2, if_neg (by omega)]; rfl
  | m + 1, n + 1, i, hk, hn => by
    rw [s_BlindIn_L2, if_pos (by omega), p_L1 fu v hl (by omega) _ (m + 1) fu i (by omega) (by omega), Option.bind_some, wrapS (by omega), p_L2 fu hf v hl m n (i + 1) (by omega) (by omega)]
    rw [outL_s]
    cases innL l st C i (m + 1) i <;> rfl
theorem r_L2 (fu : Nat) (hf : 1000 ≤ fu) {l : List Dv} {st : List Int} {C : Int} (v : Val2 l st C) (hl : l.length ≤ 5) : ∀ (m n i : Nat), i + m = l.length → m < n → r4_Pair_L2 fu l st C n (i : Int) = some (match outL l st C m i with | some x => .inl ((x.1 : Int), (x.2 : Int)) | none => .inr ())
  | _, 0, _, _, h => by omega
  | 0, n + 1, i, hk, _ => by
    rw [r4_Pair_L2, if_neg (by omega)]; rfl
  | m + 1, n + 1, i, hk, hn => by
    rw [r4_Pair_L2, if_pos (by omega), r_L1 hf v hl (by omega) (m + 1) fu i (by omega) (by omega) (by omega), Option.bind_some, wrapS (by omega), r_L2 fu hf v hl m n (i + 1) (by omega) (by omega)]
    rw [outL_s]
    cases innL l st C i (m + 1) i <;> rfl
theorem val2 {l : List Dv} {st : List Int} {C : Int} (h : (devV l).2 = 0) (h' : turE l C st = 0) : Val2 l st C := by
  obtain ⟨d1, d2, d3⟩ := devV_ok h
  unfold turE at h'
  by_cases c1 : 1 ≤ C ∧ C ≤ 40
  · rw [if_pos c1] at h'
    by_cases c2 : (st.length : Int) = (l.length : Int)
    · rw [if_pos c2] at h'
      cases c3 : allS C st with
      | true =>
        refine ⟨d3, c1, by omega, fun x hx => ?_⟩
        have := List.all_eq_true.1 c3 x hx
        simp at this; omega
      | false => rw [c3] at h'; simp at h'
    · rw [if_neg c2] at h'; omega
  · rw [if_neg c1] at h'; omega
theorem l4_SonarTurns_true (l : List (Int × Int × Int)) (C : Int) (st : List Int) : ∃ fu, l4_SonarTurns fu l C st = some true := by
  refine ⟨1000, ?_⟩
  unfold l4_SonarTurns l4_awake l4_few
  simp only [Option.bind_some, if_true]
  by_cases h1 : (l.length : Int) ≤ 7
  · rw [if_pos h1, Option.bind_some, if_pos rfl]
    by_cases h2 : (7 : Int) < (st.length : Int)
    · rw [if_pos h2]
    · rw [if_neg h2]
      unfold r4_CopyDevices r4_CopyTurns b_CopyInts
      rw [if_pos (by omega), if_pos (by omega)]
      simp only [Option.bind_some]
      rw [q_chk (by omega) l (by omega), q_ref (by omega) l (by omega)]
      simp only [Option.bind_some, if_true]
      unfold s_BlindIn
      rw [q_turns (by omega) l (by omega) C st (by omega), Option.bind_some]
      by_cases h3 : (devV l).2 = 0
      · rw [if_pos h3, q_rturns (by omega) l C st (by omega)]
        simp only [Option.bind_some, if_pos h3]
        by_cases h4 : turE l C st = 0
        · have v := val2 h3 h4
          have hl := (devV_ok h3).2.1
          have e1 := p_L2 1000 (by omega) v hl l.length 1000 0 (by omega) (by omega)
          have e2 := r_L2 1000 (by omega) v hl l.length 1000 0 (by omega) (by omega)
          rw [show ((0 : Nat) : Int) = 0 from rfl] at e1 e2
          unfold r4_Pair
          simp only [if_pos h4]
          rw [e1, e2]
          cases outL l st C l.length 0 with
          | none => simp
          | some x => simp
        · simp only [if_neg h4, if_true, Option.bind_some]
      · simp only [if_neg h3, Option.bind_some, if_true]
  · rw [if_neg h1, Option.bind_some, if_neg (by simp)]
end Go.Proofs.YtaafodbiigdbaaaGreat
