/-
  The law of silent stretches, as a Lean function, is true.
-/
import Derived.Test.YtefkmidmjofdcaaZYb
import Derived.Test.YtefkmidmjofdcaaZYd
set_option linter.all false
namespace Go.Proofs.Ytefkmidmjofdcaa
open Go Go.RowKit

theorem y_ranges (fu : Nat) (o : List (Int × Int)) (ho : o.length < fu) (ho' : o.length < 4611686018427387904) : b_Ranges fu o o = some true := by
  have key : ∀ n i, i ≤ o.length → o.length - i < n → b_Ranges_L1 fu o o n ((i : Nat) : Int) = some (.inr ()) := by
    intro n
    induction n with
    | zero => intro i _ h; omega
    | succ n ih =>
      intro i hi h
      rcases Nat.lt_or_ge i o.length with h1 | h1
      · obtain ⟨a1, a2, a3⟩ := idx (List.getElem?_eq_getElem h1)
        rw [b_Ranges_L1, if_pos a1, if_pos a2, a3, Option.bind_some, if_pos a1, Option.bind_some, if_pos rfl, if_pos rfl, wrapS (by omega)]
        exact ih (i + 1) (by omega) (by omega)
      · have : i = o.length := by omega
        subst this
        rw [b_Ranges_L1, if_neg (by omega)]
  unfold b_Ranges
  have := key fu 0 (by omega) (by omega)
  rw [show ((0 : Nat) : Int) = 0 from rfl] at this
  rw [if_pos rfl, this]; rfl
theorem y_law1 (fu : Nat) (p0 : List Int) (p1 p2 p3 p4 hi : Int) (o : List (Int × Int)) (ho : o.length < 1000) (hf : Far o) (hb : ∀ a ∈ o, 0 ≤ a.1 ∧ a.1 ≤ a.2 ∧ a.2 ≤ hi) (hh : hi ≤ 1000000000000) : ∀ n i, i ≤ o.length → o.length - i < n → l7_BusSilence_L1 fu p0 p1 p2 p3 p4 o n ((i : Nat) : Int) = some (.inr o)
  | 0, i, _, h => by omega
  | n + 1, i, hi0, h => by
    rcases Nat.lt_or_ge i o.length with h1 | h1
    · obtain ⟨a1, a2, a3⟩ := idx (List.getElem?_eq_getElem h1)
      have hr := hb o[i] (List.getElem_mem h1)
      have ih := y_law1 fu p0 p1 p2 p3 p4 hi o ho hf hb hh n (i + 1) (by omega) (by omega)
      rw [l7_BusSilence_L1, if_pos a1, if_pos a2, a3, Option.bind_some, if_neg (by omega), wrapS (by omega), ih]
      by_cases h0 : i = 0
      · rw [if_neg (by omega)]
      · have h2 : i - 1 < o.length := by omega
        obtain ⟨c1, c2, c3⟩ := idx (List.getElem?_eq_getElem h2)
        have hw : IntKind.wrap .i64 ((i : Int) - 1) = ((i - 1 : Nat) : Int) := by
          rw [IntKind.wrap_i64]; omega
        have hq := hb o[i - 1] (List.getElem_mem h2)
        have hp := List.pairwise_iff_getElem.1 hf (i - 1) i h2 h1 (by omega)
        rw [if_pos (by omega), hw, if_pos c2, if_pos c1, c3, Option.bind_some, wrapB (by omega) (by omega), if_neg (by omega)]
    · have : i = o.length := by omega
      subst this
      rw [l7_BusSilence_L1, if_neg (by omega)]
def inR (x a : Int × Int) : Bool := decide (a.1 ≤ x.1) && decide (x.2 ≤ a.2)
theorem y_law2 (fu : Nat) (p0 : List Int) (o q : List (Int × Int)) (ho : o.length < 1000) (j : Nat) (x : Int × Int) (hx : q[j]? = some x) : ∀ n b i, i ≤ o.length → o.length - i < n → l7_BusSilence_L2 fu p0 o q ((j : Nat) : Int) n b ((i : Nat) : Int) = some (o, q, b || (o.drop i).any (inR x))
  | 0, b, i, _, h => by omega
  | n + 1, b, i, hi0, h => by
    rcases Nat.lt_or_ge i o.length with h1 | h1
    · obtain ⟨a1, a2, a3⟩ := idx (List.getElem?_eq_getElem h1)
      obtain ⟨c1, c2, c3⟩ := idx hx
      have ih := fun b => y_law2 fu p0 o q ho j x hx n b (i + 1) (by omega) (by omega)
      rw [l7_BusSilence_L2, if_pos a1, wrapS (by omega), ih, ih]
      cases b with
      | true => simp
      | false =>
        rw [if_neg (by simp), if_pos a2, a3, Option.bind_some, if_pos c2, if_pos c1, c3, Option.bind_some, List.drop_eq_getElem_cons h1, List.any_cons]
        generalize o[i] = a
        unfold inR
        by_cases d1 : a.1 ≤ x.1
        · by_cases d2 : x.2 ≤ a.2
          · simp [d1, d2]
          · simp [d1, d2]
        · simp [d1]
    · have : i = o.length := by omega
      subst this
      rw [l7_BusSilence_L2, if_neg (by omega), List.drop_of_length_le (Nat.le_refl _)]
      simp
theorem y_law3 (fu : Nat) (p0 : List Int) (o q : List (Int × Int)) (ho : o.length < 1000) (hf : 1000 ≤ fu) (hq : q.length < 1000) (hc : Covers o q) : ∀ n j, j ≤ q.length → q.length - j < n → l7_BusSilence_L3 fu p0 o q n ((j : Nat) : Int) = some (.inr ())
  | 0, j, _, h => by omega
  | n + 1, j, hj, h => by
    rcases Nat.lt_or_ge j q.length with h1 | h1
    · have hx : q[j]? = some q[j] := List.getElem?_eq_getElem h1
      obtain ⟨a1, a2, a3⟩ := idx hx
      have e := y_law2 fu p0 o q ho j _ hx fu false 0 (by omega) (by omega)
      rw [show ((0 : Nat) : Int) = 0 from rfl, List.drop_zero] at e
      obtain ⟨a, ha, b1, b2⟩ := hc q[j] (List.getElem_mem h1)
      have hany : o.any (inR q[j]) = true := List.any_eq_true.2 ⟨a, ha, by unfold inR; simp [b1, b2]⟩
      rw [l7_BusSilence_L3, if_pos a1, e, Option.bind_some, hany]
      simp only [Bool.or_true, if_true]
      rw [wrapS (by omega)]
      exact y_law3 fu p0 o q ho hf hq hc n (j + 1) (by omega) (by omega)
    · have : j = q.length := by omega
      subst this
      rw [l7_BusSilence_L3, if_neg (by omega)]
theorem l7_BusSilence_true (l : List Int) (lo hi t x : Int) : ∃ fu, l7_BusSilence fu l lo hi t x = some true := by
  refine ⟨2000, ?_⟩
  generalize hfu : 2000 = fu
  have hf : 1500 ≤ fu := by omega
  clear hfu
  unfold l7_BusSilence l7_awake
  rw [Option.bind_some, if_pos rfl]
  by_cases h62 : (62 : Int) < (l.length : Int)
  · rw [if_pos h62]
  · rw [if_neg h62]
    have hl : l.length ≤ 62 := by omega
    have cl : b_CopyInts l = some l := by unfold b_CopyInts; rw [if_pos (by omega)]
    rw [cl, Option.bind_some, y_silent fu (by omega) l hl, Option.bind_some, y_ref fu (by omega) l hl, Option.bind_some]
    by_cases h0 : errS l lo hi t = 0
    · obtain ⟨e1, e2, e3, e4, e5, e6, e7⟩ := errS_ok h0
      have flen : ∀ t' : Int, (fin hi (gs t' hi l [] lo)).length < 1000 := fun t' => by
        have := gs_len t' hi l [] lo
        simp only [List.length_nil, Nat.zero_add] at this
        unfold fin
        split
        · simp; omega
        · omega
      obtain ⟨g1, g2⟩ := gs_far t hi e6 l [] lo List.Pairwise.nil (fun a ha => by cases ha) (fun a ha => by cases ha) e3
      have L1 := y_law1 fu l lo hi t x hi _ (flen t) g1 g2 e5 fu 0 (by omega) (by have := flen t; omega)
      rw [show ((0 : Nat) : Int) = 0 from rfl] at L1
      rw [if_pos h0, if_pos h0, if_pos rfl]
      simp only [Option.bind_some]
      rw [y_refSilent fu (by omega) l lo hi t h0, Option.bind_some, y_ranges fu (fin hi (gs t hi l [] lo)) (by have := flen t; omega) (by have := flen t; omega), Option.bind_some, if_pos rfl, L1, Option.bind_some]
      simp only
      rw [y_within, Option.bind_some]
      by_cases hx : 0 ≤ x ∧ x ≤ 1000
      · rw [if_pos (by simp [hx]), wrapB (by omega) (by omega)]
        by_cases hT : (1000000000000 : Int) < t + x
        · rw [if_pos hT]
        · have h0' := errS_zero (t' := t + x) h0 ⟨by omega, by omega⟩
          have L3 := y_law3 fu l _ _ (flen t) (by omega) (flen (t + x)) (gs_covers t (t + x) hi (by omega) l [] [] lo lo (fun y hy => by cases hy) (Int.le_refl _)) fu 0 (by omega) (by have := flen (t + x); omega)
          rw [show ((0 : Nat) : Int) = 0 from rfl] at L3
          rw [if_neg hT, y_silent fu (by omega) l hl, Option.bind_some, if_pos h0', if_pos rfl, L3, Option.bind_some]
      · rw [if_neg (by simp [hx])]
    · rw [if_neg h0, if_neg h0, if_pos rfl]
      simp
end Go.Proofs.Ytefkmidmjofdcaa
