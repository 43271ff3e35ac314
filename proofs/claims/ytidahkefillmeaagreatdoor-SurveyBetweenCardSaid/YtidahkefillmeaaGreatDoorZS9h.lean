/-
  The bed at a position: the program and the reference say the same.
-/
import Derived.Test.YtidahkefillmeaaGreatDoorZS9g
set_option linter.all false
namespace Go.Proofs.YtidahkefillmeaaGreatDoor
open Go Go.RowKit
theorem chS_sorted : ∀ {l : List Sta} {b : Bool} {x i : Int}, (chS b x l i).2 = 0 → l.Pairwise (fun a c => a.1 < c.1)
  | [], _, _, _, _ => List.Pairwise.nil
  | a :: r, b, x, i, h => by
    unfold chS at h
    by_cases c : seE b x a = 0
    · rw [if_pos c] at h
      refine List.pairwise_cons.2 ⟨fun e he => ?_, chS_sorted h⟩
      rcases (chS_ok h e he).2 with h2 | h2
      · cases h2
      · exact h2
    · rw [if_neg c] at h; exact absurd h c
theorem ckS_sorted {l : List Sta} (h : (ckS l).2 = 0) : l.Pairwise (fun a c => a.1 < c.1) := by
  unfold ckS at h
  split at h
  · cases h
  · exact chS_sorted h
theorem p_index {fu : Nat} (l : List Sta) (hl : l.length < 1000000) (x : Int) : ∀ (n i : Nat), i ≤ l.length → l.length - i < n →
    (∃ (k : Nat) (e : Sta), i ≤ k ∧ l[k]? = some e ∧ x ≤ e.1 ∧ (∀ (j : Nat) (q : Sta), i ≤ j → j < k → l[j]? = some q → q.1 < x) ∧ slices_IndexFunc_SurveyStation_SurveyStation_BedAt_1_L1 fu l x (l.length : Int) n (i : Int) = some (.inl (k : Int))) ∨
    ((∀ (j : Nat) (q : Sta), i ≤ j → l[j]? = some q → q.1 < x) ∧ slices_IndexFunc_SurveyStation_SurveyStation_BedAt_1_L1 fu l x (l.length : Int) n (i : Int) = some (.inr ()))
  | 0, i, _, h => by omega
  | n + 1, i, hi, h => by
    rcases Nat.lt_or_ge i l.length with h1 | h1
    · have he : l[i]? = some l[i] := List.getElem?_eq_getElem h1
      obtain ⟨g1, g2, g3⟩ := idx he
      have hs : slices_IndexFunc_SurveyStation_SurveyStation_BedAt_1_L1 fu l x (l.length : Int) (n + 1) (i : Int) = if x ≤ l[i].1 then some (.inl (i : Int)) else slices_IndexFunc_SurveyStation_SurveyStation_BedAt_1_L1 fu l x (l.length : Int) n ((i + 1 : Nat) : Int) := by
        rw [slices_IndexFunc_SurveyStation_SurveyStation_BedAt_1_L1, if_pos g1, if_pos g2, if_pos g1, g3, Option.bind_some, wrapS (by omega)]
        unfold sv_BedAt_1
        by_cases c : x ≤ l[i].1
        · simp [c]
        · simp [c]
      rw [hs]
      by_cases c : x ≤ l[i].1
      · rw [if_pos c]
        exact .inl ⟨i, l[i], Nat.le_refl _, he, c, fun j q a b => by omega, rfl⟩
      · rw [if_neg c]
        have here : ∀ (j : Nat) (q : Sta), j = i → l[j]? = some q → q.1 < x := by
          rintro j q rfl hq
          rw [he] at hq
          obtain rfl := Option.some.inj hq
          omega
        rcases p_index (fu := fu) l hl x n (i + 1) (by omega) (by omega) with ⟨k, e, k1, k2, k3, k4, k5⟩ | ⟨k1, k2⟩
        · refine .inl ⟨k, e, by omega, k2, k3, fun j q a b hq => ?_, k5⟩
          by_cases d : j = i
          · exact here j q d hq
          · exact k4 j q (by omega) b hq
        · refine .inr ⟨fun j q a hq => ?_, k2⟩
          by_cases d : j = i
          · exact here j q d hq
          · exact k1 j q (by omega) hq
    · have : i = l.length := by omega
      subst this
      rw [slices_IndexFunc_SurveyStation_SurveyStation_BedAt_1_L1, if_neg (by omega)]
      refine .inr ⟨fun j q a hq => ?_, rfl⟩
      have := (List.getElem?_eq_some_iff.1 hq).1
      omega
theorem floor_eq : u_Floor = b_Floor := by
  funext a b; unfold u_Floor b_Floor; rfl
theorem ceil_eq : u_Ceiling = b_Ceil := by
  funext a b; unfold u_Ceiling b_Ceil; rw [floor_eq]
def bwS (q e : Sta) (x : Int) : Option (Int × Int) := Option.bind (b_Floor (IntKind.wrap .i64 ((IntKind.wrap .i64 (q.2.2.2.1 * (e.1 - x))) + (IntKind.wrap .i64 (e.2.2.2.1 * (x - q.1))))) (e.1 - q.1)) fun r1 => Option.bind (b_Ceil (IntKind.wrap .i64 ((IntKind.wrap .i64 (q.2.2.2.2 * (e.1 - x))) + (IntKind.wrap .i64 (e.2.2.2.2 * (x - q.1))))) (e.1 - q.1)) fun r2 => some (r1, r2)
theorem p_between {q e : Sta} (hq : okSt q) (he : okSt e) {x : Int} (h1 : q.1 < x) (h2 : x < e.1) : sv_bedBetween q.1 q.2.1 q.2.2.1 q.2.2.2.1 q.2.2.2.2 e.1 e.2.1 e.2.2.1 e.2.2.2.1 e.2.2.2.2 x = bwS q e x := by
  have hq : 0 ≤ q.1 ∧ q.1 ≤ 100000 := hq.1
  have he : 0 ≤ e.1 ∧ e.1 ≤ 100000 := he.1
  unfold sv_bedBetween bwS
  rw [wrapB (x := e.1 - x) (by omega) (by omega), wrapB (x := x - q.1) (by omega) (by omega), wrapB (x := e.1 - q.1) (by omega) (by omega), floor_eq, ceil_eq]
end Go.Proofs.YtidahkefillmeaaGreatDoor
