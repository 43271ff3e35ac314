/-
  SurveyTrue is true.
-/
import Derived.Test.YtidahkefillmeaaGreatDoorZS9g
import Derived.Test.YtidahkefillmeaaGreatDoorZS9Tr
set_option linter.all false
namespace Go.Proofs.YtidahkefillmeaaGreatDoor
open Go Go.RowKit
theorem st_few (l : List Sta) : l9_few l = some (decide ((l.length : Int) ≤ 22)) := by
  unfold l9_few
  split <;> simp_all
theorem b_mod (a : Int) {n : Int} (h : 0 < n ∧ n ≤ 1000000) : ∃ r, b_Mod a n = some r ∧ 0 ≤ r ∧ r < n := by
  unfold b_Mod
  rw [if_neg (by omega)]
  have h1 := Int.tmod_lt_of_pos a h.1
  have h2 : -n < Int.tmod a n := by
    have := Int.lt_tmod_of_pos a h.1
    omega
  by_cases c : Int.tmod a n < 0
  · rw [if_pos c, wrapB (by omega) (by omega)]; exact ⟨_, rfl, by omega, by omega⟩
  · rw [if_neg c]; exact ⟨_, rfl, by omega, by omega⟩
theorem tb_ok {fu : Nat} (hf : 1000 ≤ fu) {l : List Sta} (hl : l.length < 500) (h : (ckS l).2 = 0) {i : Nat} {e : Sta} (he : l[i]? = some e) : sv_BurialAt fu l (i : Int) = some ((buS e).1, (buS e).2, 0) := by
  obtain ⟨g1, g2, g3⟩ := idx he
  unfold sv_BurialAt
  rw [p_stations hf l hl, Option.bind_some, x_index, Option.bind_some, x_first fu _ (by simp; omega) (by simp), Option.bind_some]
  simp only [firstE, h, if_true, g1, g2, and_self]
  rw [g3, Option.bind_some, p_burial ((ckS_ok h).2 e (List.mem_of_getElem? he))]; rfl
theorem tg_ok {fu : Nat} (hf : 1000 ≤ fu) {l : List Sta} (hl : l.length < 500) (h : (ckS l).2 = 0) {p : Int} (hp : 1 ≤ p ∧ p ≤ 1000) {i : Nat} {e : Sta} (he : l[i]? = some e) : sv_GapAt fu l p (i : Int) = some ((gaS p e).1, (gaS p e).2, 0) := by
  obtain ⟨g1, g2, g3⟩ := idx he
  unfold sv_GapAt sv_pipeError
  rw [p_stations hf l hl, Option.bind_some, x_limit, Option.bind_some, x_first fu _ (by simp; omega) (by simp), Option.bind_some, Option.bind_some, x_index, Option.bind_some, x_first fu _ (by simp; omega) (by simp), Option.bind_some]
  simp only [firstE, h, if_true, limE_zero.2 hp, g1, g2, and_self]
  rw [g3, Option.bind_some, p_gap ((ckS_ok h).2 e (List.mem_of_getElem? he)) (by omega)]; rfl
theorem in_run {fu : Nat} (A : List Ran) (hA : A.length < 1000000) (j : Int) : ∀ (n i : Nat), i ≤ A.length → A.length - i < n → (mem j (A.drop i) ∧ l9_in_L1 fu A j n (i : Int) = some (.inl ())) ∨ (¬ mem j (A.drop i) ∧ l9_in_L1 fu A j n (i : Int) = some (.inr ()))
  | 0, i, _, h => by omega
  | n + 1, i, hi, h => by
    rcases Nat.lt_or_ge i A.length with h1 | h1
    · have he : A[i]? = some A[i] := List.getElem?_eq_getElem h1
      obtain ⟨g1, g2, g3⟩ := idx he
      have hm : mem j (A.drop i) ↔ (A[i].1 ≤ j ∧ j ≤ A[i].2) ∨ mem j (A.drop (i + 1)) := by
        rw [List.drop_eq_getElem_cons h1, ← List.singleton_append, mem_app, mem_one]
      rw [l9_in_L1, if_pos g1, if_pos g2, g3, Option.bind_some, x_within, Option.bind_some, wrapS (by omega), hm]
      by_cases c : A[i].1 ≤ j ∧ j ≤ A[i].2
      · rw [decide_eq_true c, if_pos rfl]; exact .inl ⟨.inl c, rfl⟩
      · rw [decide_eq_false c, if_neg Bool.false_ne_true]
        rcases in_run (fu := fu) A hA j n (i + 1) (by omega) (by omega) with ⟨a, b⟩ | ⟨a, b⟩
        · exact .inl ⟨.inr a, b⟩
        · exact .inr ⟨fun h => h.elim c a, b⟩
    · have : i = A.length := by omega
      subst this
      rw [l9_in_L1, if_neg (by omega), List.drop_of_length_le (Nat.le_refl _)]
      exact .inr ⟨mem_nil, rfl⟩
theorem in_eq {fu : Nat} {A : List Ran} (hf : A.length < fu) (hA : A.length < 1000000) (j : Int) {b : Bool} (hb : mem j A ↔ b = true) : l9_in fu A j = some b := by
  unfold l9_in
  rcases in_run (fu := fu) A hA j fu 0 (by omega) (by omega) with ⟨h1, h2⟩ | ⟨h1, h2⟩
  · rw [List.drop_zero] at h1
    rw [show ((0 : Nat) : Int) = 0 from rfl] at h2
    rw [h2, hb.1 h1]; rfl
  · rw [List.drop_zero] at h1
    rw [show ((0 : Nat) : Int) = 0 from rfl] at h2
    rw [h2]
    cases b with
    | true => exact absurd (hb.2 rfl) h1
    | false => rfl
theorem spS_mem (b : Bool) (p : Int) (l : List Sta) {i : Nat} (hi : i < l.length) : mem (i : Int) (spS b p l) ↔ gSp b p l (i : Int) = true := by
  have := (stR_good (gSp b p l) l.length 0 [] ⟨List.Pairwise.nil, fun r hr => by cases hr⟩).2 (i : Int)
  unfold spS
  rw [this]
  exact ⟨fun h => (h.resolve_left mem_nil).2.2, fun h => .inr ⟨by omega, by omega, h⟩⟩
theorem tr_run {fu : Nat} (hf : 1000 ≤ fu) {l : List Sta} (hl : l.length < 500) (h : (ckS l).2 = 0) {p : Int} (hp : 2 ≤ p ∧ p ≤ 1000) (x y : Int) : ∀ (n i : Nat), i ≤ l.length → l.length - i < n → l9_SurveyTrue_L1 fu l p x y (spS true p l) (spS false p l) (spS true (p - 1) l) n (i : Int) = some (.inr ())
  | 0, i, _, h => by omega
  | n + 1, i, hi, hn => by
    rcases Nat.lt_or_ge i l.length with h1 | h1
    · have he : l[i]? = some l[i] := List.getElem?_eq_getElem h1
      obtain ⟨g1, g2, g3⟩ := idx he
      have hok := (ckS_ok h).2 _ (List.mem_of_getElem? he)
      obtain ⟨o1, o2, o3, o4, o5, o6, o7⟩ := hok
      have o2 := okH_at o2
      have o3 := okH_at o3
      have o4 := okH_at o4
      have o5 := okH_at o5
      have l1 := spS_len true p l
      have l2 := spS_len false p l
      have l3 := spS_len true (p - 1) l
      have rec' := tr_run hf hl h hp x y n (i + 1) (by omega) (by omega)
      have w1 : IntKind.wrap .i64 (IntKind.wrap .i64 (l[i].2.2.1 - l[i].2.1) + 1) = l[i].2.2.1 - l[i].2.1 + 1 := by
        rw [wrapB (x := l[i].2.2.1 - l[i].2.1) (by omega) (by omega), wrapB (by omega) (by omega)]
      have w2 : IntKind.wrap .i64 (IntKind.wrap .i64 (l[i].2.2.2.2 - l[i].2.2.2.1) + 1) = l[i].2.2.2.2 - l[i].2.2.2.1 + 1 := by
        rw [wrapB (x := l[i].2.2.2.2 - l[i].2.2.2.1) (by omega) (by omega), wrapB (by omega) (by omega)]
      obtain ⟨r, hr, r1, r2⟩ := b_mod (IntKind.wrap .i64 (x + (i : Int))) (n := l[i].2.2.1 - l[i].2.1 + 1) (by omega)
      obtain ⟨s, hs, s1, s2⟩ := b_mod (IntKind.wrap .i64 (y + IntKind.wrap .i64 (3 * (i : Int)))) (n := l[i].2.2.2.2 - l[i].2.2.2.1 + 1) (by omega)
      rw [l9_SurveyTrue_L1, if_pos g1, if_pos g2, g3, Option.bind_some, w1, hr, Option.bind_some, w2, hs, Option.bind_some, copy_eq' hl]
      simp only [Option.bind_some]
      rw [tb_ok hf hl h he, Option.bind_some, tg_ok hf hl h (p := p) (by omega) he, Option.bind_some, if_pos rfl, if_pos rfl, wrapS (by omega)]
      have w3 : IntKind.wrap .i64 (l[i].2.2.2.1 + s) = l[i].2.2.2.1 + s := wrapB (by omega) (by omega)
      have w4 : IntKind.wrap .i64 (l[i].2.1 + r) = l[i].2.1 + r := wrapB (by omega) (by omega)
      have w5 : IntKind.wrap .i64 (l[i].2.1 + r - p) = l[i].2.1 + r - p := wrapB (by omega) (by omega)
      have w6 : IntKind.wrap .i64 (l[i].2.2.2.1 + s - (l[i].2.1 + r)) = l[i].2.2.2.1 + s - (l[i].2.1 + r) := wrapB (by omega) (by omega)
      have w7 : IntKind.wrap .i64 (l[i].2.1 + r - p - (l[i].2.2.2.1 + s)) = l[i].2.1 + r - p - (l[i].2.2.2.1 + s) := wrapB (by omega) (by omega)
      simp only [w3, w4, w5, w6, w7]
      have i1 : l9_in fu (spS true p l) (i : Int) = some (decide (0 < (gaS p l[i]).1)) := in_eq (by omega) (by omega) _ (by rw [spS_mem _ _ _ h1, gSp_at he]; simp)
      have i2 : l9_in fu (spS false p l) (i : Int) = some (decide (0 < (gaS p l[i]).2)) := in_eq (by omega) (by omega) _ (by rw [spS_mem _ _ _ h1, gSp_at he]; simp)
      have i3 : l9_in fu (spS true (p - 1) l) (i : Int) = some (decide (0 < (gaS (p - 1) l[i]).1)) := in_eq (by omega) (by omega) _ (by rw [spS_mem _ _ _ h1, gSp_at he]; simp)
      have b1 : (buS l[i]).1 ≤ l[i].2.2.2.1 + s - (l[i].2.1 + r) ∧ l[i].2.2.2.1 + s - (l[i].2.1 + r) ≤ (buS l[i]).2 := by
        unfold buS; simp only; omega
      have b2 : (gaS p l[i]).1 ≤ l[i].2.1 + r - p - (l[i].2.2.2.1 + s) ∧ l[i].2.1 + r - p - (l[i].2.2.2.1 + s) ≤ (gaS p l[i]).2 := by
        unfold gaS; simp only; omega
      rw [x_within, Option.bind_some, decide_eq_true b1, if_pos rfl, x_within, Option.bind_some, decide_eq_true b2, if_pos rfl, i1, Option.bind_some]
      by_cases c : 0 < (gaS p l[i]).1
      · have c3 : 0 < (gaS (p - 1) l[i]).1 := by unfold gaS at c ⊢; simp only at c ⊢; omega
        rw [decide_eq_true c, if_pos rfl, i2, Option.bind_some, decide_eq_true (by omega), if_pos rfl, i3, Option.bind_some, decide_eq_true c3, if_pos rfl, if_neg (by omega)]
        exact rec'
      · rw [decide_eq_false c, if_neg Bool.false_ne_true]
        by_cases d : 0 < l[i].2.1 + r - p - (l[i].2.2.2.1 + s)
        · rw [if_pos d, i2, Option.bind_some, decide_eq_true (by omega), if_pos rfl]
          exact rec'
        · rw [if_neg d]
          exact rec'
    · have : i = l.length := by omega
      subst this
      rw [l9_SurveyTrue_L1, if_neg (by omega)]
theorem l9_SurveyTrue_true (a0 : List Sta) (a1 a2_0 a2_1 : Int) : ∃ fu, l9_SurveyTrue fu a0 a1 a2_0 a2_1 = some true := by
  refine ⟨1000, ?_⟩
  unfold l9_SurveyTrue l9_awake
  rw [Option.bind_some, if_pos rfl, st_few, Option.bind_some]
  by_cases hn : (a0.length : Int) ≤ 22
  · have hl : a0.length < 500 := by omega
    have hf : 1000 ≤ 1000 := Nat.le_refl _
    rw [decide_eq_true hn, if_pos rfl, r_stations hf a0 hl, Option.bind_some]
    by_cases hc : (ckS a0).2 = 0
    · rw [if_pos hc, x_within, Option.bind_some]
      by_cases hp : 2 ≤ a1 ∧ a1 ≤ 1000
      · rw [decide_eq_true hp, if_pos rfl, copy_eq' hl]
        simp only [Option.bind_some]
        have he : spE a0 a1 = 0 := by unfold spE; rw [if_pos hc, if_pos (by omega)]
        have he' : spE a0 (a1 - 1) = 0 := by unfold spE; rw [if_pos hc, if_pos (by omega)]
        have l1 := spS_len true a1 a0
        have l2 := spS_len false a1 a0
        have l3 := spS_len true (a1 - 1) a0
        rw [wrapB (x := a1 - 1) (by omega) (by omega), p_spans hf hl, p_possible hf hl, p_spans hf hl, if_pos he, if_pos he, if_pos he']
        simp only [Option.bind_some, if_true]
        rw [if_neg (by omega), if_neg (by omega), if_neg (by omega)]
        have := tr_run (fu := 1000) hf hl hc hp a2_0 a2_1 1000 0 (by omega) (by omega)
        rw [show ((0 : Nat) : Int) = 0 from rfl] at this
        rw [this]; rfl
      · rw [decide_eq_false hp]; rfl
    · rw [if_neg hc]
  · rw [decide_eq_false hn]; rfl
end Go.Proofs.YtidahkefillmeaaGreatDoor
