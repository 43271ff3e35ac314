/-
  'SurveyStations', as a Lean function, is true.
-/
import Derived.Test.YtidahkefillmeaaGreatDoorZS9b
import Derived.Test.YtidahkefillmeaaGreatDoorZS9l
set_option linter.all false
namespace Go.Proofs.YtidahkefillmeaaGreatDoor
open Go Go.RowKit
def cnS (d : Int) : List Sta → Int → Int → Int → Int × Int × Int
  | [], a, b, c => (a, b, c)
  | e :: r, a, b, c => if ansS d e = 2 then cnS d r a b (c + 1) else if ansS d e = 1 then cnS d r a (b + 1) c else cnS d r (a + 1) b c
theorem ansS_or (d : Int) (e : Sta) : ansS d e = 2 ∨ ansS d e = 1 ∨ ansS d e = 0 := by
  unfold ansS
  (repeat' split) <;> simp
theorem few_eq (l : List Sta) : l9_few l = some (decide ((l.length : Int) ≤ 22)) := by
  unfold l9_few
  split <;> simp_all
theorem copy_eq {l : List Sta} (h : l.length < 500) : r9_CopyStations l = some l := by
  unfold r9_CopyStations
  rw [if_pos (by omega)]
theorem s_pipe (p : Int) : r9_PipeErr p = some (if 1 ≤ p ∧ p ≤ 1000 then 0 else 2) := by
  unfold r9_PipeErr
  rw [x_within, Option.bind_some]
  by_cases c : 1 ≤ p ∧ p ≤ 1000
  · rw [decide_eq_true c, if_pos rfl, if_pos c]
  · rw [decide_eq_false c, if_neg c]; rfl
theorem cn_prog {fu : Nat} (l : List Sta) (hl : l.length < 500) (hs : ∀ e ∈ l, okSt e) (d : Int) : ∀ (n i : Nat) (a b c : Int), i ≤ l.length → l.length - i < n → (0 ≤ a ∧ a ≤ i) → (0 ≤ b ∧ b ≤ i) → (0 ≤ c ∧ c ≤ i) → sv_BuriedBy_L1 fu l d (l.length : Int) n a b c (i : Int) = some (cnS d (l.drop i) a b c)
  | 0, i, _, _, _, _, h, _, _, _ => by omega
  | n + 1, i, a, b, c, hi, h, ha, hb, hc => by
    rcases Nat.lt_or_ge i l.length with h1 | h1
    · have he : l[i]? = some l[i] := List.getElem?_eq_getElem h1
      obtain ⟨g1, g2, g3⟩ := idx he
      have hok := hs l[i] (List.getElem_mem h1)
      rw [List.drop_eq_getElem_cons h1, cnS, sv_BuriedBy_L1, if_pos g1, if_pos g2, if_pos g1, g3, Option.bind_some, p_burial hok, Option.bind_some, p_atLeast, Option.bind_some, show (if d ≤ (buS l[i]).1 then (2 : Int) else if (buS l[i]).2 < d then 0 else 1) = ansS d l[i] from rfl]
      rcases ansS_or d l[i] with q | q | q
      · simp only [q, if_true]
        rw [wrapS (by omega), wrapB (by omega) (by omega)]
        exact cn_prog l hl hs d n (i + 1) a b (c + 1) (by omega) (by omega) (by omega) (by omega) (by omega)
      · simp only [q, if_true, show ¬ ((1 : Int) = 2) by omega, if_false]
        rw [wrapS (by omega), wrapB (by omega) (by omega)]
        exact cn_prog l hl hs d n (i + 1) a (b + 1) c (by omega) (by omega) (by omega) (by omega) (by omega)
      · simp only [q, if_true, show ¬ ((0 : Int) = 2) by omega, show ¬ ((0 : Int) = 1) by omega, if_false]
        rw [wrapS (by omega), wrapB (by omega) (by omega)]
        exact cn_prog l hl hs d n (i + 1) (a + 1) b c (by omega) (by omega) (by omega) (by omega) (by omega)
    · have : i = l.length := by omega
      subst this
      rw [sv_BuriedBy_L1, if_neg (by omega), List.drop_of_length_le (Nat.le_refl _)]; rfl
theorem cn_law1 {fu : Nat} (l : List Sta) (hl : l.length < 500) (hs : ∀ e ∈ l, okSt e) (d : Int) (p1 p3 p4 p5 p6 p7 p8 p9 p10 : Int) : ∀ (n i : Nat) (a b c : Int), i ≤ l.length → l.length - i < n → (0 ≤ a ∧ a ≤ i) → (0 ≤ b ∧ b ≤ i) → (0 ≤ c ∧ c ≤ i) → l9_SurveyStations_L1 fu l p1 d p3 p4 p5 p6 p7 p8 p9 p10 n a b c (i : Int) = some (cnS d (l.drop i) a b c)
  | 0, i, _, _, _, _, h, _, _, _ => by omega
  | n + 1, i, a, b, c, hi, h, ha, hb, hc => by
    rcases Nat.lt_or_ge i l.length with h1 | h1
    · have he : l[i]? = some l[i] := List.getElem?_eq_getElem h1
      obtain ⟨g1, g2, g3⟩ := idx he
      have hok := hs l[i] (List.getElem_mem h1)
      rw [List.drop_eq_getElem_cons h1, cnS, l9_SurveyStations_L1, if_pos g1, if_pos g2, g3, Option.bind_some, r_buried hok, Option.bind_some]
      rcases ansS_or d l[i] with q | q | q
      · simp only [q, if_true]
        rw [wrapS (by omega), wrapB (by omega) (by omega)]
        exact cn_law1 l hl hs d p1 p3 p4 p5 p6 p7 p8 p9 p10 n (i + 1) a b (c + 1) (by omega) (by omega) (by omega) (by omega) (by omega)
      · simp only [q, if_true, show ¬ ((1 : Int) = 2) by omega, if_false]
        rw [wrapS (by omega), wrapB (by omega) (by omega)]
        exact cn_law1 l hl hs d p1 p3 p4 p5 p6 p7 p8 p9 p10 n (i + 1) a (b + 1) c (by omega) (by omega) (by omega) (by omega) (by omega)
      · simp only [q, if_true, show ¬ ((0 : Int) = 2) by omega, show ¬ ((0 : Int) = 1) by omega, if_false]
        rw [wrapS (by omega), wrapB (by omega) (by omega)]
        exact cn_law1 l hl hs d p1 p3 p4 p5 p6 p7 p8 p9 p10 n (i + 1) (a + 1) b c (by omega) (by omega) (by omega) (by omega) (by omega)
    · have : i = l.length := by omega
      subst this
      rw [l9_SurveyStations_L1, if_neg (by omega), List.drop_of_length_le (Nat.le_refl _)]; rfl
theorem cn_law2 {fu : Nat} (l : List Sta) (hl : l.length < 500) (hs : ∀ e ∈ l, okSt e) (d : Int) (p1 p3 p4 p5 p6 p7 p8 p9 p10 : Int) : ∀ (n i : Nat) (a b c : Int), i ≤ l.length → l.length - i < n → (0 ≤ a ∧ a ≤ i) → (0 ≤ b ∧ b ≤ i) → (0 ≤ c ∧ c ≤ i) → l9_SurveyStations_L2 fu l p1 d p3 p4 p5 p6 p7 p8 p9 p10 n a b c (i : Int) = some (cnS d (l.drop i) a b c)
  | 0, i, _, _, _, _, h, _, _, _ => by omega
  | n + 1, i, a, b, c, hi, h, ha, hb, hc => by
    rcases Nat.lt_or_ge i l.length with h1 | h1
    · have he : l[i]? = some l[i] := List.getElem?_eq_getElem h1
      obtain ⟨g1, g2, g3⟩ := idx he
      have hok := hs l[i] (List.getElem_mem h1)
      rw [List.drop_eq_getElem_cons h1, cnS, l9_SurveyStations_L2, if_pos g1, if_pos g2, g3, Option.bind_some, r_buried hok, Option.bind_some]
      rcases ansS_or d l[i] with q | q | q
      · simp only [q, if_true]
        rw [wrapS (by omega), wrapB (by omega) (by omega)]
        exact cn_law2 l hl hs d p1 p3 p4 p5 p6 p7 p8 p9 p10 n (i + 1) a b (c + 1) (by omega) (by omega) (by omega) (by omega) (by omega)
      · simp only [q, if_true, show ¬ ((1 : Int) = 2) by omega, if_false]
        rw [wrapS (by omega), wrapB (by omega) (by omega)]
        exact cn_law2 l hl hs d p1 p3 p4 p5 p6 p7 p8 p9 p10 n (i + 1) a (b + 1) c (by omega) (by omega) (by omega) (by omega) (by omega)
      · simp only [q, if_true, show ¬ ((0 : Int) = 2) by omega, show ¬ ((0 : Int) = 1) by omega, if_false]
        rw [wrapS (by omega), wrapB (by omega) (by omega)]
        exact cn_law2 l hl hs d p1 p3 p4 p5 p6 p7 p8 p9 p10 n (i + 1) (a + 1) b c (by omega) (by omega) (by omega) (by omega) (by omega)
    · have : i = l.length := by omega
      subst this
      rw [l9_SurveyStations_L2, if_neg (by omega), List.drop_of_length_le (Nat.le_refl _)]; rfl
theorem b_err {fu : Nat} (hf : 1000 ≤ fu) {l : List Sta} (hl : l.length < 500) (h : (ckS l).2 ≠ 0) (i : Int) : sv_BurialAt fu l i = some (0, 0, (ckS l).2) := by
  unfold sv_BurialAt
  rw [p_stations hf l hl, Option.bind_some, x_index, Option.bind_some, x_first fu _ (by simp; omega) (by simp), Option.bind_some]
  simp only [firstE, h, if_false]
theorem b_miss {fu : Nat} (hf : 1000 ≤ fu) {l : List Sta} (hl : l.length < 500) (h : (ckS l).2 = 0) {i : Int} (hi : ¬ (0 ≤ i ∧ i < (l.length : Int))) : sv_BurialAt fu l i = some (0, 0, 6) := by
  unfold sv_BurialAt
  rw [p_stations hf l hl, Option.bind_some, x_index, Option.bind_some, x_first fu _ (by simp; omega) (by simp), Option.bind_some]
  simp only [firstE, h, if_true, hi, if_false]; rfl
theorem b_ok {fu : Nat} (hf : 1000 ≤ fu) {l : List Sta} (hl : l.length < 500) (h : (ckS l).2 = 0) {i : Nat} {e : Sta} (he : l[i]? = some e) : sv_BurialAt fu l (i : Int) = some ((buS e).1, (buS e).2, 0) := by
  obtain ⟨g1, g2, g3⟩ := idx he
  unfold sv_BurialAt
  rw [p_stations hf l hl, Option.bind_some, x_index, Option.bind_some, x_first fu _ (by simp; omega) (by simp), Option.bind_some]
  simp only [firstE, h, if_true, g1, g2, and_self]
  rw [g3, Option.bind_some, p_burial ((ckS_ok h).2 e (List.mem_of_getElem? he))]; rfl
theorem g_err {fu : Nat} (hf : 1000 ≤ fu) {l : List Sta} (hl : l.length < 500) (h : (ckS l).2 ≠ 0) (p i : Int) : sv_GapAt fu l p i = some (0, 0, (ckS l).2) := by
  unfold sv_GapAt sv_pipeError
  rw [p_stations hf l hl, Option.bind_some, x_limit, Option.bind_some, x_first fu _ (by simp; omega) (by simp), Option.bind_some, Option.bind_some, x_index, Option.bind_some, x_first fu _ (by simp; omega) (by simp), Option.bind_some]
  simp only [firstE, h, if_false]
theorem g_pipe {fu : Nat} (hf : 1000 ≤ fu) {l : List Sta} (hl : l.length < 500) (h : (ckS l).2 = 0) {p : Int} (hp : ¬ (1 ≤ p ∧ p ≤ 1000)) (i : Int) : sv_GapAt fu l p i = some (0, 0, 2) := by
  unfold sv_GapAt sv_pipeError
  rw [p_stations hf l hl, Option.bind_some, x_limit, Option.bind_some, x_first fu _ (by simp; omega) (by simp), Option.bind_some, Option.bind_some, x_index, Option.bind_some, x_first fu _ (by simp; omega) (by simp), Option.bind_some]
  simp only [firstE, h, if_true, limE_two hp]; rfl
theorem g_miss {fu : Nat} (hf : 1000 ≤ fu) {l : List Sta} (hl : l.length < 500) (h : (ckS l).2 = 0) {p i : Int} (hp : 1 ≤ p ∧ p ≤ 1000) (hi : ¬ (0 ≤ i ∧ i < (l.length : Int))) : sv_GapAt fu l p i = some (0, 0, 6) := by
  unfold sv_GapAt sv_pipeError
  rw [p_stations hf l hl, Option.bind_some, x_limit, Option.bind_some, x_first fu _ (by simp; omega) (by simp), Option.bind_some, Option.bind_some, x_index, Option.bind_some, x_first fu _ (by simp; omega) (by simp), Option.bind_some]
  simp only [firstE, h, if_true, limE_zero.2 hp, hi, if_false]; rfl
theorem g_ok {fu : Nat} (hf : 1000 ≤ fu) {l : List Sta} (hl : l.length < 500) (h : (ckS l).2 = 0) {p : Int} (hp : 1 ≤ p ∧ p ≤ 1000) {i : Nat} {e : Sta} (he : l[i]? = some e) : sv_GapAt fu l p (i : Int) = some ((gaS p e).1, (gaS p e).2, 0) := by
  obtain ⟨g1, g2, g3⟩ := idx he
  unfold sv_GapAt sv_pipeError
  rw [p_stations hf l hl, Option.bind_some, x_limit, Option.bind_some, x_first fu _ (by simp; omega) (by simp), Option.bind_some, Option.bind_some, x_index, Option.bind_some, x_first fu _ (by simp; omega) (by simp), Option.bind_some]
  simp only [firstE, h, if_true, limE_zero.2 hp, g1, g2, and_self]
  rw [g3, Option.bind_some, p_gap ((ckS_ok h).2 e (List.mem_of_getElem? he)) (by omega)]; rfl
theorem d_err {fu : Nat} (hf : 1000 ≤ fu) {l : List Sta} (hl : l.length < 500) (h : (ckS l).2 ≠ 0) (d : Int) : sv_BuriedBy fu l d = some (0, 0, 0, (ckS l).2) := by
  unfold sv_BuriedBy
  rw [p_stations hf l hl, Option.bind_some, x_size fu _ (by omega) _ (by simp; omega) (by simp), Option.bind_some, x_first fu _ (by simp; omega) (by simp), Option.bind_some]
  simp only [firstE, h, if_false]
theorem d_bad {fu : Nat} (hf : 1000 ≤ fu) {l : List Sta} (hl : l.length < 500) (h : (ckS l).2 = 0) {d : Int} (hd : ¬ (-10000 ≤ d ∧ d ≤ 10000)) : sv_BuriedBy fu l d = some (0, 0, 0, 2) := by
  unfold sv_BuriedBy
  rw [p_stations hf l hl, Option.bind_some, x_size fu _ (by omega) _ (by simp; omega) (by simp), Option.bind_some, x_first fu _ (by simp; omega) (by simp), Option.bind_some]
  simp only [firstE, h, if_true, inE, fstF, hd, if_false]; rfl
theorem d_ok {fu : Nat} (hf : 1000 ≤ fu) {l : List Sta} (hl : l.length < 500) (h : (ckS l).2 = 0) {d : Int} (hd : -10000 ≤ d ∧ d ≤ 10000) : sv_BuriedBy fu l d = some ((cnS d l 0 0 0).1, (cnS d l 0 0 0).2.1, (cnS d l 0 0 0).2.2, 0) := by
  unfold sv_BuriedBy
  rw [p_stations hf l hl, Option.bind_some, x_size fu _ (by omega) _ (by simp; omega) (by simp), Option.bind_some, x_first fu _ (by simp; omega) (by simp), Option.bind_some]
  have := cn_prog (fu := fu) l hl (ckS_ok h).2 d fu 0 0 0 0 (by omega) (by omega) (by omega) (by omega) (by omega)
  rw [show ((0 : Nat) : Int) = 0 from rfl, List.drop_zero] at this
  simp only [firstE, h, if_true, inE, fstF, hd, and_self]
  rw [this]; rfl
theorem l9_SurveyStations_true (a0 : List Sta) (a1_0 a1_1 a1_2 : Int) : ∃ fu, l9_SurveyStations fu a0 a1_0 a1_1 a1_2 = some true := by
  refine ⟨1000, ?_⟩
  unfold l9_SurveyStations l9_awake
  rw [Option.bind_some, if_pos rfl, few_eq, Option.bind_some]
  by_cases hn : (a0.length : Int) ≤ 22
  · have hl : a0.length < 500 := by omega
    have hf : 1000 ≤ 1000 := Nat.le_refl _
    rw [decide_eq_true hn, if_pos rfl, copy_eq hl]
    simp only [Option.bind_some]
    rw [p_check hf a0 hl, r_check hf a0 hl]
    simp only [Option.bind_some, if_true]
    by_cases hc : (ckS a0).2 = 0
    · have hw : IntKind.wrap .i64 ((a0.length : Int) - 1) = (a0.length : Int) - 1 := wrapB (by omega) (by omega)
      have hs := (ckS_ok hc).2
      simp only [hc, if_true, x_within, hw, Option.bind_some, s_pipe]
      have law1 := fun p1 p3 p4 p5 p6 p7 p8 p9 p10 => cn_law1 (fu := 1000) a0 hl hs a1_1 p1 p3 p4 p5 p6 p7 p8 p9 p10 1000 0 0 0 0 (by omega) (by omega) (by omega) (by omega) (by omega)
      have law2 := fun p1 p3 p4 p5 p6 p7 p8 p9 p10 => cn_law2 (fu := 1000) a0 hl hs a1_1 p1 p3 p4 p5 p6 p7 p8 p9 p10 1000 0 0 0 0 (by omega) (by omega) (by omega) (by omega) (by omega)
      rw [show ((0 : Nat) : Int) = 0 from rfl, List.drop_zero] at law1 law2
      by_cases hi : 0 ≤ a1_0 ∧ a1_0 ≤ (a0.length : Int) - 1
      · obtain ⟨i, rfl⟩ : ∃ i : Nat, a1_0 = (i : Int) := ⟨a1_0.toNat, by omega⟩
        have he : a0[i]? = some a0[i] := List.getElem?_eq_getElem (by omega)
        have hm := List.mem_of_getElem? he
        obtain ⟨g1, g2, g3⟩ := idx he
        rw [b_ok hf hl hc he, decide_eq_true hi]
        simp only [if_true, Option.bind_some, g1, g2, g3, r_burial (hs _ hm)]
        by_cases hd : -10000 ≤ a1_1 ∧ a1_1 ≤ 10000
        · rw [d_ok hf hl hc hd]
          by_cases hp : 1 ≤ a1_2 ∧ a1_2 ≤ 1000
          · rw [g_ok hf hl hc hp he]
            simp only [decide_eq_true hd, if_true, Option.bind_some, law1, hp, and_self, r_gap (hs _ hm) (p := a1_2) (by omega)]
          · rw [g_pipe hf hl hc hp]
            simp only [decide_eq_true hd, if_true, Option.bind_some, law1, hp, if_false]; rfl
        · rw [d_bad hf hl hc hd]
          by_cases hp : 1 ≤ a1_2 ∧ a1_2 ≤ 1000
          · rw [g_ok hf hl hc hp he]
            simp only [decide_eq_false hd, Bool.false_eq_true, if_false, if_true, Option.bind_some, hp, and_self, r_gap (hs _ hm) (p := a1_2) (by omega)]
          · rw [g_pipe hf hl hc hp]
            simp only [decide_eq_false hd, Bool.false_eq_true, if_false, if_true, Option.bind_some, hp]; rfl
      · have hi' : ¬ (0 ≤ a1_0 ∧ a1_0 < (a0.length : Int)) := by omega
        rw [b_miss hf hl hc hi']
        simp only [decide_eq_false hi, Bool.false_eq_true, if_false, if_true, Option.bind_some]
        by_cases hd : -10000 ≤ a1_1 ∧ a1_1 ≤ 10000
        · rw [d_ok hf hl hc hd]
          by_cases hp : 1 ≤ a1_2 ∧ a1_2 ≤ 1000
          · rw [g_miss hf hl hc hp hi']
            simp only [decide_eq_true hd, if_true, Option.bind_some, law2, hp, and_self]
          · rw [g_pipe hf hl hc hp]
            simp only [decide_eq_true hd, if_true, Option.bind_some, law2, hp, if_false]; rfl
        · rw [d_bad hf hl hc hd]
          by_cases hp : 1 ≤ a1_2 ∧ a1_2 ≤ 1000
          · rw [g_miss hf hl hc hp hi']
            simp only [decide_eq_false hd, Bool.false_eq_true, if_false, if_true, Option.bind_some, hp, and_self]
          · rw [g_pipe hf hl hc hp]
            simp only [decide_eq_false hd, Bool.false_eq_true, if_false, if_true, Option.bind_some, hp]; rfl
    · rw [b_err hf hl hc, d_err hf hl hc, g_err hf hl hc]
      simp only [Option.bind_some, hc, if_true, if_false]
  · rw [decide_eq_false hn]; rfl
end Go.Proofs.YtidahkefillmeaaGreatDoor
