/-
  SurveyShifts is true.
-/
import Derived.Test.YtidahkefillmeaaGreatDoorZS9v
import Derived.Test.YtidahkefillmeaaGreatDoorZS9Sh
set_option linter.all false
namespace Go.Proofs.YtidahkefillmeaaGreatDoor
open Go Go.RowKit
theorem b_mod2 (a : Int) {n : Int} (h : 0 < n ∧ n ≤ 1000000) : ∃ r, b_Mod a n = some r ∧ 0 ≤ r ∧ r < n := by
  unfold b_Mod
  rw [if_neg (by omega)]
  have h1 := Int.tmod_lt_of_pos a h.1
  have h2 : -n < Int.tmod a n := by
    have := Int.lt_tmod_of_pos a h.1
    omega
  by_cases c : Int.tmod a n < 0
  · rw [if_pos c, wrapB (by omega) (by omega)]; exact ⟨_, rfl, by omega, by omega⟩
  · rw [if_neg c]; exact ⟨_, rfl, by omega, by omega⟩
theorem copy_sh {l : List Pai} (h : l.length < 500) : r9_CopyShifts l = some l := by
  unfold r9_CopyShifts
  rw [if_pos (by omega)]
theorem p_odd_err {fu : Nat} (hf : 1000 ≤ fu) {l : List Pai} (h : paL l ≠ 0) (hl : l.length < 500) : sv_OddPairs fu l = some ([], paL l) := by
  unfold sv_OddPairs
  rw [p_pairs hf l hl, Option.bind_some, if_neg h]
theorem b_ints_run {fu : Nat} (l : List Int) (hl : l.length < 1000000) : ∀ (n i : Nat), i ≤ l.length → l.length - i < n → b_Ints_L1 fu l l n (i : Int) = some (.inr ())
  | 0, i, _, h => by omega
  | n + 1, i, hi, h => by
    rcases Nat.lt_or_ge i l.length with h1 | h1
    · have he : l[i]? = some l[i] := List.getElem?_eq_getElem h1
      obtain ⟨g1, g2, g3⟩ := idx he
      rw [b_Ints_L1, if_pos g1, if_pos g2, g3, Option.bind_some, if_pos g1, Option.bind_some, if_pos rfl, wrapS (by omega)]
      exact b_ints_run l hl n (i + 1) (by omega) (by omega)
    · rw [b_Ints_L1, if_neg (by omega)]
theorem b_ints {fu : Nat} {l : List Int} (hl : l.length < fu) (hl' : l.length < 1000000) : b_Ints fu l l = some true := by
  have := b_ints_run (fu := fu) l hl' fu 0 (by omega) (by omega)
  rw [show ((0 : Nat) : Int) = 0 from rfl] at this
  unfold b_Ints
  rw [if_pos rfl, this]; rfl
def restF (X : Nat → Bool) : List Pai → Nat → List Pai
  | [], _ => []
  | e :: r, i => if X i = true then restF X r (i + 1) else e :: restF X r (i + 1)
theorem rest_congr {X Y : Nat → Bool} : ∀ {l : List Pai} {i : Nat}, (∀ j, i ≤ j → j < i + l.length → X j = Y j) → restF X l i = restF Y l i
  | [], _, _ => rfl
  | e :: r, i, h => by
    unfold restF
    rw [h i (Nat.le_refl _) (by simp)]
    have := rest_congr (X := X) (Y := Y) (l := r) (i := i + 1) fun j h1 h2 => h j (by omega) (by simp only [List.length_cons]; omega)
    rw [this]
theorem rest_len (s : Nat) : ∀ (l : List Pai) (i : Nat), (restF (hb s) l i).length + (ownF s l.length i).length = l.length
  | [], _ => rfl
  | e :: r, i => by
    have := rest_len s r (i + 1)
    simp only [List.length_cons, ownF, restF]
    split
    · simp only [List.length_cons]; omega
    · simp only [List.length_cons]; omega
theorem rest_sub {X : Nat → Bool} : ∀ {l : List Pai} {i : Nat} {e : Pai}, e ∈ restF X l i → e ∈ l
  | [], _, _, h => by cases h
  | a :: r, i, e, h => by
    unfold restF at h
    split at h
    · exact List.mem_cons_of_mem _ (rest_sub h)
    · rcases List.mem_cons.1 h with rfl | h
      · exact List.mem_cons_self ..
      · exact List.mem_cons_of_mem _ (rest_sub h)
theorem rest_sh {X : Nat → Bool} : ∀ {l : List Pai} {i j : Nat} {a b : Int}, shF nob (restF X l i) j a b = shF X l i a b
  | [], _, _, _, _ => rfl
  | e :: r, i, j, a, b => by
    unfold restF
    by_cases c : X i = true
    · rw [if_pos c, shF, if_pos c]; exact rest_sh
    · rw [if_neg c, shF, shF, if_neg c, if_neg (show ¬ nob j = true from Bool.false_ne_true)]; exact rest_sh
theorem shF_all {X : Nat → Bool} : ∀ {l : List Pai} {i : Nat} {a b : Int}, (∀ j, i ≤ j → j < i + l.length → X j = true) → shF X l i a b = (a, b)
  | [], _, _, _, _ => rfl
  | e :: r, i, a, b, h => by
    unfold shF
    rw [if_pos (h i (Nat.le_refl _) (by simp))]
    exact shF_all fun j h1 h2 => h j (by omega) (by simp only [List.length_cons]; omega)
theorem shF_in {c : Int} : ∀ {l : List Pai} {i : Nat} {a b : Int}, (∀ e ∈ l, (dP e).1 ≤ c ∧ c ≤ (dP e).2) → a ≤ c → c ≤ b → (shF nob l i a b).1 ≤ c ∧ c ≤ (shF nob l i a b).2
  | [], _, _, _, _, h1, h2 => ⟨h1, h2⟩
  | e :: r, i, a, b, h, h1, h2 => by
    unfold shF
    rw [if_neg (show ¬ nob i = true from Bool.false_ne_true)]
    obtain ⟨k1, k2⟩ := h e (List.mem_cons_self ..)
    refine shF_in (fun e he => h e (List.mem_cons_of_mem _ he)) ?_ ?_
    · unfold mx; split <;> omega
    · unfold mn; split <;> omega
theorem rest_run {fu : Nat} (p1 : List Int) (p2 : Int) {l : List Pai} (hl : l.length < 500) {o : List Int} (ho : o.length < 500) (hf : 1000 ≤ fu) : ∀ (n i : Nat) (A : List Pai), i ≤ l.length → l.length - i < n → A.length ≤ i → l9_SurveyShifts_L1 fu l p1 p2 o n A (i : Int) = some (A ++ restF (inO o) (l.drop i) i)
  | 0, i, _, _, h, _ => by omega
  | n + 1, i, A, hi, h, hA => by
    rcases Nat.lt_or_ge i l.length with h1 | h1
    · have he : l[i]? = some l[i] := List.getElem?_eq_getElem h1
      obtain ⟨g1, g2, g3⟩ := idx he
      rw [List.drop_eq_getElem_cons h1, restF, l9_SurveyShifts_L1, if_pos g1, b_has o (by omega) (by omega), Option.bind_some, wrapS (by omega)]
      by_cases c : inO o i = true
      · rw [if_pos c]
        unfold inO at c
        rw [if_pos c]
        exact rest_run p1 p2 hl ho hf n (i + 1) A (by omega) (by omega) (by omega)
      · rw [if_neg c]
        unfold inO at c
        rw [if_neg c, if_pos g2, g3, Option.bind_some, if_pos (by omega), rest_run p1 p2 hl ho hf n (i + 1) _ (by omega) (by omega) (by simp; omega), List.append_assoc]; rfl
    · have : i = l.length := by omega
      subst this
      rw [l9_SurveyShifts_L1, if_neg (by omega), List.drop_of_length_le (Nat.le_refl _)]; simp [restF]
theorem mv_run {fu : Nat} {l : List Pai} (hl : l.length < 500) (hs : ∀ e ∈ l, okPa e) {x : List Int} (hx : x.length = l.length) {c : Int} (hc : -100 ≤ c ∧ c ≤ 100) : ∀ (n i : Nat) (v : List Pai), i ≤ l.length → l.length - i < n → v.length = l.length → (∀ j, i ≤ j → v[j]? = l[j]?) → (∀ (j : Nat) (e : Pai), j < i → v[j]? = some e → (dP e).1 ≤ c ∧ c ≤ (dP e).2) → ∃ o, l9_SurveyShifts_L2 fu l x c n v (i : Int) = some o ∧ o.length = l.length ∧ ∀ e ∈ o, (dP e).1 ≤ c ∧ c ≤ (dP e).2
  | 0, i, _, _, h, _, _, _ => by omega
  | n + 1, i, v, hi, h, hv, hj, hq => by
    rcases Nat.lt_or_ge i l.length with h1 | h1
    · have he : l[i]? = some l[i] := List.getElem?_eq_getElem h1
      have hxe : x[i]? = some x[i] := List.getElem?_eq_getElem (by omega)
      have hve : v[i]? = some l[i] := (hj i (Nat.le_refl _)).trans he
      obtain ⟨g1, g2, g3⟩ := idx he
      obtain ⟨k1, k2, k3⟩ := idx hxe
      obtain ⟨f1, f2, f3⟩ := idx hve
      obtain ⟨o1, o2, o3, o4, o5, o6⟩ := hs _ (List.getElem_mem h1)
      have w1 : IntKind.wrap .i64 (IntKind.wrap .i64 (l[i].2.1 - l[i].1) + 1) = l[i].2.1 - l[i].1 + 1 := by
        rw [wrapB (x := l[i].2.1 - l[i].1) (by omega) (by omega), wrapB (by omega) (by omega)]
      obtain ⟨r, hr, r1, r2⟩ := b_mod2 x[i] (n := l[i].2.1 - l[i].1 + 1) (by omega)
      obtain ⟨s, hs5, s1, s2⟩ := b_mod2 x[i] (n := 5) (by omega)
      obtain ⟨t, ht, t1, t2⟩ := b_mod2 x[i] (n := 3) (by omega)
      rw [l9_SurveyShifts_L2, if_pos g1, if_pos g2, g3, Option.bind_some, if_pos k1, k3, Option.bind_some, w1, hr, Option.bind_some, hs5, Option.bind_some, ht, Option.bind_some, if_pos f1, f3, Option.bind_some, wrapS (by omega)]
      rw [wrapB (x := l[i].1 + r) (by omega) (by omega), wrapB (x := l[i].1 + r - c) (by omega) (by omega), wrapB (x := l[i].1 + r - c - s) (by omega) (by omega), wrapB (x := l[i].1 + r - c + t) (by omega) (by omega), show 0 + ((i : Int)).toNat = i by omega]
      refine mv_run hl hs hx hc n (i + 1) _ (by omega) (by omega) (by rw [List.length_set]; exact hv) (fun j hj' => ?_) (fun j e hj' hee => ?_)
      · rw [List.getElem?_set_ne (by omega)]; exact hj j (by omega)
      · by_cases d : j = i
        · subst d
          rw [List.getElem?_set_self (by omega)] at hee
          obtain rfl := Option.some.inj hee
          unfold dP
          simp only
          omega
        · rw [List.getElem?_set_ne (by omega)] at hee
          exact hq j e (by omega) hee
    · have : i = l.length := by omega
      subst this
      rw [l9_SurveyShifts_L2, if_neg (by omega)]
      refine ⟨v, rfl, hv, fun e he => ?_⟩
      obtain ⟨j, hj1, hj2⟩ := List.mem_iff_getElem.1 he
      exact hq j e (by omega) (by rw [List.getElem?_eq_getElem hj1, hj2])
theorem fit_but {l : List Pai} (h : paL l = 0) (hl : l.length < 9) : fitB l (2 ^ l.length - 2) = true := by
  obtain ⟨k1, k2, k3⟩ := paL_ok h
  refine decide_eq_true ?_
  unfold shS
  match l, k1 with
  | e :: r, _ =>
    obtain ⟨o1, o2, o3, o4, o5, o6⟩ := k3 e (List.mem_cons_self ..)
    have h0 := (but0_at hl (by simp)).2
    have h1 : shF (hb (2 ^ (e :: r).length - 2)) r 1 (mx (-20000) (dP e).1) (mn 20000 (dP e).2) = (mx (-20000) (dP e).1, mn 20000 (dP e).2) := shF_all fun j a b => but1_at hl (by simp only [List.length_cons]; omega) (by omega)
    rw [shF, if_neg (by rw [h0]; exact Bool.false_ne_true), h1]
    unfold mx mn dP
    simp only
    (repeat' split) <;> omega
theorem odd_fits {l : List Pai} (h : paL l = 0) (hl : l.length < 9) : fitB l (oddS l).1 = true ∧ (own l.length (oddS l).1).length ≤ l.length - 1 := by
  obtain ⟨k1, k2, k3⟩ := paL_ok h
  have hp := Nat.two_pow_pos l.length
  obtain ⟨a, b⟩ := bs_least (ow := own l.length) (fit_but h hl) (2 ^ l.length) 0 0 false (by omega) (by omega)
  exact ⟨(odd_lt l).2 a, Nat.le_trans b (own_but hl k1)⟩
theorem odd_none {l : List Pai} (h : fitB l 0 = true) : own l.length (oddS l).1 = [] := by
  obtain ⟨a, b⟩ := bs_least (ow := own l.length) h (2 ^ l.length) 0 0 false (by omega) (by have := Nat.two_pow_pos l.length; omega)
  rw [own_zero] at b
  exact List.eq_nil_of_length_eq_zero (by have b : (own l.length (oddS l).1).length ≤ 0 := b; omega)
theorem in_own {l : List Pai} {s j : Nat} (hj : j < l.length) : inO (own l.length s) j = hb s j := by
  unfold inO
  have := ownF_mem (s := s) (k := l.length) (i := 0) j (by omega) (by omega)
  by_cases c : hb s j = true
  · rw [c]; exact decide_eq_true (this.2 c)
  · rw [show hb s j = false by simpa using c]; exact decide_eq_false fun h => c (this.1 h)
theorem sh_tail {a0 : List Pai} (h : paL a0 = 0) (hl : a0.length < 9) (a1 : Int) (a2 : List Int) : (Option.bind (l9_SurveyShifts_L1 1000 a0 a2 a1 (own a0.length (oddS a0).1) 1000 ([] : List (Int × Int × Int × Int)) (0 : Int)) fun o23 => Option.bind (sv_ShiftIn 1000 o23) fun r24 => if r24.2.2 = (0 : Int) then (Option.bind (b_Within a1 (-100 : Int) (100 : Int)) fun r26 => if r26 = true then (if (a2.length : Int) = (a0.length : Int) then (Option.bind (r9_CopyShifts a0) fun r29 => Option.bind (l9_SurveyShifts_L2 1000 a0 a2 a1 1000 r29 (0 : Int)) fun o30 => Option.bind (r9_ShiftsErr 1000 o30) fun r31 => if r31 = (0 : Int) then (Option.bind (sv_ShiftIn 1000 o30) fun r33 => if r33.2.2 = (0 : Int) then (Option.bind (b_Within a1 r33.1 r33.2.1) fun r35 => if r35 = true then (some true) else none) else none) else (some true)) else (some true)) else (some true)) else none) = some true := by
  obtain ⟨k1, k2, k3⟩ := paL_ok h
  obtain ⟨f1, f2⟩ := odd_fits h hl
  have ho := own_len a0.length (oddS a0).1
  have run := rest_run (fu := 1000) a2 a1 (l := a0) (by omega) (o := own a0.length (oddS a0).1) (by omega) (by omega) 1000 0 [] (by omega) (by omega) (by simp)
  rw [show ((0 : Nat) : Int) = 0 from rfl, List.drop_zero, List.nil_append, rest_congr (Y := hb (oddS a0).1) (fun j h1 h2 => in_own (by omega))] at run
  have hrl := rest_len (oddS a0).1 a0 0
  have hrl : (restF (hb (oddS a0).1) a0 0).length + (own a0.length (oddS a0).1).length = a0.length := hrl
  have hr0 : paL (restF (hb (oddS a0).1) a0 0) = 0 := paL_of (by omega) (by omega) fun e he => k3 e (rest_sub he)
  have hrs : shS nob (restF (hb (oddS a0).1) a0 0) = shS (hb (oddS a0).1) a0 := rest_sh
  have hfit := of_decide_eq_true f1
  rw [run, Option.bind_some, p_shiftin (Nat.le_refl _) (by omega), Option.bind_some, if_pos hr0, hrs, if_pos hfit]
  dsimp only
  rw [if_pos rfl, x_within, Option.bind_some]
  by_cases c : -100 ≤ a1 ∧ a1 ≤ 100
  · rw [decide_eq_true c, if_pos rfl]
    by_cases d : (a2.length : Int) = (a0.length : Int)
    · obtain ⟨o, e1, e2, e3⟩ := mv_run (fu := 1000) (l := a0) (by omega) k3 (x := a2) (by omega) c 1000 0 a0 (by omega) (by omega) rfl (fun _ _ => rfl) (fun j e hj => by omega)
      rw [show ((0 : Nat) : Int) = 0 from rfl] at e1
      rw [if_pos d, copy_sh (by omega), Option.bind_some, e1, Option.bind_some, r_pairs (Nat.le_refl _) o (by omega), Option.bind_some]
      by_cases g : paL o = 0
      · obtain ⟨w1, w2⟩ := shF_in (c := a1) (i := 0) (a := -20000) (b := 20000) e3 (by omega) (by omega)
        have w1 : (shS nob o).1 ≤ a1 := w1
        have w2 : a1 ≤ (shS nob o).2 := w2
        rw [if_pos g, p_shiftin (Nat.le_refl _) (by omega), Option.bind_some, if_pos g, if_pos (show (shS nob o).1 ≤ (shS nob o).2 by omega)]
        dsimp only
        rw [if_pos rfl, x_within, Option.bind_some, decide_eq_true ⟨w1, w2⟩, if_pos rfl]
      · rw [if_neg g]
    · rw [if_neg d]
  · rw [decide_eq_false c]; rfl
theorem sh_ok (a0 : List Pai) (a1 : Int) (a2 : List Int) (h : paL a0 = 0) (hl : a0.length < 9) : (Option.bind (r9_CopyShifts a0) fun r7 => Option.bind (sv_ShiftIn 1000 r7) fun r8 => Option.bind (r9_CopyShifts a0) fun r9 => Option.bind (sv_OddPairs 1000 r9) fun r10 => Option.bind (r9_ShiftsErr 1000 a0) fun r11 => if r11 = (0 : Int) then (Option.bind (r9_Shifts 1000 a0 ([] : List (Int))) fun r13 => if r13.2.2 = true then (if r10.2 = (0 : Int) then (Option.bind (r9_Odd 1000 a0) fun r16 => Option.bind (b_Ints 1000 r10.1 r16) fun r17 => if r17 = true then (if r8.2.2 = (0 : Int) then (if r8.1 = r13.1 then (if r8.2.1 = r13.2.1 then (if (r10.1.length : Int) = (0 : Int) then (Option.bind (l9_SurveyShifts_L1 1000 a0 a2 a1 r10.1 1000 ([] : List (Int × Int × Int × Int)) (0 : Int)) fun o23 => Option.bind (sv_ShiftIn 1000 o23) fun r24 => if r24.2.2 = (0 : Int) then (Option.bind (b_Within a1 (-100 : Int) (100 : Int)) fun r26 => if r26 = true then (if (a2.length : Int) = (a0.length : Int) then (Option.bind (r9_CopyShifts a0) fun r29 => Option.bind (l9_SurveyShifts_L2 1000 a0 a2 a1 1000 r29 (0 : Int)) fun o30 => Option.bind (r9_ShiftsErr 1000 o30) fun r31 => if r31 = (0 : Int) then (Option.bind (sv_ShiftIn 1000 o30) fun r33 => if r33.2.2 = (0 : Int) then (Option.bind (b_Within a1 r33.1 r33.2.1) fun r35 => if r35 = true then (some true) else none) else none) else (some true)) else (some true)) else (some true)) else none) else none) else none) else none) else none) else none) else none) else (if r10.2 = (0 : Int) then (Option.bind (r9_Odd 1000 a0) fun r38 => Option.bind (b_Ints 1000 r10.1 r38) fun r39 => if r39 = true then (if r8.2.2 = (12 : Int) then (if r8.1 = (0 : Int) then (if r8.2.1 = (0 : Int) then (Option.bind (l9_SurveyShifts_L1 1000 a0 a2 a1 r10.1 1000 ([] : List (Int × Int × Int × Int)) (0 : Int)) fun o44 => Option.bind (sv_ShiftIn 1000 o44) fun r45 => if r45.2.2 = (0 : Int) then (Option.bind (b_Within a1 (-100 : Int) (100 : Int)) fun r47 => if r47 = true then (if (a2.length : Int) = (a0.length : Int) then (Option.bind (r9_CopyShifts a0) fun r50 => Option.bind (l9_SurveyShifts_L2 1000 a0 a2 a1 1000 r50 (0 : Int)) fun o51 => Option.bind (r9_ShiftsErr 1000 o51) fun r52 => if r52 = (0 : Int) then (Option.bind (sv_ShiftIn 1000 o51) fun r54 => if r54.2.2 = (0 : Int) then (Option.bind (b_Within a1 r54.1 r54.2.1) fun r56 => if r56 = true then (some true) else none) else none) else (some true)) else (some true)) else (some true)) else none) else none) else none) else none) else none) else none)) else (if r8.2.2 = r11 then (if r10.2 = r11 then (if r8.1 = (0 : Int) then (if r8.2.1 = (0 : Int) then (if (r10.1.length : Int) = (0 : Int) then (some true) else none) else none) else none) else none) else none)) = some true := by
  obtain ⟨k1, k2, k3⟩ := paL_ok h
  have ho := own_len a0.length (oddS a0).1
  have tl := sh_tail h hl a1 a2
  have hno : shR (inO []) a0 = shR nob a0 := shF_congr fun j _ _ => by unfold inO nob; simp
  have hz : shS (hb 0) a0 = shS nob a0 := shF_congr fun j _ _ => hb_zero j
  rw [copy_sh (by omega)] at tl ⊢
  simp only [Option.bind_some] at tl ⊢
  rw [p_shiftin (Nat.le_refl _) (by omega), Option.bind_some, if_pos h, p_odd (Nat.le_refl _) h hl, Option.bind_some, r_pairs (Nat.le_refl _) a0 (by omega), Option.bind_some, if_pos h, r_shifts (Nat.le_refl _) (by omega) k3 (by simp), Option.bind_some, hno]
  dsimp only
  by_cases c : (shR nob a0).1 ≤ (shR nob a0).2
  · have c' : (shS nob a0).1 ≤ (shS nob a0).2 := (sh_same k3).2 c
    have hw : shS nob a0 = shR nob a0 := sh_whole k3 k1 rfl
    have hn := odd_none (l := a0) (decide_eq_true (by rw [hz]; exact c'))
    rw [decide_eq_true c, if_pos rfl, if_pos rfl, r_odd (Nat.le_refl _) hl k3, Option.bind_some, b_ints (by omega) (by omega), Option.bind_some, if_pos rfl, if_pos c']
    dsimp only
    rw [hw, if_pos rfl, if_pos rfl, if_pos rfl, if_pos (by rw [hn]; rfl)]
    exact tl
  · have c' : ¬ (shS nob a0).1 ≤ (shS nob a0).2 := fun d => c ((sh_same k3).1 d)
    rw [decide_eq_false c, if_neg Bool.false_ne_true, if_pos rfl, r_odd (Nat.le_refl _) hl k3, Option.bind_some, b_ints (by omega) (by omega), Option.bind_some, if_pos rfl, if_neg c']
    dsimp only
    rw [if_pos rfl, if_pos rfl, if_pos rfl]
    exact tl
theorem sh_err (a0 : List Pai) (a1 : Int) (a2 : List Int) (h : paL a0 ≠ 0) (hl : a0.length < 500) : (Option.bind (r9_CopyShifts a0) fun r7 => Option.bind (sv_ShiftIn 1000 r7) fun r8 => Option.bind (r9_CopyShifts a0) fun r9 => Option.bind (sv_OddPairs 1000 r9) fun r10 => Option.bind (r9_ShiftsErr 1000 a0) fun r11 => if r11 = (0 : Int) then (Option.bind (r9_Shifts 1000 a0 ([] : List (Int))) fun r13 => if r13.2.2 = true then (if r10.2 = (0 : Int) then (Option.bind (r9_Odd 1000 a0) fun r16 => Option.bind (b_Ints 1000 r10.1 r16) fun r17 => if r17 = true then (if r8.2.2 = (0 : Int) then (if r8.1 = r13.1 then (if r8.2.1 = r13.2.1 then (if (r10.1.length : Int) = (0 : Int) then (Option.bind (l9_SurveyShifts_L1 1000 a0 a2 a1 r10.1 1000 ([] : List (Int × Int × Int × Int)) (0 : Int)) fun o23 => Option.bind (sv_ShiftIn 1000 o23) fun r24 => if r24.2.2 = (0 : Int) then (Option.bind (b_Within a1 (-100 : Int) (100 : Int)) fun r26 => if r26 = true then (if (a2.length : Int) = (a0.length : Int) then (Option.bind (r9_CopyShifts a0) fun r29 => Option.bind (l9_SurveyShifts_L2 1000 a0 a2 a1 1000 r29 (0 : Int)) fun o30 => Option.bind (r9_ShiftsErr 1000 o30) fun r31 => if r31 = (0 : Int) then (Option.bind (sv_ShiftIn 1000 o30) fun r33 => if r33.2.2 = (0 : Int) then (Option.bind (b_Within a1 r33.1 r33.2.1) fun r35 => if r35 = true then (some true) else none) else none) else (some true)) else (some true)) else (some true)) else none) else none) else none) else none) else none) else none) else none) else (if r10.2 = (0 : Int) then (Option.bind (r9_Odd 1000 a0) fun r38 => Option.bind (b_Ints 1000 r10.1 r38) fun r39 => if r39 = true then (if r8.2.2 = (12 : Int) then (if r8.1 = (0 : Int) then (if r8.2.1 = (0 : Int) then (Option.bind (l9_SurveyShifts_L1 1000 a0 a2 a1 r10.1 1000 ([] : List (Int × Int × Int × Int)) (0 : Int)) fun o44 => Option.bind (sv_ShiftIn 1000 o44) fun r45 => if r45.2.2 = (0 : Int) then (Option.bind (b_Within a1 (-100 : Int) (100 : Int)) fun r47 => if r47 = true then (if (a2.length : Int) = (a0.length : Int) then (Option.bind (r9_CopyShifts a0) fun r50 => Option.bind (l9_SurveyShifts_L2 1000 a0 a2 a1 1000 r50 (0 : Int)) fun o51 => Option.bind (r9_ShiftsErr 1000 o51) fun r52 => if r52 = (0 : Int) then (Option.bind (sv_ShiftIn 1000 o51) fun r54 => if r54.2.2 = (0 : Int) then (Option.bind (b_Within a1 r54.1 r54.2.1) fun r56 => if r56 = true then (some true) else none) else none) else (some true)) else (some true)) else (some true)) else none) else none) else none) else none) else none) else none)) else (if r8.2.2 = r11 then (if r10.2 = r11 then (if r8.1 = (0 : Int) then (if r8.2.1 = (0 : Int) then (if (r10.1.length : Int) = (0 : Int) then (some true) else none) else none) else none) else none) else none)) = some true := by
  rw [copy_sh (by omega)]
  simp only [Option.bind_some]
  rw [p_shiftin (Nat.le_refl _) (by omega), Option.bind_some, if_neg h, p_odd_err (Nat.le_refl _) h (by omega), Option.bind_some, r_pairs (Nat.le_refl _) a0 (by omega), Option.bind_some, if_neg h]
  dsimp only
  rw [if_pos rfl, if_pos rfl, if_pos rfl, if_pos rfl]; rfl
theorem l9_SurveyShifts_true (a0 : List Pai) (a1 : Int) (a2 : List Int) : ∃ fu, l9_SurveyShifts fu a0 a1 a2 = some true := by
  refine ⟨1000, ?_⟩
  unfold l9_SurveyShifts l9_awake
  rw [Option.bind_some, if_pos rfl]
  by_cases hn : (14 : Int) < (a0.length : Int)
  · rw [if_pos hn]
  · rw [if_neg hn]
    by_cases h8 : (8 : Int) < (a0.length : Int)
    · rw [if_pos h8, r_pairs (Nat.le_refl _) a0 (by omega), Option.bind_some]
      by_cases c : paL a0 = 0
      · rw [if_pos c]
      · rw [if_neg c, ← r_pairs (Nat.le_refl _) a0 (by omega)]
        exact sh_err a0 a1 a2 c (by omega)
    · rw [if_neg h8]
      by_cases c : paL a0 = 0
      · exact sh_ok a0 a1 a2 c (by omega)
      · exact sh_err a0 a1 a2 c (by omega)
end Go.Proofs.YtidahkefillmeaaGreatDoor
