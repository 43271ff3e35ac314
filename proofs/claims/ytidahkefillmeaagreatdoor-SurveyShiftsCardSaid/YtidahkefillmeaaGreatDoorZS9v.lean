/-
  Shifts and odd pairs: the program and the reference say the same.
-/
import Derived.Test.YtidahkefillmeaaGreatDoorZS9u
set_option linter.all false
namespace Go.Proofs.YtidahkefillmeaaGreatDoor
open Go Go.RowKit
abbrev Pai := Int × Int × Int × Int
def paE (e : Pai) : Int := if okH e.1 ∧ okH e.2.1 ∧ okH e.2.2.1 ∧ okH e.2.2.2 then (if e.2.1 < e.1 then 9 else if e.2.2.2 < e.2.2.1 then 9 else 0) else 2
theorem p_pa {fu : Nat} (hf : 10 ≤ fu) (e : Pai) : sv_pairsError_1 fu e.1 e.2.1 e.2.2.1 e.2.2.2 = some (paE e) := by
  unfold sv_pairsError_1 paE
  rw [x_size fu _ (by omega) _ (by simp; omega) (by simp), Option.bind_some, x_order, Option.bind_some, x_order, Option.bind_some, x_first fu _ (by simp; omega) (by simp), Option.bind_some, in4]
  congr 1
  by_cases c1 : okH e.1 ∧ okH e.2.1 ∧ okH e.2.2.1 ∧ okH e.2.2.2
  · rw [if_pos c1, if_pos c1]
    by_cases c2 : e.2.1 < e.1
    · simp [firstE, c2]
    · by_cases c3 : e.2.2.2 < e.2.2.1 <;> simp [firstE, c2, c3]
  · rw [if_neg c1, if_neg c1]; simp [firstE]
theorem r_pa (e : Pai) : r9_HeightErr e.1 e.2.1 e.2.2.1 e.2.2.2 = some (paE e) := by
  unfold r9_HeightErr paE
  simp only [r_isHeight, Option.bind_some, decide_eq_true_eq]
  by_cases c1 : okH e.1
  · by_cases c2 : okH e.2.1
    · by_cases c3 : okH e.2.2.1
      · by_cases c4 : okH e.2.2.2
        · simp only [c1, c2, c3, c4, and_self, if_true]
          (repeat' split) <;> rfl
        · simp [c1, c2, c3, c4]
      · simp [c1, c2, c3]
    · simp [c1, c2]
  · simp [c1]
def paL (l : List Pai) : Int := if (l.length : Int) < 1 then 10 else if (12 : Int) < (l.length : Int) then 8 else fstF paE l
theorem p_pairs {fu : Nat} (hf : 1000 ≤ fu) (l : List Pai) (hl : l.length < 500) : sv_pairsError fu l = some (paL l) := by
  unfold sv_pairsError u_CheckList_SurveyPair_pairsError_1 u_FirstBad_SurveyPair_pairsError_1 paL
  by_cases h : (l.length : Int) < 1
  · rw [if_pos h, if_pos h]; rfl
  · rw [if_neg h, if_neg h]
    by_cases h0 : (12 : Int) < (l.length : Int)
    · rw [if_pos h0, if_pos h0]; rfl
    · rw [if_neg h0, if_neg h0]
      obtain ⟨o, e1, e2⟩ := fb_run l (fun n i => u_FirstBad_SurveyPair_pairsError_1_L1 fu l (l.length : Int) n (i : Int)) (Sum.elim (fun y => y.2) (fun _ => 0)) paE
        (fun n => ⟨.inr (), by rw [u_FirstBad_SurveyPair_pairsError_1_L1, if_neg (by omega)], rfl⟩)
        (fun n i e he => by
          obtain ⟨h1, h2, h3⟩ := idx he
          rw [u_FirstBad_SurveyPair_pairsError_1_L1, if_pos h1, if_pos h2, if_pos h1, h3, Option.bind_some, p_pa (by omega), Option.bind_some]
          by_cases c : paE e = 0
          · rw [if_pos c, wrapS (by have := (List.getElem?_eq_some_iff.1 he).1; omega)]; exact .inl ⟨c, rfl⟩
          · rw [if_neg c]; exact .inr ⟨c, _, rfl, rfl⟩) fu 0 (by omega) (by omega)
      rw [show ((0 : Nat) : Int) = 0 from rfl] at e1
      rw [List.drop_zero] at e2
      rw [e1, ← e2]
      cases o <;> rfl
theorem r_pairs {fu : Nat} (hf : 1000 ≤ fu) (l : List Pai) (hl : l.length < 500) : r9_ShiftsErr fu l = some (paL l) := by
  unfold r9_ShiftsErr paL
  by_cases h : (l.length : Int) = 0
  · rw [if_pos h, if_pos (by omega)]
  · rw [if_neg h, if_neg (show ¬ (l.length : Int) < 1 by omega)]
    by_cases h0 : (12 : Int) < (l.length : Int)
    · rw [if_pos h0, if_pos h0]
    · rw [if_neg h0, if_neg h0]
      obtain ⟨o, e1, e2⟩ := fb_run l (fun n i => r9_ShiftsErr_L1 fu l n (i : Int)) (Sum.elim id (fun _ => 0)) paE
        (fun n => ⟨.inr (), by rw [r9_ShiftsErr_L1, if_neg (by omega)], rfl⟩)
        (fun n i e he => by
          obtain ⟨h1, h2, h3⟩ := idx he
          rw [r9_ShiftsErr_L1, if_pos h1, if_pos h2, h3, Option.bind_some, r_pa, Option.bind_some]
          by_cases c : paE e = 0
          · rw [if_pos c, wrapS (by have := (List.getElem?_eq_some_iff.1 he).1; omega)]; exact .inl ⟨c, rfl⟩
          · rw [if_neg c]; exact .inr ⟨c, _, rfl, rfl⟩) fu 0 (by omega) (by omega)
      rw [show ((0 : Nat) : Int) = 0 from rfl] at e1
      rw [List.drop_zero] at e2
      rw [e1, ← e2]
      cases o <;> rfl
def okPa (e : Pai) : Prop := (-10000 ≤ e.1 ∧ e.1 ≤ 10000) ∧ (-10000 ≤ e.2.1 ∧ e.2.1 ≤ 10000) ∧ (-10000 ≤ e.2.2.1 ∧ e.2.2.1 ≤ 10000) ∧ (-10000 ≤ e.2.2.2 ∧ e.2.2.2 ≤ 10000) ∧ e.1 ≤ e.2.1 ∧ e.2.2.1 ≤ e.2.2.2
theorem paE_ok {e : Pai} (h : paE e = 0) : okPa e := by
  unfold paE at h
  split at h
  · rename_i c
    obtain ⟨c1, c2, c3, c4⟩ := c
    have c1 := okH_at c1
    have c2 := okH_at c2
    have c3 := okH_at c3
    have c4 := okH_at c4
    unfold okPa
    (repeat' split at h) <;> omega
  · omega
theorem okPa_E {e : Pai} (h : okPa e) : paE e = 0 := by
  obtain ⟨h1, h2, h3, h4, h5, h6⟩ := h
  unfold paE
  rw [if_pos ⟨h1, h2, h3, h4⟩, if_neg (by omega), if_neg (by omega)]
theorem paL_ok {l : List Pai} (h : paL l = 0) : 1 ≤ l.length ∧ l.length ≤ 12 ∧ ∀ e ∈ l, okPa e := by
  unfold paL at h
  split at h
  · omega
  · split at h
    · omega
    · exact ⟨by omega, by omega, fun e he => paE_ok (fstF_ok h e he)⟩
theorem fstF_all {α : Type} {f : α → Int} : ∀ {l : List α}, (∀ e ∈ l, f e = 0) → fstF f l = 0
  | [], _ => rfl
  | a :: r, h => by
    unfold fstF
    rw [if_pos (h a (List.mem_cons_self ..))]
    exact fstF_all fun e he => h e (List.mem_cons_of_mem _ he)
theorem paL_of {l : List Pai} (h1 : 1 ≤ l.length) (h2 : l.length ≤ 12) (h : ∀ e ∈ l, okPa e) : paL l = 0 := by
  unfold paL
  rw [if_neg (by omega), if_neg (by omega)]
  exact fstF_all fun e he => okPa_E (h e he)
/-! ### The shifts that fit -/
def mx (a b : Int) : Int := if a < b then b else a
def mn (a b : Int) : Int := if b < a then b else a
def dP (e : Pai) : Int × Int := (e.1 - e.2.2.2, e.2.1 - e.2.2.1)
def shF (X : Nat → Bool) : List Pai → Nat → Int → Int → Int × Int
  | [], _, a, b => (a, b)
  | e :: r, i, a, b => if X i = true then shF X r (i + 1) a b else shF X r (i + 1) (mx a (dP e).1) (mn b (dP e).2)
theorem p_common (a b c d : Int) : u_Common a b c d = some (mx a c, mn b d) := by
  unfold u_Common mx mn
  (repeat' split) <;> first | rfl | omega
theorem p_diff {e : Pai} (h : okPa e) : sv_differences e.1 e.2.1 e.2.2.1 e.2.2.2 = some (dP e) := by
  obtain ⟨h1, h2, h3, h4, _⟩ := h
  unfold sv_differences dP
  rw [wrapB (by omega) (by omega), wrapB (by omega) (by omega)]
theorem p_sh_run {fu : Nat} {l : List Pai} (hl : l.length < 500) (hs : ∀ e ∈ l, okPa e) (s : Nat) : ∀ (n i : Nat) (a b : Int), i ≤ l.length → l.length - i < n → sv_shifts_L1 fu l (s : Int) (l.length : Int) n a b (i : Int) = some (shF (hb s) (l.drop i) i a b)
  | 0, i, _, _, _, h => by omega
  | n + 1, i, a, b, hi, h => by
    rcases Nat.lt_or_ge i l.length with h1 | h1
    · have he : l[i]? = some l[i] := List.getElem?_eq_getElem h1
      obtain ⟨g1, g2, g3⟩ := idx he
      rw [List.drop_eq_getElem_cons h1, shF, sv_shifts_L1, if_pos g1, if_pos g2, if_pos g1, g3, Option.bind_some, p_has, Option.bind_some, wrapS (by omega)]
      by_cases c : hb s i = true
      · rw [if_pos c, if_pos c, p_sh_run hl hs s n (i + 1) a b (by omega) (by omega)]
      · rw [if_neg c, if_neg c, p_diff (hs _ (List.getElem_mem h1)), Option.bind_some, p_common, Option.bind_some, p_sh_run hl hs s n (i + 1) _ _ (by omega) (by omega)]
    · have : i = l.length := by omega
      subst this
      rw [sv_shifts_L1, if_neg (by omega), List.drop_of_length_le (Nat.le_refl _)]; rfl
def shS (X : Nat → Bool) (l : List Pai) : Int × Int := shF X l 0 (-20000) 20000
theorem p_shifts {fu : Nat} (hf : 1000 ≤ fu) {l : List Pai} (hl : l.length < 500) (hs : ∀ e ∈ l, okPa e) (s : Nat) : sv_shifts fu l (s : Int) = some (shS (hb s) l) := by
  have := p_sh_run (fu := fu) hl hs s fu 0 (-20000) 20000 (by omega) (by omega)
  rw [show ((0 : Nat) : Int) = 0 from rfl, List.drop_zero] at this
  unfold sv_shifts
  rw [this]; rfl
theorem shF_congr {X Y : Nat → Bool} : ∀ {l : List Pai} {i : Nat} {a b : Int}, (∀ j, i ≤ j → j < i + l.length → X j = Y j) → shF X l i a b = shF Y l i a b
  | [], _, _, _, _ => rfl
  | e :: r, i, a, b, h => by
    unfold shF
    rw [h i (Nat.le_refl _) (by simp)]
    have := fun a b => shF_congr (X := X) (Y := Y) (l := r) (i := i + 1) (a := a) (b := b) fun j h1 h2 => h j (by omega) (by simp only [List.length_cons]; omega)
    rw [this, this]
theorem shF_clip (X : Nat → Bool) : ∀ {l : List Pai} {i : Nat} {a b : Int}, (∀ e ∈ l, okPa e) → a ≤ 20000 → -20000 ≤ b → shF X l i (mx a (-20000)) (mn b 20000) = (mx (shF X l i a b).1 (-20000), mn (shF X l i a b).2 20000) ∧ (shF X l i a b).1 ≤ 20000 ∧ -20000 ≤ (shF X l i a b).2
  | [], _, _, _, _, ha, hb' => ⟨rfl, ha, hb'⟩
  | e :: r, i, a, b, h, ha, hb' => by
    unfold shF
    by_cases c : X i = true
    · rw [if_pos c, if_pos c]
      exact shF_clip X (fun e he => h e (List.mem_cons_of_mem _ he)) ha hb'
    · rw [if_neg c, if_neg c]
      obtain ⟨h1, h2, h3, h4, h5, h6⟩ := h e (List.mem_cons_self ..)
      have e1 : mx (mx a (-20000)) (dP e).1 = mx (mx a (dP e).1) (-20000) := by
        unfold mx dP; simp only; (repeat' split) <;> omega
      have e2 : mn (mn b 20000) (dP e).2 = mn (mn b (dP e).2) 20000 := by
        unfold mn dP; simp only; (repeat' split) <;> omega
      rw [e1, e2]
      refine shF_clip X (fun e he => h e (List.mem_cons_of_mem _ he)) ?_ ?_
      · unfold mx dP; simp only; split <;> omega
      · unfold mn dP; simp only; split <;> omega
theorem shF_up (X : Nat → Bool) : ∀ {l : List Pai} {i : Nat} {a b : Int}, a ≤ (shF X l i a b).1 ∧ (shF X l i a b).2 ≤ b
  | [], _, _, _ => ⟨Int.le_refl _, Int.le_refl _⟩
  | e :: r, i, a, b => by
    unfold shF
    split
    · exact shF_up X
    · obtain ⟨h1, h2⟩ := shF_up X (l := r) (i := i + 1) (a := mx a (dP e).1) (b := mn b (dP e).2)
      refine ⟨Int.le_trans ?_ h1, Int.le_trans h2 ?_⟩
      · unfold mx; split <;> omega
      · unfold mn; split <;> omega
def shR (X : Nat → Bool) (l : List Pai) : Int × Int := shF X l 0 (-40000) 40000
theorem sh_clip (X : Nat → Bool) {l : List Pai} (h : ∀ e ∈ l, okPa e) : shS X l = (mx (shR X l).1 (-20000), mn (shR X l).2 20000) ∧ (shR X l).1 ≤ 20000 ∧ -20000 ≤ (shR X l).2 := by
  have := shF_clip X (l := l) (i := 0) (a := -40000) (b := 40000) h (by omega) (by omega)
  rw [show mx (-40000) (-20000) = -20000 by decide, show mn 40000 20000 = 20000 by decide] at this
  exact this
theorem sh_same {X : Nat → Bool} {l : List Pai} (h : ∀ e ∈ l, okPa e) : (shS X l).1 ≤ (shS X l).2 ↔ (shR X l).1 ≤ (shR X l).2 := by
  obtain ⟨h1, h2, h3⟩ := sh_clip X h
  rw [h1]
  unfold mx mn
  simp only
  (repeat' split) <;> omega
theorem sh_whole {l : List Pai} (h : ∀ e ∈ l, okPa e) (hl : 1 ≤ l.length) {X : Nat → Bool} (hX : X 0 = false) : shS X l = shR X l := by
  obtain ⟨h1, h2, h3⟩ := sh_clip X h
  rw [h1]
  match l, hl with
  | e :: r, _ =>
    have hR : shR X (e :: r) = shF X r 1 (mx (-40000) (dP e).1) (mn 40000 (dP e).2) := by
      show (if X 0 = true then _ else _) = _
      rw [if_neg (by rw [hX]; exact Bool.false_ne_true)]
    obtain ⟨k1, k2⟩ := shF_up X (l := r) (i := 1) (a := mx (-40000) (dP e).1) (b := mn 40000 (dP e).2)
    rw [← hR] at k1 k2
    obtain ⟨o1, o2, o3, o4, o5, o6⟩ := h e (List.mem_cons_self ..)
    have m1 : -20000 ≤ mx (-40000) (dP e).1 := by unfold mx dP; simp only; split <;> omega
    have m2 : mn 40000 (dP e).2 ≤ 20000 := by unfold mn dP; simp only; split <;> omega
    have e1 : mx (shR X (e :: r)).1 (-20000) = (shR X (e :: r)).1 := by unfold mx; split <;> omega
    have e2 : mn (shR X (e :: r)).2 20000 = (shR X (e :: r)).2 := by unfold mn; split <;> omega
    rw [e1, e2]
theorem b_has_run {fu : Nat} (A : List Int) (hA : A.length < 1000000) (j : Int) : ∀ (n i : Nat), i ≤ A.length → A.length - i < n → (j ∈ A.drop i ∧ b_Has_L1 fu A j n (i : Int) = some (.inl ())) ∨ (¬ j ∈ A.drop i ∧ b_Has_L1 fu A j n (i : Int) = some (.inr ()))
  | 0, i, _, h => by omega
  | n + 1, i, hi, h => by
    rcases Nat.lt_or_ge i A.length with h1 | h1
    · have he : A[i]? = some A[i] := List.getElem?_eq_getElem h1
      obtain ⟨g1, g2, g3⟩ := idx he
      rw [b_Has_L1, if_pos g1, if_pos g2, g3, Option.bind_some, wrapS (by omega), List.drop_eq_getElem_cons h1, List.mem_cons]
      by_cases c : A[i] = j
      · rw [if_pos c]; exact .inl ⟨.inl c.symm, rfl⟩
      · rw [if_neg c]
        rcases b_has_run (fu := fu) A hA j n (i + 1) (by omega) (by omega) with ⟨a, b⟩ | ⟨a, b⟩
        · exact .inl ⟨.inr a, b⟩
        · exact .inr ⟨fun h => h.elim (fun e => c e.symm) a, b⟩
    · have : i = A.length := by omega
      subst this
      rw [b_Has_L1, if_neg (by omega), List.drop_of_length_le (Nat.le_refl _)]
      exact .inr ⟨fun h => (by cases h), rfl⟩
theorem b_has {fu : Nat} (A : List Int) (hA : A.length < 1000000) (hf : A.length < fu) (j : Int) : b_Has fu A j = some (decide (j ∈ A)) := by
  unfold b_Has
  rcases b_has_run (fu := fu) A hA j fu 0 (by omega) (by omega) with ⟨h1, h2⟩ | ⟨h1, h2⟩
  · rw [List.drop_zero] at h1
    rw [show ((0 : Nat) : Int) = 0 from rfl] at h2
    rw [h2, decide_eq_true h1]; rfl
  · rw [List.drop_zero] at h1
    rw [show ((0 : Nat) : Int) = 0 from rfl] at h2
    rw [h2, decide_eq_false h1]; rfl
def inO (o : List Int) (j : Nat) : Bool := decide ((j : Int) ∈ o)
theorem r_sh_run {fu : Nat} {l : List Pai} (hl : l.length < 500) (hs : ∀ e ∈ l, okPa e) {o : List Int} (ho : o.length < 1000000) (ho' : o.length < fu) : ∀ (n i : Nat) (a b : Int), i ≤ l.length → l.length - i < n → r9_Shifts_L1 fu l o n a b (i : Int) = some (shF (inO o) (l.drop i) i a b)
  | 0, i, _, _, _, h => by omega
  | n + 1, i, a, b, hi, h => by
    rcases Nat.lt_or_ge i l.length with h1 | h1
    · have he : l[i]? = some l[i] := List.getElem?_eq_getElem h1
      obtain ⟨g1, g2, g3⟩ := idx he
      obtain ⟨o1, o2, o3, o4, o5, o6⟩ := hs _ (List.getElem_mem h1)
      rw [List.drop_eq_getElem_cons h1, shF, r9_Shifts_L1, if_pos g1, b_has o ho ho', Option.bind_some, wrapS (by omega)]
      by_cases c : inO o i = true
      · rw [if_pos c]
        unfold inO at c
        rw [if_pos c, r_sh_run hl hs ho ho' n (i + 1) a b (by omega) (by omega)]
      · rw [if_neg c]
        unfold inO at c
        rw [if_neg c, if_pos g2, g3, Option.bind_some, wrapB (by omega) (by omega), wrapB (by omega) (by omega)]
        have k := fun a b => r_sh_run (fu := fu) hl hs ho ho' n (i + 1) a b (by omega) (by omega)
        show (if a < (dP l[i]).1 then (if (dP l[i]).2 < b then _ else _) else (if (dP l[i]).2 < b then _ else _)) = _
        unfold mx mn
        by_cases d1 : a < (dP l[i]).1
        · by_cases d2 : (dP l[i]).2 < b
          · rw [if_pos d1, if_pos d2, if_pos d1, if_pos d2]; exact k _ _
          · rw [if_pos d1, if_neg d2, if_pos d1, if_neg d2]; exact k _ _
        · by_cases d2 : (dP l[i]).2 < b
          · rw [if_neg d1, if_pos d2, if_neg d1, if_pos d2]; exact k _ _
          · rw [if_neg d1, if_neg d2, if_neg d1, if_neg d2]; exact k _ _
    · have : i = l.length := by omega
      subst this
      rw [r9_Shifts_L1, if_neg (by omega), List.drop_of_length_le (Nat.le_refl _)]; rfl
theorem r_shifts {fu : Nat} (hf : 1000 ≤ fu) {l : List Pai} (hl : l.length < 500) (hs : ∀ e ∈ l, okPa e) {o : List Int} (ho : o.length < 500) : r9_Shifts fu l o = some ((shR (inO o) l).1, (shR (inO o) l).2, decide ((shR (inO o) l).1 ≤ (shR (inO o) l).2)) := by
  have := r_sh_run (fu := fu) hl hs (o := o) (by omega) (by omega) fu 0 (-40000) 40000 (by omega) (by omega)
  rw [show ((0 : Nat) : Int) = 0 from rfl, List.drop_zero] at this
  unfold r9_Shifts
  rw [this, Option.bind_some]
  show (if (shR (inO o) l).1 ≤ (shR (inO o) l).2 then _ else _) = _
  by_cases c : (shR (inO o) l).1 ≤ (shR (inO o) l).2
  · rw [if_pos c, decide_eq_true c]; rfl
  · rw [if_neg c, decide_eq_false c]; rfl
theorem p_setof (fu : Nat) (hf : 0 < fu) : u_SetOf fu [] = some 0 := by
  obtain ⟨n, rfl⟩ : ∃ n, fu = n + 1 := ⟨fu - 1, by omega⟩
  unfold u_SetOf
  rw [u_SetOf_L1]; rfl
def nob : Nat → Bool := fun _ => false
theorem p_shiftin {fu : Nat} (hf : 1000 ≤ fu) {l : List Pai} (hl : l.length < 500) : sv_ShiftIn fu l = some (if paL l = 0 then (if (shS nob l).1 ≤ (shS nob l).2 then ((shS nob l).1, (shS nob l).2, 0) else (0, 0, 12)) else (0, 0, paL l)) := by
  unfold sv_ShiftIn
  rw [p_pairs hf l hl, Option.bind_some]
  by_cases c : paL l = 0
  · obtain ⟨k1, k2, k3⟩ := paL_ok c
    have e : shS (hb 0) l = shS nob l := shF_congr fun j _ _ => hb_zero j
    have := p_shifts hf hl k3 0
    rw [show ((0 : Nat) : Int) = 0 from rfl, e] at this
    rw [if_pos c, if_pos c, p_setof fu (by omega), Option.bind_some, this, Option.bind_some, x_order, Option.bind_some]
    by_cases d : (shS nob l).1 ≤ (shS nob l).2
    · rw [if_pos d, if_neg (show ¬ (shS nob l).2 < (shS nob l).1 by omega), if_pos rfl]
    · rw [if_neg d, if_pos (show (shS nob l).2 < (shS nob l).1 by omega), if_neg (by omega)]
  · rw [if_neg c, if_neg c]
/-! ### Odd pairs -/
def fitB (l : List Pai) (s : Nat) : Bool := decide ((shS (hb s) l).1 ≤ (shS (hb s) l).2)
theorem p_fit {fu : Nat} (hf : 1000 ≤ fu) {l : List Pai} (hl : l.length < 500) (hs : ∀ e ∈ l, okPa e) (s : Nat) : u_Minimum_1 fu (s : Int) l = some (0, fitB l s) := by
  unfold u_Minimum_1 sv_OddPairs_1 fitB
  rw [p_shifts hf hl hs, Option.bind_some, x_order, Option.bind_some]
  by_cases d : (shS (hb s) l).1 ≤ (shS (hb s) l).2
  · rw [if_neg (show ¬ (shS (hb s) l).2 < (shS (hb s) l).1 by omega), if_pos rfl, decide_eq_true d]; rfl
  · rw [if_pos (show (shS (hb s) l).2 < (shS (hb s) l).1 by omega), if_neg (by omega), decide_eq_false d]; rfl
def oddS (l : List Pai) : Nat × Bool := bsF (fitB l) (own l.length) (2 ^ l.length) 0 0 false
theorem p_best {fu : Nat} (hf : 1000 ≤ fu) {l : List Pai} (hl : l.length < 9) (hs : ∀ e ∈ l, okPa e) : ∀ (n k s f : Nat) (ok : Bool), s + k = 2 ^ l.length → k < n → f < 2 ^ l.length → u_Best_Minimum_1_L1 fu l ((2 ^ l.length : Nat) : Int) n (f : Int) 0 ok (s : Int) = some (((bsF (fitB l) (own l.length) k s f ok).1 : Int), 0, (bsF (fitB l) (own l.length) k s f ok).2)
  | 0, k, s, _, _, _, h, _ => by omega
  | n + 1, 0, s, f, ok, h1, _, _ => by
    rw [u_Best_Minimum_1_L1, if_neg (by omega)]; rfl
  | n + 1, k + 1, s, f, ok, h1, h2, h3 => by
    have hp := pow_le hl
    have rec' := fun f ok h => p_best hf hl hs n k (s + 1) f ok (by omega) (by omega) h
    rw [u_Best_Minimum_1_L1, if_pos (by omega), p_fit hf (by omega) hs, Option.bind_some, wrapS (by omega), bsF]
    by_cases c : fitB l s = true
    · rw [if_pos c]
      cases ok with
      | false =>
        rw [if_neg Bool.false_ne_true, if_pos ⟨c, .inl rfl⟩]
        exact rec' s true (by omega)
      | true =>
        rw [if_pos rfl, if_neg (Int.lt_irrefl 0), if_pos rfl, p_prec hf hl (by omega) h3, Option.bind_some]
        by_cases d : prec (own l.length s) (own l.length f) = true
        · rw [if_pos d, if_pos ⟨c, .inr d⟩]
          exact rec' s true (by omega)
        · rw [if_neg d, if_neg (fun h => d (h.2.resolve_left Bool.noConfusion))]
          exact rec' f true h3
    · rw [if_neg c, if_neg (fun h => c h.1)]
      exact rec' f ok h3
theorem odd_lt (l : List Pai) : (oddS l).1 < 2 ^ l.length ∧ ((oddS l).2 = true → fitB l (oddS l).1 = true) :=
  bs_fit (2 ^ l.length) 0 0 false (by omega) (Nat.two_pow_pos l.length) (fun h => by cases h)
theorem p_odd {fu : Nat} (hf : 1000 ≤ fu) {l : List Pai} (h : paL l = 0) (hl : l.length < 9) : sv_OddPairs fu l = some (own l.length (oddS l).1, 0) := by
  obtain ⟨k1, k2, k3⟩ := paL_ok h
  have hp := pow_le hl
  have := p_best hf hl k3 fu (2 ^ l.length) 0 0 false (by omega) (by omega) (odd_lt l |>.1 |> fun h => by omega)
  rw [show ((0 : Nat) : Int) = 0 from rfl] at this
  have hm := p_members hf hl (odd_lt l).1
  unfold sv_OddPairs u_Minimum_OddPairs_1 u_Best_Minimum_1
  rw [p_pairs hf l (by omega), Option.bind_some, h, if_pos rfl, if_pos (by omega), shl_at hl, this]
  show Option.bind (Option.bind (Option.bind (some (((oddS l).1 : Int), (0 : Int), (oddS l).2)) _) _) _ = _
  simp only [Option.bind_some]
  cases hb' : (oddS l).2 <;> simp [hm]
theorem r_own {fu : Nat} (hf : 1000 ≤ fu) {l : List Pai} (hl : l.length < 9) (B : List Int) (b : Bool) (s : Nat) : r9_Odd_L2 fu l B b (s : Int) fu [] 0 = some (B, own l.length s) := by
  have := r_mem2 (fu := fu) (l := l) (by omega) B b s fu 0 [] (by omega) (by omega) (by simp)
  rw [show ((0 : Nat) : Int) = 0 from rfl, Nat.sub_zero, List.nil_append] at this
  exact this
theorem r_fit {fu : Nat} (hf : 1000 ≤ fu) {l : List Pai} (hl : l.length < 9) (hs : ∀ e ∈ l, okPa e) (s : Nat) : ∃ a b, r9_Shifts fu l (own l.length s) = some (a, b, fitB l s) := by
  have ho := own_len l.length s
  refine ⟨(shR (inO (own l.length s)) l).1, (shR (inO (own l.length s)) l).2, (r_shifts hf (by omega) hs (by omega)).trans ?_⟩
  congr 3
  unfold fitB
  have e : shR (inO (own l.length s)) l = shR (hb s) l := shF_congr fun j h1 h2 => by
    unfold inO
    have := ownF_mem (s := s) (k := l.length) (i := 0) j (by omega) h2
    by_cases c : hb s j = true
    · rw [c]; exact decide_eq_true (this.2 c)
    · rw [show hb s j = false by simpa using c]; exact decide_eq_false fun h => c (this.1 h)
  rw [e]
  exact decide_eq_decide.2 (sh_same hs).symm
theorem r_odd_run {fu : Nat} (hf : 1000 ≤ fu) {l : List Pai} (hl : l.length < 9) (hs : ∀ e ∈ l, okPa e) : ∀ (n k s f : Nat) (ok : Bool), s + k = 2 ^ l.length → k < n → f < 2 ^ l.length → r9_Odd_L3 fu l n (own l.length f) ok (s : Int) = some (own l.length (bsF (fitB l) (own l.length) k s f ok).1)
  | 0, k, s, _, _, _, h, _ => by omega
  | n + 1, 0, s, f, ok, h1, _, _ => by
    rw [r9_Odd_L3, if_pos (by omega), shl_at hl, if_neg (by omega)]; rfl
  | n + 1, k + 1, s, f, ok, h1, h2, h3 => by
    have hp := pow_le hl
    have l1 := own_len l.length s
    have l2 := own_len l.length f
    have rec' := fun f ok h => r_odd_run hf hl hs n k (s + 1) f ok (by omega) (by omega) h
    obtain ⟨a, b, hfit⟩ := r_fit hf hl hs s
    rw [r9_Odd_L3, if_pos (by omega), shl_at hl, if_pos (by omega), r_own hf hl, Option.bind_some, wrapS (by omega), bsF]
    simp only [hfit, Option.bind_some]
    have yes : (ok = false ∨ prec (own l.length s) (own l.length f) = true) → (if fitB l s = true then r9_Odd_L3 fu l n (own l.length s) true ((s + 1 : Nat) : Int) else r9_Odd_L3 fu l n (own l.length f) ok ((s + 1 : Nat) : Int)) = some (own l.length (if fitB l s = true ∧ (ok = false ∨ prec (own l.length s) (own l.length f) = true) then bsF (fitB l) (own l.length) k (s + 1) s true else bsF (fitB l) (own l.length) k (s + 1) f ok).1) := fun hh => by
      by_cases c : fitB l s = true
      · rw [if_pos c, if_pos ⟨c, hh⟩]; exact rec' s true (by omega)
      · rw [if_neg c, if_neg (fun h => c h.1)]; exact rec' f ok h3
    have no : ¬ (ok = false ∨ prec (own l.length s) (own l.length f) = true) → r9_Odd_L3 fu l n (own l.length f) ok ((s + 1 : Nat) : Int) = some (own l.length (if fitB l s = true ∧ (ok = false ∨ prec (own l.length s) (own l.length f) = true) then bsF (fitB l) (own l.length) k (s + 1) s true else bsF (fitB l) (own l.length) k (s + 1) f ok).1) := fun hh => by
      rw [if_neg (fun h => hh h.2)]; exact rec' f ok h3
    cases ok with
    | false =>
      rw [if_neg Bool.false_ne_true]
      exact yes (.inl rfl)
    | true =>
      rw [if_pos rfl]
      by_cases c1 : (own l.length f).length < (own l.length s).length
      · rw [if_pos (by omega)]
        exact no fun h => by
          have := of_decide_eq_true (h.resolve_left Bool.noConfusion); omega
      · rw [if_neg (by omega)]
        by_cases c2 : (own l.length s).length = (own l.length f).length
        · rw [if_pos (by omega), r_before _ _ (by omega) (by omega), Option.bind_some]
          by_cases c3 : cmpL (own l.length s) (own l.length f) < 0
          · rw [decide_eq_true c3, if_pos rfl]
            exact yes (.inr (decide_eq_true (.inr ⟨c2, c3⟩)))
          · rw [decide_eq_false c3, if_neg Bool.false_ne_true]
            exact no fun h => by
              have := of_decide_eq_true (h.resolve_left Bool.noConfusion)
              rcases this with h | h
              · omega
              · exact c3 h.2
        · rw [if_neg (by omega)]
          exact yes (.inr (decide_eq_true (.inl (by omega))))
theorem r_odd {fu : Nat} (hf : 1000 ≤ fu) {l : List Pai} (hl : l.length < 9) (hs : ∀ e ∈ l, okPa e) : r9_Odd fu l = some (own l.length (oddS l).1) := by
  have hp := pow_le hl
  have := r_odd_run hf hl hs fu (2 ^ l.length) 0 0 false (by omega) (by omega) (odd_lt l |>.1 |> fun h => by omega)
  rw [show ((0 : Nat) : Int) = 0 from rfl, own_zero] at this
  unfold r9_Odd
  rw [this]; rfl
end Go.Proofs.YtidahkefillmeaaGreatDoor
