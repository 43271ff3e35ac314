/-
  Stations: the program's functions and the reference's, as Lean functions, say the same.
-/
import Derived.Test.YtidahkefillmeaaGreatDoorZIa
import Derived.Test.YtidahkefillmeaaGreatDoorZS9e
set_option linter.all false
namespace Go.Proofs.YtidahkefillmeaaGreatDoor
open Go Go.RowKit
theorem x_limit (a lo hi : Int) : u_LimitError a lo hi = some (limE a lo hi) := by
  unfold u_LimitError limE
  by_cases h1 : a < lo
  · rw [if_pos h1, if_pos (.inl h1)]
  · rw [if_neg h1]
    by_cases h2 : hi < a
    · rw [if_pos h2, if_pos (.inr h2)]
    · rw [if_neg h2, if_neg (by omega)]
theorem x_within (n lo hi : Int) : b_Within n lo hi = some (decide (lo ≤ n ∧ n ≤ hi)) := by
  unfold b_Within
  by_cases h1 : lo ≤ n
  · by_cases h2 : n ≤ hi
    · simp [h1, h2]
    · simp [h1, h2]
  · simp [h1]
theorem x_uwithin (n m : Int) (h : 0 ≤ m ∧ m ≤ 1000000) : u_Within n m = some (decide (-m ≤ n ∧ n ≤ m)) := by
  unfold u_Within
  rw [wrapB (by omega) (by omega)]
  by_cases h1 : 0 - m ≤ n
  · by_cases h2 : n ≤ m
    · rw [if_pos h1, if_pos h2, decide_eq_true (by omega)]
    · rw [if_pos h1, if_neg h2, decide_eq_false (by omega)]
  · rw [if_neg h1, decide_eq_false (by omega)]
theorem x_runF_first : ∀ (l : List Int) (i : Nat), runF (fun _ (e : Int) (_ : Unit) => if e = 0 then (.inr () : Int ⊕ Unit) else .inl e) l i () = if firstE l = 0 then .inr () else .inl (firstE l)
  | [], _ => rfl
  | a :: r, i => by
    unfold runF firstE
    by_cases ha : a = 0
    · simp only [ha, if_true]; exact x_runF_first r (i + 1)
    · simp only [ha, if_false]
theorem x_first (fu : Nat) (l : List Int) (h : l.length < fu) (hl : l.length < 4611686018427387904) : u_FirstError fu l = some (firstE l) := by
  have := loop_run l (fun n i _ => u_FirstError_L1 fu l (l.length : Int) n (i : Int)) (fun _ (e : Int) (_ : Unit) => if e = 0 then (.inr () : Int ⊕ Unit) else .inl e) id
    (fun n s => by rw [u_FirstError_L1, if_neg (by omega)]; rfl)
    (fun n i e s he => by
      obtain ⟨h1, h2, h3⟩ := idx he
      rw [u_FirstError_L1, if_pos h1, if_pos h2, if_pos h1, h3, Option.bind_some]
      by_cases h0 : e = 0
      · simp only [h0, if_true]; rw [wrapS (by omega)]
      · simp only [h0, if_false]; rfl) fu 0 () (by omega) (by omega)
  unfold u_FirstError
  rw [show ((0 : Nat) : Int) = 0 from rfl] at this
  rw [this, List.drop_zero, x_runF_first, Option.bind_some]
  by_cases h0 : firstE l = 0
  · simp [h0]
  · simp [h0]
def fstF {α : Type} (f : α → Int) : List α → Int
  | [] => 0
  | e :: r => if f e = 0 then fstF f r else f e
theorem fb_run {α τ : Type} (l : List α) (L : Nat → Nat → Option τ) (pr : τ → Int) (f : α → Int)
    (hend : ∀ n, ∃ o, L (n + 1) l.length = some o ∧ pr o = 0)
    (hstep : ∀ n i e, l[i]? = some e → (f e = 0 ∧ L (n + 1) i = L n (i + 1)) ∨ (f e ≠ 0 ∧ ∃ o, L (n + 1) i = some o ∧ pr o = f e)) :
    ∀ n i, i ≤ l.length → l.length - i < n → ∃ o, L n i = some o ∧ pr o = fstF f (l.drop i)
  | 0, i, _, h => by omega
  | n + 1, i, hi, h => by
    rcases Nat.lt_or_ge i l.length with h1 | h1
    · have he : l[i]? = some l[i] := List.getElem?_eq_getElem h1
      rw [List.drop_eq_getElem_cons h1, fstF]
      rcases hstep n i _ he with ⟨c, e⟩ | ⟨c, o, e, p⟩
      · rw [e, if_pos c]; exact fb_run l L pr f hend hstep n (i + 1) (by omega) (by omega)
      · rw [if_neg c]; exact ⟨o, e, p⟩
    · have : i = l.length := by omega
      subst this
      rw [List.drop_of_length_le (Nat.le_refl _)]
      exact hend n
def inE (m : Int) (l : List Int) : Int := fstF (fun x => if -m ≤ x ∧ x ≤ m then 0 else 2) l
theorem x_size (fu : Nat) (m : Int) (hm : 0 ≤ m ∧ m ≤ 1000000) (l : List Int) (h : l.length < fu) (hl : l.length < 4611686018427387904) : u_SizeError fu m l = some (inE m l) := by
  obtain ⟨o, e1, e2⟩ := fb_run l (fun n i => u_SizeError_L1 fu l m (l.length : Int) n (i : Int)) (Sum.elim (fun _ => 2) (fun _ => 0)) (fun x => if -m ≤ x ∧ x ≤ m then 0 else 2)
    (fun n => ⟨.inr (), by rw [u_SizeError_L1, if_neg (by omega)], rfl⟩)
    (fun n i e he => by
      obtain ⟨h1, h2, h3⟩ := idx he
      rw [u_SizeError_L1, if_pos h1, if_pos h2, if_pos h1, h3, Option.bind_some, x_uwithin _ _ hm, Option.bind_some]
      by_cases c : -m ≤ e ∧ e ≤ m
      · rw [decide_eq_true c, if_pos rfl, wrapS (by omega), if_pos c]; exact .inl ⟨rfl, rfl⟩
      · rw [decide_eq_false c, if_neg Bool.false_ne_true, if_neg c]; exact .inr ⟨by omega, _, rfl, rfl⟩) fu 0 (by omega) (by omega)
  rw [show ((0 : Nat) : Int) = 0 from rfl] at e1
  rw [List.drop_zero] at e2
  unfold u_SizeError inE
  rw [e1, ← e2]
  cases o <;> rfl
theorem x_order (a b : Int) : u_OrderError a b = some (if b < a then 9 else 0) := by
  unfold u_OrderError; split <;> rfl
/-! ### Stations -/
abbrev Sta := Int × Int × Int × Int × Int
def okH (n : Int) : Prop := -10000 ≤ n ∧ n ≤ 10000
instance (n : Int) : Decidable (okH n) := by unfold okH; exact inferInstance
def okP (n : Int) : Prop := 0 ≤ n ∧ n ≤ 100000
instance (n : Int) : Decidable (okP n) := by unfold okP; exact inferInstance
def stE (e : Sta) : Int := if okP e.1 ∧ okH e.2.1 ∧ okH e.2.2.1 ∧ okH e.2.2.2.1 ∧ okH e.2.2.2.2 then (if e.2.2.1 < e.2.1 then 9 else if e.2.2.2.2 < e.2.2.2.1 then 9 else 0) else 2
theorem in4 (a b c d : Int) : inE 10000 [a, b, c, d] = if okH a ∧ okH b ∧ okH c ∧ okH d then 0 else 2 := by
  unfold inE okH
  simp only [fstF]
  by_cases h1 : -10000 ≤ a ∧ a ≤ 10000
  · by_cases h2 : -10000 ≤ b ∧ b ≤ 10000
    · by_cases h3 : -10000 ≤ c ∧ c ≤ 10000
      · by_cases h4 : -10000 ≤ d ∧ d ≤ 10000 <;> simp [h1, h2, h3, h4]
      · simp [h1, h2, h3]
    · simp [h1, h2]
  · simp [h1]
theorem limP (n : Int) : limE n 0 100000 = if okP n then 0 else 2 := by
  by_cases h : okP n
  · rw [if_pos h]; exact limE_zero.2 h
  · rw [if_neg h]; exact limE_two h
theorem p_sta {fu : Nat} (hf : 10 ≤ fu) (e : Sta) : sv_stationError fu e.1 e.2.1 e.2.2.1 e.2.2.2.1 e.2.2.2.2 = some (stE e) := by
  unfold sv_stationError stE
  rw [x_limit, Option.bind_some, x_size fu _ (by omega) _ (by simp; omega) (by simp), Option.bind_some, x_order, Option.bind_some, x_order, Option.bind_some, x_first fu _ (by simp; omega) (by simp), Option.bind_some, limP, in4]
  congr 1
  by_cases c0 : okP e.1
  · by_cases c1 : okH e.2.1 ∧ okH e.2.2.1 ∧ okH e.2.2.2.1 ∧ okH e.2.2.2.2
    · have cc : okP e.1 ∧ okH e.2.1 ∧ okH e.2.2.1 ∧ okH e.2.2.2.1 ∧ okH e.2.2.2.2 := ⟨c0, c1⟩
      rw [if_pos c0, if_pos c1, if_pos cc]
      by_cases c2 : e.2.2.1 < e.2.1
      · simp [firstE, c2]
      · by_cases c3 : e.2.2.2.2 < e.2.2.2.1 <;> simp [firstE, c2, c3]
    · have cc : ¬ (okP e.1 ∧ okH e.2.1 ∧ okH e.2.2.1 ∧ okH e.2.2.2.1 ∧ okH e.2.2.2.2) := fun h => c1 h.2
      rw [if_pos c0, if_neg c1, if_neg cc]; simp [firstE]
  · have cc : ¬ (okP e.1 ∧ okH e.2.1 ∧ okH e.2.2.1 ∧ okH e.2.2.2.1 ∧ okH e.2.2.2.2) := fun h => c0 h.1
    rw [if_neg c0, if_neg cc]; simp [firstE]
theorem r_isAt (n : Int) : r9_isAt n = some (decide (okP n)) := by
  unfold r9_isAt okP
  rw [x_within, Option.bind_some]
  by_cases c : 0 ≤ n ∧ n ≤ 100000
  · rw [decide_eq_true c, if_pos rfl]
  · rw [decide_eq_false c]; rfl
theorem r_isHeight (n : Int) : r9_isHeight n = some (decide (okH n)) := by
  unfold r9_isHeight okH
  rw [x_within, Option.bind_some]
  by_cases c : -10000 ≤ n ∧ n ≤ 10000
  · rw [decide_eq_true c, if_pos rfl]
  · rw [decide_eq_false c]; rfl
theorem r_sta (e : Sta) : r9_StationErr e.1 e.2.1 e.2.2.1 e.2.2.2.1 e.2.2.2.2 = some (stE e) := by
  unfold r9_StationErr r9_HeightErr stE
  simp only [r_isAt, r_isHeight, Option.bind_some, decide_eq_true_eq]
  by_cases c0 : okP e.1
  · by_cases c1 : okH e.2.1
    · by_cases c2 : okH e.2.2.1
      · by_cases c3 : okH e.2.2.2.1
        · by_cases c4 : okH e.2.2.2.2
          · simp only [c0, c1, c2, c3, c4, and_self, if_true]
            (repeat' split) <;> rfl
          · simp [c0, c1, c2, c3, c4]
        · simp [c0, c1, c2, c3]
      · simp [c0, c1, c2]
    · simp [c0, c1]
  · simp [c0]
def seE (b : Bool) (x : Int) (e : Sta) : Int := if stE e = 0 then (if b = true ∨ x < e.1 then 0 else 9) else stE e
def chS (b : Bool) (x : Int) : List Sta → Int → Int × Int
  | [], _ => (0, 0)
  | e :: r, i => if seE b x e = 0 then chS false e.1 r (i + 1) else (i, seE b x e)
theorem p_rise (a : Int) (b : Bool) (x : Int) : u_RisingErrors_1 a b x = some (if b = true ∨ x < a then 0 else 9, false, a) := by
  unfold u_RisingErrors_1
  by_cases h1 : b = true
  · rw [if_pos h1, if_pos (.inl h1)]
  · rw [if_neg h1]
    by_cases h2 : x < a
    · rw [if_pos h2, if_pos (.inr h2)]
    · rw [if_neg h2, if_neg (by simp_all)]
theorem p_chk1 {fu : Nat} (hf : 10 ≤ fu) (e : Sta) (b : Bool) (x : Int) : sv_CheckStations_1 fu e.1 e.2.1 e.2.2.1 e.2.2.2.1 e.2.2.2.2 b x = some (seE b x e, false, e.1) := by
  unfold sv_CheckStations_1 seE
  rw [p_sta hf, Option.bind_some, p_rise, Option.bind_some, x_first fu _ (by simp; omega) (by simp), Option.bind_some]
  congr 2
  simp only [firstE]
  (repeat' split) <;> first | rfl | omega
def prB : (Bool × Int × Int × Int) ⊕ (Bool × Int) → Int × Int
  | .inl y => (y.2.2.1, y.2.2.2)
  | .inr _ => (0, 0)
theorem p_fb {fu : Nat} (hf : 10 ≤ fu) (l : List Sta) (hl : l.length < 1000000) : ∀ (n i : Nat) (b : Bool) (x : Int), i ≤ l.length → l.length - i < n → ∃ o, u_FirstBad_SurveyStation_CheckStations_1_L1 fu l (l.length : Int) n b x (i : Int) = some o ∧ prB o = chS b x (l.drop i) (i : Int)
  | 0, i, _, _, _, h => by omega
  | n + 1, i, b, x, hi, h => by
    rcases Nat.lt_or_ge i l.length with h1 | h1
    · have he : l[i]? = some l[i] := List.getElem?_eq_getElem h1
      obtain ⟨g1, g2, g3⟩ := idx he
      rw [List.drop_eq_getElem_cons h1, chS, u_FirstBad_SurveyStation_CheckStations_1_L1, if_pos g1, if_pos g2, if_pos g1, g3, Option.bind_some, p_chk1 hf, Option.bind_some]
      by_cases c : seE b x l[i] = 0
      · rw [if_pos c, if_pos c, wrapS (by omega)]
        have := p_fb hf l hl n (i + 1) false l[i].1 (by omega) (by omega)
        simpa using this
      · rw [if_neg c, if_neg c]; exact ⟨_, rfl, rfl⟩
    · have : i = l.length := by omega
      subst this
      rw [u_FirstBad_SurveyStation_CheckStations_1_L1, if_neg (by omega), List.drop_of_length_le (Nat.le_refl _)]
      exact ⟨_, rfl, rfl⟩
def ckS (l : List Sta) : Int × Int := if (20 : Int) < (l.length : Int) then (0, 8) else chS true 0 l 0
theorem p_check {fu : Nat} (hf : 1000 ≤ fu) (l : List Sta) (hl : l.length < 500) : sv_CheckStations fu l = some (ckS l) := by
  unfold sv_CheckStations u_CheckList_SurveyStation_CheckStations_1 u_FirstBad_SurveyStation_CheckStations_1 ckS
  rw [if_neg (by omega)]
  by_cases h0 : (20 : Int) < (l.length : Int)
  · rw [if_pos h0, if_pos h0]; rfl
  · rw [if_neg h0, if_neg h0]
    obtain ⟨o, e1, e2⟩ := p_fb (fu := fu) (by omega) l (by omega) fu 0 true 0 (by omega) (by omega)
    rw [show ((0 : Nat) : Int) = 0 from rfl, List.drop_zero] at e2
    rw [show ((0 : Nat) : Int) = 0 from rfl] at e1
    rw [e1, ← e2]
    cases o <;> rfl
theorem p_stations {fu : Nat} (hf : 1000 ≤ fu) (l : List Sta) (hl : l.length < 500) : sv_stationsError fu l = some (ckS l).2 := by
  unfold sv_stationsError
  rw [p_check hf l hl]; rfl
def okSt (e : Sta) : Prop := okP e.1 ∧ okH e.2.1 ∧ okH e.2.2.1 ∧ okH e.2.2.2.1 ∧ okH e.2.2.2.2 ∧ e.2.1 ≤ e.2.2.1 ∧ e.2.2.2.1 ≤ e.2.2.2.2
theorem stE_ok {e : Sta} (h : stE e = 0) : okSt e := by
  unfold stE at h
  unfold okSt
  (repeat' split at h) <;> first | omega | (rename_i c d f; obtain ⟨c1, c2, c3, c4, c5⟩ := c; exact ⟨c1, c2, c3, c4, c5, by omega, by omega⟩)
theorem chS_ok : ∀ {l : List Sta} {b : Bool} {x i : Int}, (chS b x l i).2 = 0 → ∀ e ∈ l, okSt e ∧ (b = true ∨ x < e.1)
  | [], _, _, _, _, e, he => by cases he
  | a :: r, b, x, i, h, e, he => by
    unfold chS at h
    by_cases c : seE b x a = 0
    · rw [if_pos c] at h
      have hs : stE a = 0 ∧ (b = true ∨ x < a.1) := by
        unfold seE at c
        by_cases d : stE a = 0
        · rw [if_pos d] at c
          by_cases f : b = true ∨ x < a.1
          · exact ⟨d, f⟩
          · rw [if_neg f] at c; omega
        · rw [if_neg d] at c; exact absurd c d
      rcases List.mem_cons.1 he with rfl | he
      · exact ⟨stE_ok hs.1, hs.2⟩
      · obtain ⟨h1, h2⟩ := chS_ok h e he
        refine ⟨h1, ?_⟩
        rcases h2 with h2 | h2
        · cases h2
        · rcases hs.2 with h3 | h3
          · exact .inl h3
          · exact .inr (by omega)
    · rw [if_neg c] at h; exact absurd h c
/-! ### Burials and gaps -/
theorem okH_at {n : Int} (h : okH n) : -10000 ≤ n ∧ n ≤ 10000 := h
end Go.Proofs.YtidahkefillmeaaGreatDoor
