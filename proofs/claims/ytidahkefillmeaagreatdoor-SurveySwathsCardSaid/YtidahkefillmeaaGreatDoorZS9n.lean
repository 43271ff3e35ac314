/-
  SurveySwaths is true.
-/
import Derived.Test.YtidahkefillmeaaGreatDoorZS9g
import Derived.Test.YtidahkefillmeaaGreatDoorZS9Sw
set_option linter.all false
namespace Go.Proofs.YtidahkefillmeaaGreatDoor
open Go Go.RowKit
def swE (r : Ran) : Int := if okP r.1 ∧ okP r.2 then (if r.2 < r.1 then 9 else 0) else 2
theorem r_swath (r : Ran) : r9_SwathErr r.1 r.2 = some (swE r) := by
  unfold r9_SwathErr swE
  simp only [r_isAt, Option.bind_some, decide_eq_true_eq]
  by_cases c0 : okP r.1
  · by_cases c1 : okP r.2
    · simp only [c0, c1, and_self, if_true]
      split <;> rfl
    · simp [c0, c1]
  · simp [c0]
theorem p_limits (fu : Nat) (lo hi : Int) (l : List Int) (h : l.length < fu) (hl : l.length < 4611686018427387904) : u_LimitsError fu lo hi l = some (fstF (fun x => limE x lo hi) l) := by
  obtain ⟨o, e1, e2⟩ := fb_run l (fun n i => u_FirstBad_int_LimitsError_1_L1 fu l lo hi (l.length : Int) n (i : Int)) (Sum.elim (fun y => y.2) (fun _ => 0)) (fun x => limE x lo hi)
    (fun n => ⟨.inr (), by rw [u_FirstBad_int_LimitsError_1_L1, if_neg (by omega)], rfl⟩)
    (fun n i e he => by
      obtain ⟨h1, h2, h3⟩ := idx he
      rw [u_FirstBad_int_LimitsError_1_L1, if_pos h1, if_pos h2, if_pos h1, h3, Option.bind_some, u_LimitsError_1, x_limit, Option.bind_some, Option.bind_some]
      by_cases c : limE e lo hi = 0
      · rw [if_pos c, wrapS (by omega)]; exact .inl ⟨c, rfl⟩
      · rw [if_neg c]; exact .inr ⟨c, _, rfl, rfl⟩) fu 0 (by omega) (by omega)
  rw [show ((0 : Nat) : Int) = 0 from rfl] at e1
  rw [List.drop_zero] at e2
  unfold u_LimitsError u_FirstBad_int_LimitsError_1
  rw [e1, ← e2]
  cases o <;> rfl
theorem p_swath {fu : Nat} (hf : 100 ≤ fu) (r : Ran) : sv_swathError fu r.1 r.2 = some (swE r) := by
  unfold sv_swathError swE
  rw [p_limits fu _ _ _ (by simp; omega) (by simp), Option.bind_some, x_order, Option.bind_some, x_first fu _ (by simp; omega) (by simp), Option.bind_some]
  congr 1
  simp only [fstF, limP]
  by_cases c0 : okP r.1
  · by_cases c1 : okP r.2
    · by_cases c2 : r.2 < r.1 <;> simp [c0, c1, c2, firstE]
    · simp [c0, c1, firstE]
  · simp [c0, firstE]
def swL (l : List Ran) : Int := if (12 : Int) < (l.length : Int) then 8 else fstF swE l
def swA (l : List Ran) (lo hi need : Int) : Int := firstE [swL l, swE (lo, hi), limE need 1 12]
theorem p_list {fu : Nat} (hf : 1000 ≤ fu) (l : List Ran) (hl : l.length < 500) : ∃ i, u_CheckList_Range_swathError fu l 0 12 = some (i, swL l) := by
  unfold u_CheckList_Range_swathError u_FirstBad_Range_swathError swL
  rw [if_neg (by omega)]
  by_cases h0 : (12 : Int) < (l.length : Int)
  · rw [if_pos h0, if_pos h0]; exact ⟨_, rfl⟩
  · rw [if_neg h0, if_neg h0]
    obtain ⟨o, e1, e2⟩ := fb_run l (fun n i => u_FirstBad_Range_swathError_L1 fu l (l.length : Int) n (i : Int)) (Sum.elim (fun y => y.2) (fun _ => 0)) swE
      (fun n => ⟨.inr (), by rw [u_FirstBad_Range_swathError_L1, if_neg (by omega)], rfl⟩)
      (fun n i e he => by
        obtain ⟨h1, h2, h3⟩ := idx he
        rw [u_FirstBad_Range_swathError_L1, if_pos h1, if_pos h2, if_pos h1, h3, Option.bind_some, p_swath (by omega), Option.bind_some]
        by_cases c : swE e = 0
        · rw [if_pos c, wrapS (by have := (List.getElem?_eq_some_iff.1 he).1; omega)]; exact .inl ⟨c, rfl⟩
        · rw [if_neg c]; exact .inr ⟨c, _, rfl, rfl⟩) fu 0 (by omega) (by omega)
    rw [show ((0 : Nat) : Int) = 0 from rfl] at e1
    rw [List.drop_zero] at e2
    rw [e1, ← e2]
    cases o <;> exact ⟨_, rfl⟩
theorem r_swaths {fu : Nat} (hf : 1000 ≤ fu) (l : List Ran) (hl : l.length < 500) (lo hi need : Int) : r9_SwathsErr fu l lo hi need = some (swA l lo hi need) := by
  unfold r9_SwathsErr swA swL
  by_cases h0 : (12 : Int) < (l.length : Int)
  · rw [if_pos h0, if_pos h0]; rfl
  · rw [if_neg h0, if_neg h0]
    obtain ⟨o, e1, e2⟩ := fb_run l (fun n i => r9_SwathsErr_L1 fu l need lo hi n (i : Int)) (Sum.elim id (fun _ => 0)) swE
      (fun n => ⟨.inr (), by rw [r9_SwathsErr_L1, if_neg (by omega)], rfl⟩)
      (fun n i e he => by
        obtain ⟨h1, h2, h3⟩ := idx he
        rw [r9_SwathsErr_L1, if_pos h1, if_pos h2, h3, Option.bind_some, r_swath, Option.bind_some]
        by_cases c : swE e = 0
        · rw [if_pos c, wrapS (by have := (List.getElem?_eq_some_iff.1 he).1; omega)]; exact .inl ⟨c, rfl⟩
        · rw [if_neg c]; exact .inr ⟨c, _, rfl, rfl⟩) fu 0 (by omega) (by omega)
    rw [show ((0 : Nat) : Int) = 0 from rfl] at e1
    rw [List.drop_zero] at e2
    have hsp : r9_SwathErr lo hi = some (swE (lo, hi)) := r_swath (lo, hi)
    have hnz : ∀ y, o = .inl y → y ≠ 0 := by
      intro y hy
      have hgen : ∀ (n i : Nat) (y : Int), i ≤ l.length → r9_SwathsErr_L1 fu l need lo hi n (i : Int) = some (.inl y) → y ≠ 0 := by
        intro n
        induction n with
        | zero => intro i y _ h; cases h
        | succ n ih =>
          intro i y hi h
          rcases Nat.lt_or_ge i l.length with h1 | h1
          · have he : l[i]? = some l[i] := List.getElem?_eq_getElem h1
            obtain ⟨g1, g2, g3⟩ := idx he
            rw [r9_SwathsErr_L1, if_pos g1, if_pos g2, g3, Option.bind_some, r_swath, Option.bind_some] at h
            by_cases c : swE l[i] = 0
            · rw [if_pos c, wrapS (by omega)] at h; exact ih (i + 1) y (by omega) h
            · rw [if_neg c] at h
              have := Sum.inl.inj (Option.some.inj h)
              subst this; exact c
          · rw [r9_SwathsErr_L1, if_neg (by omega)] at h; cases Option.some.inj h
      exact hgen fu 0 y (by omega) (by rw [show ((0 : Nat) : Int) = 0 from rfl, e1, hy])
    rw [e1, Option.bind_some, hsp, ← e2]
    cases o with
    | inl y =>
      have := hnz y rfl
      show some y = _
      simp only [Sum.elim_inl, id, firstE, this, if_false]
    | inr _ =>
      simp only [Sum.elim_inr, firstE, if_true, Option.bind_some, x_within]
      by_cases c : swE (lo, hi) = 0
      · rw [if_pos c, if_pos c]
        by_cases d : 1 ≤ need ∧ need ≤ 12
        · rw [decide_eq_true d, if_pos rfl, limE_zero.2 d, if_pos rfl]
        · rw [decide_eq_false d, if_neg Bool.false_ne_true, limE_two d, if_neg (by omega)]
      · rw [if_neg c, if_neg c]
def cov (x : Int) : List Ran → Nat
  | [] => 0
  | e :: r => (if e.1 ≤ x ∧ x ≤ e.2 then 1 else 0) + cov x r
theorem cov_app (x : Int) (e : Ran) : ∀ l : List Ran, cov x l ≤ cov x (l ++ [e])
  | [] => Nat.zero_le _
  | a :: r => by have := cov_app x e r; simp only [List.cons_append, cov]; omega
theorem p_cov {fu : Nat} (l : List Ran) (hl : l.length < 500) (x : Int) : ∀ (n i c : Nat), i ≤ l.length → l.length - i < n → c ≤ i → sv_coverage_L1 fu l x (l.length : Int) n (c : Int) (i : Int) = some (((c + cov x (l.drop i) : Nat) : Int))
  | 0, i, _, _, h, _ => by omega
  | n + 1, i, c, hi, h, hc => by
    rcases Nat.lt_or_ge i l.length with h1 | h1
    · have he : l[i]? = some l[i] := List.getElem?_eq_getElem h1
      obtain ⟨g1, g2, g3⟩ := idx he
      rw [List.drop_eq_getElem_cons h1, cov, sv_coverage_L1, if_pos g1, if_pos g2, if_pos g1, g3, Option.bind_some, wrapS (by omega), wrapS (by omega)]
      by_cases c1 : l[i].1 ≤ x
      · rw [if_pos c1]
        by_cases c2 : x ≤ l[i].2
        · rw [if_pos c2, if_pos ⟨c1, c2⟩, p_cov l hl x n (i + 1) (c + 1) (by omega) (by omega) (by omega), Nat.add_assoc]
        · rw [if_neg c2, if_neg (fun h => c2 h.2), p_cov l hl x n (i + 1) c (by omega) (by omega) (by omega), Nat.zero_add]
      · rw [if_neg c1, if_neg (fun h => c1 h.1), p_cov l hl x n (i + 1) c (by omega) (by omega) (by omega), Nat.zero_add]
    · have : i = l.length := by omega
      subst this
      rw [sv_coverage_L1, if_neg (by omega), List.drop_of_length_le (Nat.le_refl _)]; rfl
theorem r_cov {fu : Nat} (l : List Ran) (hl : l.length < 500) (x : Int) : ∀ (n i c : Nat), i ≤ l.length → l.length - i < n → c ≤ i → r9_Covered_L1 fu l x n (c : Int) (i : Int) = some (((c + cov x (l.drop i) : Nat) : Int))
  | 0, i, _, _, h, _ => by omega
  | n + 1, i, c, hi, h, hc => by
    rcases Nat.lt_or_ge i l.length with h1 | h1
    · have he : l[i]? = some l[i] := List.getElem?_eq_getElem h1
      obtain ⟨g1, g2, g3⟩ := idx he
      rw [List.drop_eq_getElem_cons h1, cov, r9_Covered_L1, if_pos g1, if_pos g2, g3, Option.bind_some, x_within, Option.bind_some, wrapS (by omega), wrapS (by omega)]
      by_cases c1 : l[i].1 ≤ x ∧ x ≤ l[i].2
      · rw [decide_eq_true c1, if_pos rfl, if_pos c1, r_cov l hl x n (i + 1) (c + 1) (by omega) (by omega) (by omega), Nat.add_assoc]
      · rw [decide_eq_false c1, if_neg Bool.false_ne_true, if_neg c1, r_cov l hl x n (i + 1) c (by omega) (by omega) (by omega), Nat.zero_add]
    · have : i = l.length := by omega
      subst this
      rw [r9_Covered_L1, if_neg (by omega), List.drop_of_length_le (Nat.le_refl _)]; rfl
def gG (l : List Ran) (need x : Int) : Bool := decide ((cov x l : Int) < need)
theorem p_open {fu : Nat} (hf : 1000 ≤ fu) {l : List Ran} (hl : l.length < 500) (need x : Int) : sv_GapsIn_1 fu x l need = some (gG l need x) := by
  have := p_cov (fu := fu) l hl x fu 0 0 (by omega) (by omega) (by omega)
  rw [show ((0 : Nat) : Int) = 0 from rfl, List.drop_zero, Nat.zero_add] at this
  unfold sv_GapsIn_1 sv_coverage gG
  rw [this]
  simp only [Option.bind_some]
  split <;> simp_all
def gpS (l : List Ran) (lo hi need : Int) : List Ran := stR (gG l need) (hi + 1 - lo).toNat lo []
theorem gpS_len (l : List Ran) (lo hi need : Int) : (gpS l lo hi need).length ≤ (hi + 1 - lo).toNat := by
  have := stR_len (gG l need) (hi + 1 - lo).toNat lo []
  simpa [gpS] using this
theorem p_stg {fu : Nat} (hf : 1000 ≤ fu) {l : List Ran} (hl : l.length < 500) {lo hi : Int} (h0 : 0 ≤ lo ∧ lo ≤ hi ∧ hi ≤ 100000) (h1 : hi - lo ≤ 300) (need : Int) : u_Stretches_GapsIn_1 fu lo hi l need = some (gpS l lo hi need) := by
  have := p_runs (gG l need) lo hi (u_Stretches_GapsIn_1_L1 fu l need lo hi)
    (fun n A s => by rw [u_Stretches_GapsIn_1_L1, wrapB (by omega) (by omega), if_neg (by omega)])
    (fun n A s i h0 h1 h2 h3 => by
      rw [u_Stretches_GapsIn_1_L1, wrapB (x := hi + 1) (by omega) (by omega), if_pos (by omega), if_pos h2, p_open hf hl, Option.bind_some, if_pos h3, wrapB (by omega) (by omega)])
    (fun n A s i h0 h1 h2 h3 h4 => by
      rw [u_Stretches_GapsIn_1_L1, wrapB (x := hi + 1) (by omega) (by omega), if_pos (by omega)]
      by_cases c : i ≤ hi
      · rw [if_pos c, p_open hf hl, Option.bind_some, h3 c, if_neg Bool.false_ne_true]
        exact tail_eq A s i h4 (by omega) (fun A s i => u_Stretches_GapsIn_1_L1 fu l need lo hi n A s i)
      · rw [if_neg c]
        exact tail_eq A s i h4 (by omega) (fun A s i => u_Stretches_GapsIn_1_L1 fu l need lo hi n A s i))
    (hi + 1 - lo).toNat fu [] lo lo (by omega) (by omega) (by omega) (by omega) trivial (by simp; omega)
  unfold u_Stretches_GapsIn_1
  rw [this, Option.bind_some]
  unfold tailR gpS
  rw [if_neg (Int.lt_irrefl _), List.append_nil]
theorem r_gaps {fu : Nat} (hf : 1000 ≤ fu) {l : List Ran} (hl : l.length < 500) {lo hi : Int} (h0 : 0 ≤ lo ∧ lo ≤ hi ∧ hi ≤ 100000) (h1 : hi - lo ≤ 300) (need : Int) : r9_Gaps fu l lo hi need = some (gpS l lo hi need) := by
  have hcov : ∀ x, r9_Covered fu l x = some (cov x l : Int) := fun x => by
    have := r_cov (fu := fu) l hl x fu 0 0 (by omega) (by omega) (by omega)
    rw [show ((0 : Nat) : Int) = 0 from rfl, List.drop_zero, Nat.zero_add] at this
    unfold r9_Covered
    rw [this]; rfl
  have := r_runs (gG l need) lo hi (r9_Gaps_L1 fu l need lo hi)
    (fun n A => by rw [r9_Gaps_L1, if_neg (by omega)])
    (fun n A j h0 h1 h2 => by
      rw [r9_Gaps_L1, if_pos h1, hcov, Option.bind_some]
      have st := ext_step A j h2 (by omega) (fun A => r9_Gaps_L1 fu l need lo hi n A (IntKind.wrap .i64 (j + (1 : Int))))
      have hw : IntKind.wrap .i64 (j + 1) = j + 1 := wrapB (by omega) (by omega)
      unfold gG
      by_cases c : need ≤ (cov j l : Int)
      · rw [if_pos c, hw, decide_eq_false (by omega), if_neg Bool.false_ne_true]
      · rw [if_neg c, decide_eq_true (by omega), if_pos rfl]; exact st.trans (congrArg (r9_Gaps_L1 fu l need lo hi n (ext j A)) hw))
    (hi + 1 - lo).toNat fu [] lo (by omega) (by omega) (by omega) (by simp; omega)
  unfold r9_Gaps
  rw [this]; rfl
theorem swE_ok {r : Ran} (h : swE r = 0) : 0 ≤ r.1 ∧ r.1 ≤ r.2 ∧ r.2 ≤ 100000 := by
  unfold swE at h
  split at h
  · rename_i c
    have c1 : 0 ≤ r.1 ∧ r.1 ≤ 100000 := c.1
    have c2 : 0 ≤ r.2 ∧ r.2 ≤ 100000 := c.2
    split at h <;> omega
  · omega
theorem swA_ok {l : List Ran} {lo hi need : Int} (h : swA l lo hi need = 0) : l.length ≤ 12 ∧ fstF swE l = 0 ∧ swE (lo, hi) = 0 ∧ 1 ≤ need ∧ need ≤ 12 := by
  unfold swA at h
  simp only [firstE] at h
  by_cases c : swL l = 0
  · rw [if_pos c] at h
    by_cases d : swE (lo, hi) = 0
    · rw [if_pos d] at h
      by_cases e : limE need 1 12 = 0
      · have := limE_zero.1 e
        unfold swL at c
        split at c
        · cases c
        · exact ⟨by omega, c, d, this.1, this.2⟩
      · rw [if_neg e] at h; exact absurd h e
    · rw [if_neg d] at h; exact absurd h d
  · rw [if_neg c] at h; exact absurd h c
theorem swA_of {l : List Ran} {lo hi need : Int} (h1 : l.length ≤ 12) (h2 : fstF swE l = 0) (h3 : swE (lo, hi) = 0) (h4 : 1 ≤ need ∧ need ≤ 12) : swA l lo hi need = 0 := by
  unfold swA swL
  rw [if_neg (by omega), h2, h3, limE_zero.2 h4]; rfl
theorem p_gaps {fu : Nat} (hf : 1000 ≤ fu) {l : List Ran} (hl : l.length < 500) {lo hi : Int} (h1 : swE (lo, hi) = 0 → hi - lo ≤ 300) (need : Int) : sv_GapsIn fu l lo hi need = some (if swA l lo hi need = 0 then (gpS l lo hi need, 0) else ([], swA l lo hi need)) := by
  unfold sv_GapsIn
  obtain ⟨i, hi'⟩ := p_list hf l hl
  have hsp : sv_swathError fu lo hi = some (swE (lo, hi)) := p_swath (by omega) (lo, hi)
  rw [hi', Option.bind_some, hsp, Option.bind_some, x_limit, Option.bind_some, x_first fu _ (by simp; omega) (by simp), Option.bind_some]
  show (if swA l lo hi need = 0 then _ else _) = _
  by_cases c : swA l lo hi need = 0
  · obtain ⟨_, _, k3, _⟩ := swA_ok c
    rw [if_pos c, if_pos c, p_stg hf hl (swE_ok k3) (h1 k3)]; rfl
  · rw [if_neg c, if_neg c]; rfl
/-! ### The theorem of the chapter -/
theorem gp_good {lo hi : Int} (h0 : lo ≤ hi) (l : List Ran) (need : Int) : good (hi + 1) (gpS l lo hi need) ∧ ∀ j, mem j (gpS l lo hi need) ↔ (lo ≤ j ∧ j ≤ hi ∧ gG l need j = true) := by
  obtain ⟨a, b⟩ := stR_good (gG l need) (hi + 1 - lo).toNat lo [] ⟨List.Pairwise.nil, fun r hr => by cases hr⟩
  refine ⟨?_, fun j => ?_⟩
  · rw [show lo + (((hi + 1 - lo).toNat : Nat) : Int) = hi + 1 by omega] at a; exact a
  · unfold gpS
    rw [b j]
    constructor
    · intro h
      have := h.resolve_left mem_nil
      exact ⟨this.1, by omega, this.2.2⟩
    · rintro ⟨a, b, c⟩
      exact .inr ⟨a, by omega, c⟩
theorem gp_in {lo hi : Int} (h0 : lo ≤ hi) {l l' : List Ran} {need need' : Int} (h : ∀ x, gG l need x = true → gG l' need' x = true) : ∀ r ∈ gpS l lo hi need, ∃ q ∈ gpS l' lo hi need', q.1 ≤ r.1 ∧ r.2 ≤ q.2 := by
  intro r hr
  obtain ⟨a, b⟩ := gp_good h0 l need
  obtain ⟨a', b'⟩ := gp_good h0 l' need'
  refine in_one a' (a.2 r hr).1 fun j h1 h2 => ?_
  obtain ⟨k1, k2, k3⟩ := (b j).1 ⟨r, hr, h1, h2⟩
  exact (b' j).2 ⟨k1, k2, h j k3⟩
theorem w_yes {fu : Nat} {A B : List Ran} (hB : B.length < 1000000) (i : Int) : ∀ (n k : Nat), k ≤ B.length → B.length - k < n → l9_within_L1 fu A B i n true (k : Int) = some true
  | 0, k, _, h => by omega
  | n + 1, k, hk, h => by
    rcases Nat.lt_or_ge k B.length with h1 | h1
    · rw [l9_within_L1, if_pos (by omega), if_pos rfl, wrapS (by omega)]
      exact w_yes hB i n (k + 1) (by omega) (by omega)
    · rw [l9_within_L1, if_neg (by omega)]
theorem w_one {fu : Nat} {A B : List Ran} (hB : B.length < 1000000) {i : Nat} {r : Ran} (hr : A[i]? = some r) : ∀ (n k : Nat), k ≤ B.length → B.length - k < n → (∃ q ∈ B.drop k, q.1 ≤ r.1 ∧ r.2 ≤ q.2) → l9_within_L1 fu A B (i : Int) n false (k : Int) = some true
  | 0, k, _, h, _ => by omega
  | n + 1, k, hk, h, hq => by
    rcases Nat.lt_or_ge k B.length with h1 | h1
    · have he : B[k]? = some B[k] := List.getElem?_eq_getElem h1
      obtain ⟨g1, g2, g3⟩ := idx he
      obtain ⟨f1, f2, f3⟩ := idx hr
      rw [l9_within_L1, if_pos g1, if_neg Bool.false_ne_true, if_pos g2, g3, Option.bind_some, if_pos f2, if_pos f1, f3, Option.bind_some, wrapS (by omega)]
      have more : ¬ (B[k].1 ≤ r.1 ∧ r.2 ≤ B[k].2) → l9_within_L1 fu A B (i : Int) n false ((k + 1 : Nat) : Int) = some true := fun c => by
        refine w_one hB hr n (k + 1) (by omega) (by omega) ?_
        obtain ⟨q, hq, h2⟩ := hq
        rw [List.drop_eq_getElem_cons h1] at hq
        rcases List.mem_cons.1 hq with rfl | hq
        · exact absurd h2 c
        · exact ⟨q, hq, h2⟩
      by_cases c1 : B[k].1 ≤ r.1
      · rw [if_pos c1]
        by_cases c2 : r.2 ≤ B[k].2
        · rw [if_pos c2]; exact w_yes hB _ n (k + 1) (by omega) (by omega)
        · rw [if_neg c2]; exact more fun h => c2 h.2
      · rw [if_neg c1]; exact more fun h => c1 h.1
    · obtain ⟨q, hq, _⟩ := hq
      rw [List.drop_of_length_le h1] at hq; cases hq
theorem w_all {fu : Nat} {A B : List Ran} (hA : A.length < 1000000) (hB : B.length < 1000000) (hf : B.length < fu) (h : ∀ r ∈ A, ∃ q ∈ B, q.1 ≤ r.1 ∧ r.2 ≤ q.2) : ∀ (n i : Nat), i ≤ A.length → A.length - i < n → l9_within_L2 fu A B n (i : Int) = some (.inr ())
  | 0, i, _, h => by omega
  | n + 1, i, hi, hn => by
    rcases Nat.lt_or_ge i A.length with h1 | h1
    · have he : A[i]? = some A[i] := List.getElem?_eq_getElem h1
      have := w_one (fu := fu) hB he fu 0 (by omega) (by omega) (by rw [List.drop_zero]; exact h _ (List.mem_of_getElem? he))
      rw [show ((0 : Nat) : Int) = 0 from rfl] at this
      rw [l9_within_L2, if_pos (by omega), this, Option.bind_some, if_pos rfl, wrapS (by omega)]
      exact w_all hA hB hf h n (i + 1) (by omega) (by omega)
    · rw [l9_within_L2, if_neg (by omega)]
theorem w_eq {fu : Nat} {A B : List Ran} (hA : A.length < 1000000) (hB : B.length < 1000000) (hf : B.length < fu) (hf' : A.length < fu) (h : ∀ r ∈ A, ∃ q ∈ B, q.1 ≤ r.1 ∧ r.2 ≤ q.2) : l9_within fu A B = some true := by
  have := w_all hA hB hf h fu 0 (by omega) (by omega)
  rw [show ((0 : Nat) : Int) = 0 from rfl] at this
  unfold l9_within
  rw [this]; rfl
theorem sw_run {fu : Nat} (p0 : List Ran) (p3 p4 p5 : Int) {lo hi : Int} (hb : -1000000 ≤ lo ∧ hi ≤ 1000000) {A : List Ran} (hA : A.length < 1000000) (hg : good (hi + 1) A) (hlo : ∀ r ∈ A, lo ≤ r.1) : ∀ (n i : Nat), i ≤ A.length → A.length - i < n → l9_SurveySwaths_L1 fu p0 lo hi p3 p4 p5 A n (i : Int) = some (.inr A)
  | 0, i, _, h => by omega
  | n + 1, i, hi, hn => by
    rcases Nat.lt_or_ge i A.length with h1 | h1
    · have he : A[i]? = some A[i] := List.getElem?_eq_getElem h1
      have hm := List.mem_of_getElem? he
      obtain ⟨g1, g2, g3⟩ := idx he
      have r1 := hg.2 _ hm
      have r2 := hlo _ hm
      have rec' := sw_run (fu := fu) p0 p3 p4 p5 hb hA hg hlo n (i + 1) (by omega) (by omega)
      rw [l9_SurveySwaths_L1, if_pos g1, if_pos g2, g3, Option.bind_some, if_neg (by omega), wrapS (by omega), x_within, Option.bind_some, decide_eq_true (by omega), if_pos rfl, x_within, Option.bind_some, decide_eq_true (by omega), if_pos rfl]
      by_cases c : 0 < i
      · have hq : A[i - 1]? = some A[i - 1] := List.getElem?_eq_getElem (by omega)
        obtain ⟨k1, k2, k3⟩ := idx hq
        have hw : IntKind.wrap .i64 ((i : Int) - 1) = ((i - 1 : Nat) : Int) := by rw [wrapB (by omega) (by omega)]; omega
        have q1 := hg.2 _ (List.mem_of_getElem? hq)
        have q2 := hlo _ (List.mem_of_getElem? hq)
        have hp := List.pairwise_iff_getElem.1 hg.1 (i - 1) i (by omega) h1 (by omega)
        rw [if_pos (by omega), hw, if_pos k2, if_pos k1, k3, Option.bind_some, wrapB (x := A[i - 1].2 + 1) (by omega) (by omega), if_neg (by omega)]
        exact rec'
      · rw [if_neg (by omega)]
        exact rec'
    · have : i = A.length := by omega
      subst this
      rw [l9_SurveySwaths_L1, if_neg (by omega)]
theorem copy_ran {l : List Ran} (h : l.length < 500) : b_CopyRanges l = some l := by
  unfold b_CopyRanges
  rw [if_pos (by omega)]
theorem fstF_app {α : Type} (f : α → Int) (x : α) : ∀ {l : List α}, fstF f l = 0 → fstF f (l ++ [x]) = f x
  | [], _ => by
    show (if f x = 0 then 0 else f x) = f x
    split
    · rename_i c; exact c.symm
    · rfl
  | a :: r, h => by
    unfold fstF at h
    by_cases c : f a = 0
    · rw [if_pos c] at h
      show (if f a = 0 then fstF f (r ++ [x]) else f a) = f x
      rw [if_pos c, fstF_app f x h]
    · rw [if_neg c] at h; exact absurd h c
theorem sw_tail {a0 : List Ran} {a1_0 a1_1 a2_0 : Int} (hl : a0.length < 500) (h1 : swE (a1_0, a1_1) = 0 → a1_1 - a1_0 ≤ 300) (hc : swA a0 a1_0 a1_1 a2_0 = 0) {y17 : List Ran} (hy : y17 = gpS a0 a1_0 a1_1 a2_0) : (if a2_0 = (12 : Int) then (some true) else (Option.bind (b_CopyRanges a0) fun r29 => Option.bind (sv_GapsIn 1000 r29 a1_0 a1_1 (IntKind.wrap .i64 (a2_0 + (1 : Int)))) fun r30 => if r30.2 = (0 : Int) then (if (r30.1.length : Int) ≤ (301 : Int) then (Option.bind (l9_within 1000 y17 r30.1) fun r33 => if r33 = true then (some true) else none) else none) else none)) = some true := by
  obtain ⟨k1, k2, k3, k4⟩ := swA_ok hc
  have hs := swE_ok k3
  have hs' : 0 ≤ a1_0 ∧ a1_0 ≤ a1_1 ∧ a1_1 ≤ 100000 := hs
  have h3 := h1 k3
  by_cases c : a2_0 = 12
  · rw [if_pos c]
  · have hn : swA a0 a1_0 a1_1 (a2_0 + 1) = 0 := swA_of k1 k2 k3 (by omega)
    have g1 := gpS_len a0 a1_0 a1_1 a2_0
    have g2 := gpS_len a0 a1_0 a1_1 (a2_0 + 1)
    rw [if_neg c, copy_ran hl, Option.bind_some, wrapB (by omega) (by omega), p_gaps (Nat.le_refl _) hl h1, Option.bind_some, if_pos hn]
    dsimp only
    rw [if_pos rfl, if_pos (by omega), hy, w_eq (by omega) (by omega) (by omega) (by omega) (gp_in hs'.2.1 fun x hx => by
      unfold gG at hx ⊢
      have := of_decide_eq_true hx
      exact decide_eq_true (by omega))]
    rfl
theorem sw_body (a0 : List Ran) (a1_0 a1_1 a2_0 a2_1 a2_2 : Int) (hl : a0.length < 500) (h1 : swE (a1_0, a1_1) = 0 → a1_1 - a1_0 ≤ 300) : (Option.bind (b_CopyRanges a0) fun r7 => Option.bind (sv_GapsIn 1000 r7 a1_0 a1_1 a2_0) fun r8 => Option.bind (r9_SwathsErr 1000 a0 a1_0 a1_1 a2_0) fun r9 => if r9 = (0 : Int) then (if r8.2 = (0 : Int) then (Option.bind (r9_Gaps 1000 a0 a1_0 a1_1 a2_0) fun r12 => Option.bind (b_Ranges 1000 r8.1 r12) fun r13 => if r13 = true then (Option.bind (l9_SurveySwaths_L1 1000 a0 a1_0 a1_1 a2_0 a2_1 a2_2 r8.1 1000 (0 : Int)) fun o15 => (match o15 with | .inl y16 => none | .inr y17 => (if (a0.length : Int) < (12 : Int) then (Option.bind (r9_SwathErr a2_1 a2_2) fun r19 => if r19 = (0 : Int) then (Option.bind (b_CopyRanges a0) fun r21 => if (r21.length : Int) < (65536 : Int) then (Option.bind (sv_GapsIn 1000 (r21 ++ [(a2_1, a2_2)]) a1_0 a1_1 a2_0) fun r23 => if r23.2 = (0 : Int) then (if (301 : Int) < (r23.1.length : Int) then none else (Option.bind (l9_within 1000 r23.1 y17) fun r26 => if r26 = true then (if a2_0 = (12 : Int) then (some true) else (Option.bind (b_CopyRanges a0) fun r29 => Option.bind (sv_GapsIn 1000 r29 a1_0 a1_1 (IntKind.wrap .i64 (a2_0 + (1 : Int)))) fun r30 => if r30.2 = (0 : Int) then (if (r30.1.length : Int) ≤ (301 : Int) then (Option.bind (l9_within 1000 y17 r30.1) fun r33 => if r33 = true then (some true) else none) else none) else none)) else none)) else none) else none) else (if a2_0 = (12 : Int) then (some true) else (Option.bind (b_CopyRanges a0) fun r36 => Option.bind (sv_GapsIn 1000 r36 a1_0 a1_1 (IntKind.wrap .i64 (a2_0 + (1 : Int)))) fun r37 => if r37.2 = (0 : Int) then (if (r37.1.length : Int) ≤ (301 : Int) then (Option.bind (l9_within 1000 y17 r37.1) fun r40 => if r40 = true then (some true) else none) else none) else none))) else (if a2_0 = (12 : Int) then (some true) else (Option.bind (b_CopyRanges a0) fun r43 => Option.bind (sv_GapsIn 1000 r43 a1_0 a1_1 (IntKind.wrap .i64 (a2_0 + (1 : Int)))) fun r44 => if r44.2 = (0 : Int) then (if (r44.1.length : Int) ≤ (301 : Int) then (Option.bind (l9_within 1000 y17 r44.1) fun r47 => if r47 = true then (some true) else none) else none) else none))))) else none) else none) else (if r8.2 = r9 then (if (r8.1.length : Int) = (0 : Int) then (some true) else none) else none)) = some true := by
  rw [copy_ran hl, Option.bind_some, p_gaps (Nat.le_refl _) hl h1, Option.bind_some, r_swaths (Nat.le_refl _) a0 hl, Option.bind_some]
  by_cases hc : swA a0 a1_0 a1_1 a2_0 = 0
  · obtain ⟨k1, k2, k3, k4⟩ := swA_ok hc
    have hs : 0 ≤ a1_0 ∧ a1_0 ≤ a1_1 ∧ a1_1 ≤ 100000 := swE_ok k3
    have h3 := h1 k3
    have g1 := gpS_len a0 a1_0 a1_1 a2_0
    obtain ⟨gg, gm⟩ := gp_good hs.2.1 a0 a2_0
    have run := sw_run (fu := 1000) a0 a2_0 a2_1 a2_2 (lo := a1_0) (hi := a1_1) (by omega) (A := gpS a0 a1_0 a1_1 a2_0) (by omega) gg (fun r hr => ((gm r.1).1 ⟨r, hr, Int.le_refl _, (gg.2 r hr).1⟩).1) 1000 0 (by omega) (by omega)
    rw [show ((0 : Nat) : Int) = 0 from rfl] at run
    have tl := sw_tail hl h1 hc (y17 := gpS a0 a1_0 a1_1 a2_0) rfl
    rw [copy_ran hl] at tl
    rw [if_pos hc, if_pos hc]
    dsimp only
    rw [if_pos rfl, r_gaps (Nat.le_refl _) hl hs h3, Option.bind_some, b_ranges (by omega) (by omega), Option.bind_some, if_pos rfl, run, Option.bind_some]
    show (if (a0.length : Int) < 12 then _ else _) = _
    by_cases c : (a0.length : Int) < 12
    · have hsw : r9_SwathErr a2_1 a2_2 = some (swE (a2_1, a2_2)) := r_swath (a2_1, a2_2)
      rw [if_pos c, hsw, Option.bind_some]
      by_cases d : swE (a2_1, a2_2) = 0
      · have hn : swA (a0 ++ [(a2_1, a2_2)]) a1_0 a1_1 a2_0 = 0 := swA_of (by simp; omega) (by rw [fstF_app _ _ k2, d]) k3 k4
        have g2 := gpS_len (a0 ++ [(a2_1, a2_2)]) a1_0 a1_1 a2_0
        rw [if_pos d, Option.bind_some, if_pos (by omega), p_gaps (Nat.le_refl _) (by simp; omega) h1, Option.bind_some, if_pos hn]
        dsimp only
        rw [if_pos rfl, if_neg (by omega), w_eq (by omega) (by omega) (by omega) (by omega) (gp_in hs.2.1 fun x hx => by
          unfold gG at hx ⊢
          have := of_decide_eq_true hx
          have := cov_app x (a2_1, a2_2) a0
          exact decide_eq_true (by omega)), Option.bind_some, if_pos rfl]
        exact tl
      · rw [if_neg d]
        exact tl
    · rw [if_neg c]
      exact tl
  · rw [if_neg hc, if_neg hc, if_pos rfl]; rfl
theorem l9_SurveySwaths_true (a0 : List Ran) (a1_0 a1_1 a2_0 a2_1 a2_2 : Int) : ∃ fu, l9_SurveySwaths fu a0 a1_0 a1_1 a2_0 a2_1 a2_2 = some true := by
  refine ⟨1000, ?_⟩
  unfold l9_SurveySwaths l9_awake
  rw [Option.bind_some, if_pos rfl]
  by_cases hn : (14 : Int) < (a0.length : Int)
  · rw [if_pos hn]
  · have hl : a0.length < 500 := by omega
    have hsw : r9_SwathErr a1_0 a1_1 = some (swE (a1_0, a1_1)) := r_swath (a1_0, a1_1)
    rw [if_neg hn, hsw, Option.bind_some]
    by_cases c : swE (a1_0, a1_1) = 0
    · have hs : 0 ≤ a1_0 ∧ a1_0 ≤ a1_1 ∧ a1_1 ≤ 100000 := swE_ok c
      rw [if_pos c, wrapB (by omega) (by omega)]
      by_cases d : 300 < a1_1 - a1_0
      · rw [if_pos d]
      · rw [if_neg d]
        exact sw_body a0 a1_0 a1_1 a2_0 a2_1 a2_2 hl (fun _ => by omega)
    · rw [if_neg c]
      exact sw_body a0 a1_0 a1_1 a2_0 a2_1 a2_2 hl (fun h => absurd h c)
end Go.Proofs.YtidahkefillmeaaGreatDoor
