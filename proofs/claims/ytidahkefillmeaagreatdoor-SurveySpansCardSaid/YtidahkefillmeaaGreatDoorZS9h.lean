/-
  The bed at a position: the program and the reference say the same.
-/
import Derived.Test.YtidahkefillmeaaGreatDoorZS9g
set_option linter.all false
namespace Go.Proofs.YtidahkefillmeaaGreatDoor
open Go Go.RowKit
theorem chS_sorted : ∀ {l : List Sta} {b : Bool} {x i : Int}, (chS b x l i).2 = 0 → l.Pairwise (fun a c => a.1 < c.1)
  | [], _, _, _, _ => List.Pairwise.nil
  | a :: r, b, x, i, h => by
    unfold chS at h
    by_cases c : seE b x a = 0
    · rw [if_pos c] at h
      refine List.pairwise_cons.2 ⟨fun e he => ?_, chS_sorted h⟩
      rcases (chS_ok h e he).2 with h2 | h2
      · cases h2
      · exact h2
    · rw [if_neg c] at h; exact absurd h c
theorem ckS_sorted {l : List Sta} (h : (ckS l).2 = 0) : l.Pairwise (fun a c => a.1 < c.1) := by
  unfold ckS at h
  split at h
  · cases h
  · exact chS_sorted h
theorem lt_at {l : List Sta} (h : l.Pairwise (fun a c => a.1 < c.1)) {i j : Nat} (hij : i < j) {a b : Sta} (ha : l[i]? = some a) (hb : l[j]? = some b) : a.1 < b.1 := by
  obtain ⟨h1, rfl⟩ := List.getElem?_eq_some_iff.1 ha
  obtain ⟨h2, rfl⟩ := List.getElem?_eq_some_iff.1 hb
  exact List.pairwise_iff_getElem.1 h i j h1 h2 hij
theorem p_index {fu : Nat} (l : List Sta) (hl : l.length < 1000000) (x : Int) : ∀ (n i : Nat), i ≤ l.length → l.length - i < n →
    (∃ (k : Nat) (e : Sta), i ≤ k ∧ l[k]? = some e ∧ x ≤ e.1 ∧ (∀ (j : Nat) (q : Sta), i ≤ j → j < k → l[j]? = some q → q.1 < x) ∧ slices_IndexFunc_SurveyStation_SurveyStation_BedAt_1_L1 fu l x (l.length : Int) n (i : Int) = some (.inl (k : Int))) ∨
    ((∀ (j : Nat) (q : Sta), i ≤ j → l[j]? = some q → q.1 < x) ∧ slices_IndexFunc_SurveyStation_SurveyStation_BedAt_1_L1 fu l x (l.length : Int) n (i : Int) = some (.inr ()))
  | 0, i, _, h => by omega
  | n + 1, i, hi, h => by
    rcases Nat.lt_or_ge i l.length with h1 | h1
    · have he : l[i]? = some l[i] := List.getElem?_eq_getElem h1
      obtain ⟨g1, g2, g3⟩ := idx he
      have hs : slices_IndexFunc_SurveyStation_SurveyStation_BedAt_1_L1 fu l x (l.length : Int) (n + 1) (i : Int) = if x ≤ l[i].1 then some (.inl (i : Int)) else slices_IndexFunc_SurveyStation_SurveyStation_BedAt_1_L1 fu l x (l.length : Int) n ((i + 1 : Nat) : Int) := by
        rw [slices_IndexFunc_SurveyStation_SurveyStation_BedAt_1_L1, if_pos g1, if_pos g2, if_pos g1, g3, Option.bind_some, wrapS (by omega)]
        unfold sv_BedAt_1
        by_cases c : x ≤ l[i].1
        · simp [c]
        · simp [c]
      rw [hs]
      by_cases c : x ≤ l[i].1
      · rw [if_pos c]
        exact .inl ⟨i, l[i], Nat.le_refl _, he, c, fun j q a b => by omega, rfl⟩
      · rw [if_neg c]
        have here : ∀ (j : Nat) (q : Sta), j = i → l[j]? = some q → q.1 < x := by
          rintro j q rfl hq
          rw [he] at hq
          obtain rfl := Option.some.inj hq
          omega
        rcases p_index (fu := fu) l hl x n (i + 1) (by omega) (by omega) with ⟨k, e, k1, k2, k3, k4, k5⟩ | ⟨k1, k2⟩
        · refine .inl ⟨k, e, by omega, k2, k3, fun j q a b hq => ?_, k5⟩
          by_cases d : j = i
          · exact here j q d hq
          · exact k4 j q (by omega) b hq
        · refine .inr ⟨fun j q a hq => ?_, k2⟩
          by_cases d : j = i
          · exact here j q d hq
          · exact k1 j q (by omega) hq
    · have : i = l.length := by omega
      subst this
      rw [slices_IndexFunc_SurveyStation_SurveyStation_BedAt_1_L1, if_neg (by omega)]
      refine .inr ⟨fun j q a hq => ?_, rfl⟩
      have := (List.getElem?_eq_some_iff.1 hq).1
      omega
theorem floor_eq : u_Floor = b_Floor := by
  funext a b; unfold u_Floor b_Floor; rfl
theorem ceil_eq : u_Ceiling = b_Ceil := by
  funext a b; unfold u_Ceiling b_Ceil; rw [floor_eq]
theorem b_floor_some (a b : Int) (h : b ≠ 0) : ∃ r, b_Floor a b = some r := by
  unfold b_Floor
  rw [if_neg h]
  split <;> exact ⟨_, rfl⟩
def bwS (q e : Sta) (x : Int) : Option (Int × Int) := Option.bind (b_Floor (IntKind.wrap .i64 ((IntKind.wrap .i64 (q.2.2.2.1 * (e.1 - x))) + (IntKind.wrap .i64 (e.2.2.2.1 * (x - q.1))))) (e.1 - q.1)) fun r1 => Option.bind (b_Ceil (IntKind.wrap .i64 ((IntKind.wrap .i64 (q.2.2.2.2 * (e.1 - x))) + (IntKind.wrap .i64 (e.2.2.2.2 * (x - q.1))))) (e.1 - q.1)) fun r2 => some (r1, r2)
theorem bwS_some {q e : Sta} (h : q.1 < e.1) (x : Int) : ∃ r, bwS q e x = some r := by
  unfold bwS b_Ceil
  obtain ⟨r1, e1⟩ := b_floor_some (IntKind.wrap .i64 ((IntKind.wrap .i64 (q.2.2.2.1 * (e.1 - x))) + (IntKind.wrap .i64 (e.2.2.2.1 * (x - q.1))))) (e.1 - q.1) (by omega)
  obtain ⟨r2, e2⟩ := b_floor_some (IntKind.wrap .i64 (0 - IntKind.wrap .i64 ((IntKind.wrap .i64 (q.2.2.2.2 * (e.1 - x))) + (IntKind.wrap .i64 (e.2.2.2.2 * (x - q.1)))))) (e.1 - q.1) (by omega)
  rw [e1, e2]; exact ⟨_, rfl⟩
theorem p_between {q e : Sta} (hq : okSt q) (he : okSt e) {x : Int} (h1 : q.1 < x) (h2 : x < e.1) : sv_bedBetween q.1 q.2.1 q.2.2.1 q.2.2.2.1 q.2.2.2.2 e.1 e.2.1 e.2.2.1 e.2.2.2.1 e.2.2.2.2 x = bwS q e x := by
  have hq : 0 ≤ q.1 ∧ q.1 ≤ 100000 := hq.1
  have he : 0 ≤ e.1 ∧ e.1 ≤ 100000 := he.1
  unfold sv_bedBetween bwS
  rw [wrapB (x := e.1 - x) (by omega) (by omega), wrapB (x := x - q.1) (by omega) (by omega), wrapB (x := e.1 - q.1) (by omega) (by omega), floor_eq, ceil_eq]
theorem go_to {τ : Type} (L : Nat → Nat → Option τ) (k : Nat) (hs : ∀ n i, i < k → L (n + 1) i = L n (i + 1)) : ∀ (m n i : Nat), i + m = k → L (n + m) i = L n k
  | 0, n, i, h => by subst h; rfl
  | m + 1, n, i, h => by rw [show n + (m + 1) = (n + m) + 1 by omega, hs _ _ (by omega)]; exact go_to L k hs m n (i + 1) (by omega)
theorem r_bed_step {fu : Nat} (l : List Sta) (hl : l.length < 1000000) (x : Int) (n i : Nat) {e : Sta} (he : l[i]? = some e) (h1 : e.1 ≠ x) (h2 : ∀ q, 0 < i → l[i - 1]? = some q → ¬ (q.1 < x ∧ x < e.1)) : r9_Bed_L1 fu l x (n + 1) (i : Int) = r9_Bed_L1 fu l x n ((i + 1 : Nat) : Int) := by
  obtain ⟨g1, g2, g3⟩ := idx he
  rw [r9_Bed_L1, if_pos g1, if_pos g2, g3, Option.bind_some, if_neg h1, wrapS (by omega)]
  by_cases c : 0 < i
  · have hq : l[i - 1]? = some l[i - 1] := List.getElem?_eq_getElem (by omega)
    obtain ⟨k1, k2, k3⟩ := idx hq
    have hw : IntKind.wrap .i64 ((i : Int) - 1) = ((i - 1 : Nat) : Int) := by rw [wrapB (by omega) (by omega)]; omega
    rw [if_pos (by omega), hw, if_pos k2, if_pos k1, k3, Option.bind_some]
    by_cases d : l[i - 1].1 < x
    · rw [if_pos d, if_neg (fun f => h2 _ c hq ⟨d, f⟩)]
    · rw [if_neg d]
  · rw [if_neg (by omega)]
theorem r_bed_end {fu : Nat} (l : List Sta) (x : Int) (n : Nat) : r9_Bed_L1 fu l x (n + 1) (l.length : Int) = some (.inr ()) := by
  rw [r9_Bed_L1, if_neg (by omega)]
theorem r_bed_here {fu : Nat} (l : List Sta) (x : Int) (n i : Nat) {e : Sta} (he : l[i]? = some e) (h1 : e.1 = x) : r9_Bed_L1 fu l x (n + 1) (i : Int) = some (.inl (e.2.2.2.1, e.2.2.2.2)) := by
  obtain ⟨g1, g2, g3⟩ := idx he
  rw [r9_Bed_L1, if_pos g1, if_pos g2, g3, Option.bind_some, if_pos h1]
theorem r_bed_between {fu : Nat} (l : List Sta) (hl : l.length < 1000000) (x : Int) (n i : Nat) {q e : Sta} (he : l[i + 1]? = some e) (hq : l[i]? = some q) (oq : okSt q) (oe : okSt e) (h1 : q.1 < x) (h2 : x < e.1) {r : Int × Int} (hr : bwS q e x = some r) : r9_Bed_L1 fu l x (n + 1) ((i + 1 : Nat) : Int) = some (.inl r) := by
  obtain ⟨g1, g2, g3⟩ := idx he
  obtain ⟨k1, k2, k3⟩ := idx hq
  have oq : 0 ≤ q.1 ∧ q.1 ≤ 100000 := oq.1
  have oe : 0 ≤ e.1 ∧ e.1 ≤ 100000 := oe.1
  have hw : IntKind.wrap .i64 (((i + 1 : Nat) : Int) - 1) = (i : Int) := by rw [wrapB (by omega) (by omega)]; omega
  rw [r9_Bed_L1, if_pos g1, if_pos g2, g3, Option.bind_some, if_neg (by omega), if_pos (by omega), hw, if_pos k2, if_pos k1, k3, Option.bind_some, if_pos h1, if_pos h2]
  rw [wrapB (x := e.1 - q.1) (by omega) (by omega), wrapB (x := x - q.1) (by omega) (by omega), wrapB (x := e.1 - q.1 - (x - q.1)) (by omega) (by omega), show e.1 - q.1 - (x - q.1) = e.1 - x by omega]
  unfold bwS at hr
  obtain ⟨r1, e1, hr⟩ := Option.bind_eq_some_iff.1 hr
  obtain ⟨r2, e2, hr⟩ := Option.bind_eq_some_iff.1 hr
  obtain rfl := Option.some.inj hr
  rw [e1, Option.bind_some, e2, Option.bind_some]
theorem bed_both {fu : Nat} (hf : 1000 ≤ fu) {l : List Sta} (hl : l.length < 500) (h : (ckS l).2 = 0) (x : Int) :
    (∃ r : Int × Int, sv_BedAt fu l x = some (r.1, r.2, 0) ∧ r9_Bed fu l x = some (r.1, r.2, true)) ∨ (sv_BedAt fu l x = some (0, 0, 6) ∧ r9_Bed fu l x = some (0, 0, false)) := by
  have hs := (ckS_ok h).2
  have hp := ckS_sorted h
  have none (k : ∀ (i : Nat) (e : Sta), l[i]? = some e → e.1 ≠ x ∧ ∀ q, 0 < i → l[i - 1]? = some q → ¬ (q.1 < x ∧ x < e.1)) : r9_Bed fu l x = some (0, 0, false) := by
    have g := go_to (fun n (i : Nat) => r9_Bed_L1 fu l x n (i : Int)) l.length (fun n i hi => by
      have he : l[i]? = some l[i] := List.getElem?_eq_getElem hi
      exact r_bed_step l (by omega) x n i he (k i _ he).1 (k i _ he).2) l.length (fu - l.length) 0 (by omega)
    rw [show fu - l.length + l.length = fu by omega] at g
    have g : r9_Bed_L1 fu l x fu 0 = _ := g
    unfold r9_Bed
    rw [g, show fu - l.length = (fu - l.length - 1) + 1 by omega, r_bed_end]; rfl
  have hP : sv_BedAt fu l x = Option.bind (slices_IndexFunc_SurveyStation_SurveyStation_BedAt_1 fu l x) fun r3 => if r3 < (0 : Int) then (some ((0 : Int), (0 : Int), (6 : Int))) else (if r3 < (l.length : Int) then (Option.bind ((l)[0 + (r3).toNat]?) fun e7 => if e7.1 = x then (some (e7.2.2.2.1, e7.2.2.2.2, (0 : Int))) else (if r3 = (0 : Int) then (some ((0 : Int), (0 : Int), (6 : Int))) else (if (0 : Int) ≤ (IntKind.wrap .i64 (r3 - (1 : Int))) then (if (IntKind.wrap .i64 (r3 - (1 : Int))) < (l.length : Int) then (Option.bind ((l)[0 + ((IntKind.wrap .i64 (r3 - (1 : Int)))).toNat]?) fun e12 => Option.bind (sv_bedBetween e12.1 e12.2.1 e12.2.2.1 e12.2.2.2.1 e12.2.2.2.2 e7.1 e7.2.1 e7.2.2.1 e7.2.2.2.1 e7.2.2.2.2 x) fun r13 => some (r13.1, r13.2, (0 : Int))) else Option.none) else Option.none))) else Option.none) := by
    unfold sv_BedAt
    rw [p_stations hf l hl, Option.bind_some, h, if_pos rfl]
  unfold slices_IndexFunc_SurveyStation_SurveyStation_BedAt_1 at hP
  rcases p_index (fu := fu) l (by omega) x fu 0 (by omega) (by omega) with ⟨k, e, _, k2, k3, k4, k5⟩ | ⟨k1, k2⟩
  · rw [show ((0 : Nat) : Int) = 0 from rfl] at k5
    obtain ⟨g1, g2, g3⟩ := idx k2
    have hk := (List.getElem?_eq_some_iff.1 k2).1
    simp only [k5, Option.bind_some] at hP
    rw [if_neg (by omega), if_pos g1, g3, Option.bind_some] at hP
    have g := go_to (fun n (i : Nat) => r9_Bed_L1 fu l x n (i : Int)) k (fun n i hi => by
      have he : l[i]? = some l[i] := List.getElem?_eq_getElem (by omega)
      have := k4 i _ (by omega) hi he
      exact r_bed_step l (by omega) x n i he (by omega) (fun q _ _ => by omega)) k (fu - k) 0 (by omega)
    rw [show fu - k + k = fu by omega, show fu - k = (fu - k - 1) + 1 by omega] at g
    have g : r9_Bed_L1 fu l x fu 0 = r9_Bed_L1 fu l x ((fu - k - 1) + 1) (k : Int) := g
    by_cases c : e.1 = x
    · rw [if_pos c] at hP
      refine .inl ⟨(e.2.2.2.1, e.2.2.2.2), hP, ?_⟩
      unfold r9_Bed
      rw [g, r_bed_here l x _ k k2 c]; rfl
    · rw [if_neg c] at hP
      by_cases d : k = 0
      · subst d
        rw [if_pos (by omega)] at hP
        refine .inr ⟨hP, none fun i a ha => ?_⟩
        have far : ∀ (i : Nat) (a : Sta), l[i]? = some a → x < a.1 := fun i a ha => by
          rcases Nat.eq_zero_or_pos i with rfl | hi
          · rw [k2] at ha
            obtain rfl := Option.some.inj ha
            omega
          · have := lt_at hp hi k2 ha; omega
        have := far i a ha
        exact ⟨by omega, fun q _ hq hh => by have := far _ q hq; omega⟩
      · obtain ⟨k, rfl⟩ : ∃ m, k = m + 1 := ⟨k - 1, by omega⟩
        have hq : l[k]? = some l[k] := List.getElem?_eq_getElem (by omega)
        obtain ⟨f1, f2, f3⟩ := idx hq
        have hw : IntKind.wrap .i64 (((k + 1 : Nat) : Int) - 1) = (k : Int) := by rw [wrapB (by omega) (by omega)]; omega
        have hqx := k4 k _ (by omega) (by omega) hq
        have oq := hs _ (List.mem_of_getElem? hq)
        have oe := hs _ (List.mem_of_getElem? k2)
        obtain ⟨r, hr⟩ := bwS_some (q := l[k]) (e := e) (by omega) x
        rw [if_neg (by omega), hw, if_pos f2, if_pos f1, f3, Option.bind_some, p_between oq oe hqx (by omega), hr, Option.bind_some] at hP
        refine .inl ⟨r, hP, ?_⟩
        unfold r9_Bed
        rw [g, r_bed_between l (by omega) x _ k k2 hq oq oe hqx (by omega) hr]; rfl
  · rw [show ((0 : Nat) : Int) = 0 from rfl] at k2
    simp only [k2, Option.bind_some] at hP
    rw [if_pos (by omega)] at hP
    refine .inr ⟨hP, none fun i a ha => ?_⟩
    have := k1 i a (by omega) ha
    exact ⟨by omega, fun q _ hq hh => by omega⟩
theorem bed_err {fu : Nat} (hf : 1000 ≤ fu) {l : List Sta} (hl : l.length < 500) (h : (ckS l).2 ≠ 0) (x : Int) : sv_BedAt fu l x = some (0, 0, (ckS l).2) := by
  unfold sv_BedAt
  rw [p_stations hf l hl, Option.bind_some, if_neg h]
end Go.Proofs.YtidahkefillmeaaGreatDoor
