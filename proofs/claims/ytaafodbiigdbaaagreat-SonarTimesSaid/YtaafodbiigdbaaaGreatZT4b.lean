/-
  Depths and times of sound: what the lifted functions compute, as rational numbers.
-/
import Derived.Test.YtaafodbiigdbaaaGreatZIa
import Derived.Test.YtaafodbiigdbaaaGreatZT4a
set_option linter.all false
namespace Go.Proofs.YtaafodbiigdbaaaGreat
open Go Go.RowKit

/-! ### Rational numbers -/
theorem q_div {h v : Rat} (hv : 0 < v) : v * (h / v) = h := by
  have : v ≠ 0 := by grind
  grind
theorem q_cancel {a b v : Rat} (hv : 0 < v) (h : v * a ≤ v * b) : a ≤ b := by
  rcases (Rat.le_total : a ≤ b ∨ b ≤ a) with h1 | h1
  · exact h1
  · have := Rat.mul_le_mul_of_nonneg_left h1 (Rat.le_of_lt hv)
    have h2 : v * a = v * b := by grind
    have h3 : v ≠ 0 := by grind
    have h4 : a = b := by
      have e1 : a = v⁻¹ * (v * a) := by rw [← Rat.mul_assoc, Rat.inv_mul_cancel v h3, Rat.one_mul]
      have e2 : b = v⁻¹ * (v * b) := by rw [← Rat.mul_assoc, Rat.inv_mul_cancel v h3, Rat.one_mul]
      rw [e1, h2, ← e2]
    grind
theorem q_dpos {h v : Rat} (hv : 0 < v) (hh : 0 ≤ h) : 0 ≤ h / v := by
  refine q_cancel hv ?_
  rw [q_div hv]; grind
def dep : List (Rat × Rat) → Rat → Rat → Rat
  | [], s, t => s * t
  | (h, v) :: r, s, t => if v * t < h then v * t else h + dep r s (t - h / v)
theorem dep_pos : ∀ (l : List (Rat × Rat)) (s t : Rat), (∀ x ∈ l, 0 < x.2 ∧ 0 ≤ x.1) → 0 ≤ t → 0 ≤ s → 0 ≤ dep l s t
  | [], s, t, _, ht, hs => Rat.mul_nonneg hs ht
  | (h, v) :: r, s, t, hl, ht, hs => by
    obtain ⟨hv, hh⟩ := hl (h, v) List.mem_cons_self
    unfold dep
    split
    · exact Rat.mul_nonneg (Rat.le_of_lt hv) ht
    · rename_i hc
      have h1 : h / v ≤ t := q_cancel hv (by rw [q_div hv]; grind)
      have := dep_pos r s (t - h / v) (fun x hx => hl x (List.mem_cons_of_mem _ hx)) (by grind) hs
      grind
theorem q_mul2 {a b c d : Rat} (h0 : 0 ≤ a) (h1 : a ≤ b) (h2 : 0 ≤ c) (h3 : c ≤ d) : a * c ≤ b * d := by
  have e1 := Rat.mul_le_mul_of_nonneg_right h1 h2
  have e2 := Rat.mul_le_mul_of_nonneg_left h3 (show 0 ≤ b by grind)
  grind
theorem q_div2 {h v w : Rat} (hv : 0 < v) (h1 : v ≤ w) (hh : 0 ≤ h) : h / w ≤ h / v := by
  have hw : 0 < w := by grind
  have e := q_mul2 (a := v) (b := w) (c := h / v) (d := h / v) (by grind) h1 (q_dpos hv hh) (by grind)
  rw [q_div hv] at e
  refine q_cancel hw ?_
  rw [q_div hw]; exact e
theorem dep_mono : ∀ (l : List (Rat × Rat × Rat)) (s1 s2 t1 t2 : Rat), (∀ x ∈ l, 0 < x.2.1 ∧ x.2.1 ≤ x.2.2 ∧ 0 ≤ x.1) → 0 ≤ t1 → t1 ≤ t2 → 0 ≤ s1 → s1 ≤ s2 →
    dep (l.map fun x => (x.1, x.2.1)) s1 t1 ≤ dep (l.map fun x => (x.1, x.2.2)) s2 t2
  | [], s1, s2, t1, t2, _, a, b, c, d => q_mul2 c d a b
  | (h, v, w) :: r, s1, s2, t1, t2, hl, a, b, c, d => by
    obtain ⟨hv, hvw, hh⟩ := hl (h, v, w) List.mem_cons_self
    simp only at hv hvw hh
    have hw : 0 < w := by grind
    have e := q_mul2 (a := v) (b := w) (c := t1) (d := t2) (by grind) hvw a b
    simp only [List.map_cons, dep]
    by_cases h1 : v * t1 < h
    · rw [if_pos h1]
      by_cases h2 : w * t2 < h
      · rw [if_pos h2]; exact e
      · rw [if_neg h2]
        have h3 : h / w ≤ t2 := q_cancel hw (by rw [q_div hw]; grind)
        have := dep_pos (r.map fun x => (x.1, x.2.2)) s2 (t2 - h / w) (fun x hx => by
          obtain ⟨y, hy, rfl⟩ := List.mem_map.1 hx
          have := hl y (List.mem_cons_of_mem _ hy)
          simp only at this ⊢
          grind) (by grind) (by grind)
        grind
    · rw [if_neg h1, if_neg (by grind)]
      have h3 : h / v ≤ t1 := q_cancel hv (by rw [q_div hv]; grind)
      have h4 := q_div2 hv hvw hh
      have := dep_mono r s1 s2 (t1 - h / v) (t2 - h / w) (fun x hx => hl x (List.mem_cons_of_mem _ hx)) (by grind) (by grind) c d
      grind
def tim : List (Rat × Rat) → Rat → Rat → Rat
  | [], s, d => d / s
  | (h, v) :: r, s, d => (if d ≤ h then d else h) / v + tim r s (d - if d ≤ h then d else h)
theorem tim_zero : ∀ (l : List (Rat × Rat)) (s : Rat), (∀ x ∈ l, 0 < x.2 ∧ 0 ≤ x.1) → 0 < s → tim l s 0 = 0
  | [], s, _, hs => by unfold tim; have : s ≠ 0 := by grind
                       grind
  | (h, v) :: r, s, hl, hs => by
    obtain ⟨hv, hh⟩ := hl (h, v) List.mem_cons_self
    unfold tim
    rw [if_pos hh, show (0 : Rat) - 0 = 0 by grind, tim_zero r s (fun x hx => hl x (List.mem_cons_of_mem _ hx)) hs]
    have : v ≠ 0 := by grind
    grind
theorem tim_dep : ∀ (l : List (Rat × Rat)) (s t : Rat), (∀ x ∈ l, 0 < x.2 ∧ 0 ≤ x.1) → 0 < s → 0 ≤ t → tim l s (dep l s t) = t
  | [], s, t, _, hs, _ => by unfold tim dep; have : s ≠ 0 := by grind
                             grind
  | (h, v) :: r, s, t, hl, hs, ht => by
    obtain ⟨hv, hh⟩ := hl (h, v) List.mem_cons_self
    have hv0 : v ≠ 0 := by grind
    unfold tim dep
    by_cases h1 : v * t < h
    · simp only [if_pos h1]
      rw [if_pos (by grind), show v * t - v * t = 0 by grind, tim_zero r s (fun x hx => hl x (List.mem_cons_of_mem _ hx)) hs]
      grind
    · simp only [if_neg h1]
      have h3 : h / v ≤ t := q_cancel hv (by rw [q_div hv]; grind)
      have hp := dep_pos r s (t - h / v) (fun x hx => hl x (List.mem_cons_of_mem _ hx)) (by grind) (by grind)
      by_cases h2 : h + dep r s (t - h / v) ≤ h
      · have h5 : dep r s (t - h / v) = 0 := by grind
        have ih := tim_dep r s (t - h / v) (fun x hx => hl x (List.mem_cons_of_mem _ hx)) hs (by grind)
        rw [if_pos h2, h5, show h + 0 - (h + 0) = 0 by grind]
        rw [h5] at ih
        grind
      · have ih := tim_dep r s (t - h / v) (fun x hx => hl x (List.mem_cons_of_mem _ hx)) hs (by grind)
        rw [if_neg h2, show h + dep r s (t - h / v) - h = dep r s (t - h / v) by grind, ih]
        grind
theorem tim_mono : ∀ (l : List (Rat × Rat × Rat)) (s1 s2 d : Rat), (∀ x ∈ l, 0 < x.2.1 ∧ x.2.1 ≤ x.2.2 ∧ 0 ≤ x.1) → 0 ≤ d → 0 < s1 → s1 ≤ s2 →
    tim (l.map fun x => (x.1, x.2.2)) s2 d ≤ tim (l.map fun x => (x.1, x.2.1)) s1 d
  | [], s1, s2, d, _, a, b, c => q_div2 b c a
  | (h, v, w) :: r, s1, s2, d, hl, a, b, c => by
    obtain ⟨hv, hvw, hh⟩ := hl (h, v, w) List.mem_cons_self
    simp only at hv hvw hh
    simp only [List.map_cons, tim]
    have h1 : 0 ≤ (if d ≤ h then d else h) := by split <;> grind
    have h2 : 0 ≤ d - (if d ≤ h then d else h) := by split <;> grind
    have h3 := q_div2 hv hvw h1
    have ih := tim_mono r s1 s2 _ (fun x hx => hl x (List.mem_cons_of_mem _ hx)) h2 b c
    grind
theorem q_le {n1 d1 n2 d2 : Int} (h1 : 0 < d1) (h2 : 0 < d2) (h : (n1 : Rat) / (d1 : Rat) ≤ (n2 : Rat) / (d2 : Rat)) : n1 * d2 ≤ n2 * d1 := by
  have a1 : (0 : Rat) < (d1 : Rat) := by exact_mod_cast h1
  have a2 : (0 : Rat) < (d2 : Rat) := by exact_mod_cast h2
  have e := Rat.mul_le_mul_of_nonneg_left h (show 0 ≤ (d1 : Rat) * (d2 : Rat) from Rat.mul_nonneg (Rat.le_of_lt a1) (Rat.le_of_lt a2))
  have b1 : (d1 : Rat) ≠ 0 := by grind
  have b2 : (d2 : Rat) ≠ 0 := by grind
  have e1 : (d1 : Rat) * (d2 : Rat) * ((n1 : Rat) / (d1 : Rat)) = (n1 : Rat) * (d2 : Rat) := by grind
  have e2 : (d1 : Rat) * (d2 : Rat) * ((n2 : Rat) / (d2 : Rat)) = (n2 : Rat) * (d1 : Rat) := by grind
  rw [e1, e2] at e
  exact_mod_cast e
theorem q_floor {n1 d1 n2 d2 : Int} (h1 : 0 < d1) (h2 : 0 < d2) (h : n1 * d2 ≤ n2 * d1) : n1 / d1 ≤ n2 / d2 := by
  refine (Int.le_ediv_iff_mul_le h2).2 ?_
  have e := Int.mul_ediv_self_le (x := n1) (k := d1) (by omega)
  have e2 := Int.mul_le_mul_of_nonneg_right e (show 0 ≤ d2 by omega)
  have e3 : d1 * (n1 / d1 * d2) ≤ d1 * n2 := by grind
  exact Int.le_of_mul_le_mul_left e3 h1
theorem q_ceil {n d : Int} (h : 0 < d) : (n + d - 1) / d = -((-n) / d) := by
  have e1 := Int.mul_ediv_self_le (x := -n) (k := d) (by omega)
  have e2 := Int.lt_mul_ediv_self_add (x := -n) h
  refine (Int.ediv_eq_iff_of_pos h).2 ⟨?_, ?_⟩ <;> grind
theorem low_rat (n d : Int) (hd : 0 < d) (g : Nat) (hg : g = Nat.gcd n.natAbs d.natAbs) : ∃ n' d' : Int, Int.tdiv n (g : Int) = n' ∧ Int.tdiv d (g : Int) = d' ∧ 0 < d' ∧ d' ≤ d ∧ (0 ≤ n → 0 ≤ n') ∧ n = n' * (g : Int) ∧ d = d' * (g : Int) ∧ 0 < g ∧ (n' : Rat) / (d' : Rat) = (n : Rat) / (d : Rat) := by
  have g0 : 0 < g := by rw [hg]; exact Nat.gcd_pos_of_pos_right _ (by omega)
  have gz : (g : Int) ≠ 0 := by omega
  have h1 : (g : Int) ∣ n := by rw [hg]; exact Int.dvd_trans (Int.natCast_dvd_natCast.2 (Nat.gcd_dvd_left _ _)) (Int.natAbs_dvd.2 (Int.dvd_refl n))
  have h2 : (g : Int) ∣ d := by rw [hg]; exact Int.dvd_trans (Int.natCast_dvd_natCast.2 (Nat.gcd_dvd_right _ _)) (Int.natAbs_dvd.2 (Int.dvd_refl d))
  obtain ⟨n', rfl⟩ := h1
  obtain ⟨d', rfl⟩ := h2
  rw [Int.mul_tdiv_cancel_left _ gz, Int.mul_tdiv_cancel_left _ gz]
  have hd' : 0 < d' := by
    rcases Int.lt_or_le 0 d' with h | h
    · exact h
    · have := Int.mul_le_mul_of_nonneg_left h (show (0 : Int) ≤ (g : Int) by omega)
      omega
  refine ⟨n', d', rfl, rfl, hd', ?_, fun h => ?_, Int.mul_comm _ _, Int.mul_comm _ _, g0, ?_⟩
  · have := Int.mul_le_mul_of_nonneg_right (show (1 : Int) ≤ (g : Int) by omega) (show 0 ≤ d' by omega)
    omega
  · rcases Int.lt_or_le n' 0 with h3 | h3
    · have := Int.mul_le_mul_of_nonneg_left (show n' ≤ -1 by omega) (show (0 : Int) ≤ (g : Int) by omega)
      omega
    · exact h3
  · have a1 : ((g : Int) : Rat) ≠ 0 := by exact_mod_cast gz
    have a2 : (d' : Rat) ≠ 0 := by exact_mod_cast (show d' ≠ 0 by omega)
    rw [Rat.intCast_mul, Rat.intCast_mul]
    generalize ((g : Int) : Rat) = x at *
    generalize (d' : Rat) = y at *
    generalize (n' : Rat) = z at *
    have a3 : x * y ≠ 0 := by
      intro h
      have : y = x⁻¹ * (x * y) := by rw [← Rat.mul_assoc, Rat.inv_mul_cancel x a1, Rat.one_mul]
      rw [h, Rat.mul_zero] at this
      exact a2 this
    have e1 : (z / y) * (x * y) = x * z := by grind
    have e2 : (x * z / (x * y)) * (x * y) = x * z := by grind
    have e3 : (z / y) * (x * y) * (x * y)⁻¹ = (x * z / (x * y)) * (x * y) * (x * y)⁻¹ := by rw [e1, e2]
    rw [Rat.mul_assoc (z / y), Rat.mul_inv_cancel _ a3, Rat.mul_one, Rat.mul_assoc (x * z / (x * y)), Rat.mul_inv_cancel _ a3, Rat.mul_one] at e3
    exact e3

/-! ### Errors -/
theorem x_limit (a lo hi : Int) : u_LimitError a lo hi = some (limE a lo hi) := by
  unfold u_LimitError limE
  by_cases h1 : a < lo
  · rw [if_pos h1, if_pos (.inl h1)]
  · rw [if_neg h1]
    by_cases h2 : hi < a
    · rw [if_pos h2, if_pos (.inr h2)]
    · rw [if_neg h2, if_neg (by omega)]
theorem x_within (n lo hi : Int) : b_Within n lo hi = some (decide (lo ≤ n ∧ n ≤ hi)) := by
  unfold b_Within
  by_cases h1 : lo ≤ n
  · by_cases h2 : n ≤ hi
    · simp [h1, h2]
    · simp [h1, h2]
  · simp [h1]
theorem x_runF_first : ∀ (l : List Int) (i : Nat), runF (fun _ (e : Int) (_ : Unit) => if e = 0 then (.inr () : Int ⊕ Unit) else .inl e) l i () = if firstE l = 0 then .inr () else .inl (firstE l)
  | [], _ => rfl
  | a :: r, i => by
    unfold runF firstE
    by_cases ha : a = 0
    · simp only [ha, if_true]; exact x_runF_first r (i + 1)
    · simp only [ha, if_false]
theorem x_first (fu : Nat) (l : List Int) (h : l.length < fu) (hl : l.length < 4611686018427387904) : u_FirstError fu l = some (firstE l) := by
  have := loop_run l (fun n i _ => u_FirstError_L1 fu l (l.length : Int) n (i : Int)) (fun _ (e : Int) (_ : Unit) => if e = 0 then (.inr () : Int ⊕ Unit) else .inl e) id
    (fun n s => by rw [u_FirstError_L1, if_neg (by omega)]; rfl)
    (fun n i e s he => by
      obtain ⟨h1, h2, h3⟩ := idx he
      rw [u_FirstError_L1, if_pos h1, if_pos h2, if_pos h1, h3, Option.bind_some]
      by_cases h0 : e = 0
      · simp only [h0, if_true]; rw [wrapS (by omega)]
      · simp only [h0, if_false]; rfl) fu 0 () (by omega) (by omega)
  unfold u_FirstError
  rw [show ((0 : Nat) : Int) = 0 from rfl] at this
  rw [this, List.drop_zero, x_runF_first, Option.bind_some]
  by_cases h0 : firstE l = 0
  · simp [h0]
  · simp [h0]

theorem n_cons {α : Type} {l pre r : List α} {a : α} (h : l = pre ++ a :: r) : ((pre.length : Nat) : Int) < (l.length : Int) ∧ (0 : Int) ≤ ((pre.length : Nat) : Int) ∧ l[0 + (((pre.length : Nat) : Int)).toNat]? = some a ∧ pre.length < l.length := by
  subst h
  rw [Int.toNat_natCast, Nat.zero_add]
  simp
  omega
def allE (lo hi : Int) : List Int → Int
  | [] => 0
  | a :: r => if limE a lo hi = 0 then allE lo hi r else limE a lo hi
theorem n_lims_L1 (fu : Nat) (l : List Int) (lo hi : Int) (hl : l.length < 4611686018427387904) : ∀ (r pre : List Int) (n : Nat), l = pre ++ r → r.length < n → (u_FirstBad_int_LimitsError_1_L1 fu l lo hi (l.length : Int) n ((pre.length : Nat) : Int)).map (fun o => match o with | .inl y => y.2 | .inr _ => 0) = some (allE lo hi r)
  | _, _, 0, _, h => by omega
  | [], pre, n + 1, h, _ => by
    subst h
    rw [u_FirstBad_int_LimitsError_1_L1, if_neg (by simp)]
    rfl
  | a :: r, pre, n + 1, h, hn => by
    obtain ⟨h1, h2, h3, h4⟩ := n_cons h
    rw [u_FirstBad_int_LimitsError_1_L1, if_pos h1, if_pos h2, if_pos h1, h3, Option.bind_some]
    unfold u_LimitsError_1
    rw [x_limit, Option.bind_some, Option.bind_some]
    rw [List.length_cons] at hn
    by_cases ha : limE a lo hi = 0
    · rw [if_pos ha, wrapS (by omega), show pre.length + 1 = (pre ++ [a]).length by simp, n_lims_L1 fu l lo hi hl r (pre ++ [a]) n (by simp [h]) (by omega)]
      simp only [allE, ha, if_true]
    · rw [if_neg ha]
      simp only [allE, ha, if_false, Option.map_some]
theorem n_limits (fu : Nat) (l : List Int) (lo hi : Int) (h : l.length < fu) (hl : l.length < 4611686018427387904) : u_LimitsError fu lo hi l = some (allE lo hi l) := by
  have := n_lims_L1 fu l lo hi hl l [] fu rfl h
  rw [List.length_nil, show ((0 : Nat) : Int) = 0 from rfl] at this
  obtain ⟨o, h1, h2⟩ := Option.map_eq_some_iff.1 this
  unfold u_LimitsError u_FirstBad_int_LimitsError_1
  rw [h1]
  cases o <;> simp_all
theorem divL1 (fu : Nat) (p0 : List Int) (p3 p4 : Int) : ∀ (n : Nat) (a b : Int), u_Divisor_L1 fu p0 p3 p4 n a b = euL n a b
  | 0, _, _ => rfl
  | n + 1, a, b => by
    unfold u_Divisor_L1 euL
    by_cases h : b = 0
    · rw [if_pos h, if_pos h]
    · rw [if_neg h, if_neg h]; exact divL1 fu p0 p3 p4 n _ _
theorem runF_gcd (fu : Nat) : ∀ (l : List Int) (i : Nat) (s : Int), (∀ x ∈ l, x.natAbs < fu) → ∃ g, runF (fun _ e s => (.inr ((euL fu s e).getD 0) : Empty ⊕ Int)) l i s = .inr g ∧ g.natAbs = l.foldl (fun g x => Nat.gcd g x.natAbs) s.natAbs
  | [], _, s, _ => ⟨s, rfl, rfl⟩
  | a :: r, i, s, h => by
    obtain ⟨g, e, hg⟩ := euL_gcd fu s a (h a List.mem_cons_self)
    unfold runF
    simp only [e, Option.getD_some, List.foldl_cons, ← hg]
    exact runF_gcd fu r (i + 1) g fun x hx => h x (List.mem_cons_of_mem _ hx)
theorem divisor_eq (fu : Nat) (l : List Int) (hf : l.length < fu) (hl : l.length < 4611686018427387904) (hb : ∀ x ∈ l, x.natAbs < fu) (hg : gcdL l ≤ 9223372036854775807) : u_Divisor fu l = some (gcdL l : Int) := by
  have := loop_run l (fun n i s => u_Divisor_L2 fu l (l.length : Int) n s (i : Int)) (fun _ e s => (.inr ((euL fu s e).getD 0) : Empty ⊕ Int)) (fun o => match o with | .inr s => s | .inl x => nomatch x)
    (fun n s => by rw [u_Divisor_L2, if_neg (by omega)])
    (fun n i e s he => by
      obtain ⟨h1, h2, h3⟩ := idx he
      obtain ⟨g, eg, _⟩ := euL_gcd fu s e (hb e (List.mem_of_getElem? he))
      rw [u_Divisor_L2, if_pos h1, if_pos h2, if_pos h1, h3, Option.bind_some, divL1, eg, Option.bind_some, wrapS (by omega)]
      rfl) fu 0 0 (by omega) (by omega)
  obtain ⟨g, e, hgg⟩ := runF_gcd fu l 0 0 hb
  rw [List.drop_zero, e] at this
  unfold u_Divisor
  rw [show ((0 : Nat) : Int) = 0 from rfl] at this
  rw [this, Option.bind_some]
  have h1 : g.natAbs = gcdL l := hgg
  have h2 := abs_of (g := g) (by omega)
  rw [h1] at h2
  show (if g < IntKind.i64.wrap (0 - g) then some (IntKind.i64.wrap (0 - g)) else some g) = _
  rw [← h2]
  split <;> rfl

/-! ### Fractions in lowest terms -/
theorem t_low {fu : Nat} (hf : 10000000000000000000 ≤ fu) {n d : Int} (hn : 0 ≤ n) (hn' : n ≤ 9000000000000000000) (hd : 0 < d) (hd' : d ≤ 9000000000000000000) :
    ∃ n' d', u_Lowest fu n d = some (n', d') ∧ 0 ≤ n' ∧ n' ≤ n ∧ 0 < d' ∧ d' ≤ d ∧ (∃ g : Int, 0 < g ∧ n = n' * g ∧ d = d' * g) ∧ (n' : Rat) / (d' : Rat) = (n : Rat) / (d : Rat) := by
  obtain ⟨n', d', h1, h2, h3, h4, h5, h6, h7, h8, h9⟩ := low_rat n d hd (Nat.gcd n.natAbs d.natAbs) rfl
  have hg : gcdL [n, d] = Nat.gcd n.natAbs d.natAbs := by simp [gcdL]
  have hle : Nat.gcd n.natAbs d.natAbs ≤ d.natAbs := Nat.le_of_dvd (by omega) (Nat.gcd_dvd_right _ _)
  have hdiv := divisor_eq fu [n, d] (by simp; omega) (by simp) (by intro x hx; simp only [List.mem_cons, List.not_mem_nil, or_false] at hx; omega) (by rw [hg]; omega)
  have hn2 := h5 hn
  generalize Nat.gcd n.natAbs d.natAbs = g at *
  have hnle : n' ≤ n := by
    have := Int.mul_le_mul_of_nonneg_left (show (1 : Int) ≤ (g : Int) by omega) hn2
    omega
  refine ⟨n', d', ?_, hn2, hnle, h3, h4, ⟨(g : Int), by omega, h6, h7⟩, h9⟩
  unfold u_Lowest
  rw [hdiv, Option.bind_some, hg, if_neg (by omega), h1, h2, wrapB (by omega) (by omega), wrapB (by omega) (by omega)]
theorem mulB {a b A B : Int} (h0 : 0 ≤ a) (h1 : a ≤ A) (h2 : 0 ≤ b) (h3 : b ≤ B) : 0 ≤ a * b ∧ a * b ≤ A * B :=
  ⟨Int.mul_nonneg h0 h2, Int.mul_le_mul h1 h3 h2 (by omega)⟩
theorem q_ne {d : Int} (h : 0 < d) : (d : Rat) ≠ 0 := by exact_mod_cast (show d ≠ 0 by omega)
theorem q_pos {d : Int} (h : 0 < d) : (0 : Rat) < (d : Rat) := by exact_mod_cast h
theorem q_lt {s N D h : Int} (hD : 0 < D) : (s : Rat) * ((N : Rat) / (D : Rat)) < (h : Rat) ↔ N * s < h * D := by
  have e : (D : Rat) * ((s : Rat) * ((N : Rat) / (D : Rat))) = ((N * s : Int) : Rat) := by
    have := q_ne hD
    rw [Rat.intCast_mul]; grind
  have e2 : (D : Rat) * (h : Rat) = ((h * D : Int) : Rat) := by rw [Rat.intCast_mul]; grind
  have p := q_pos hD
  constructor
  · intro h1
    rcases Int.lt_or_le (N * s) (h * D) with c | c
    · exact c
    · exfalso
      have c2 : ((h * D : Int) : Rat) ≤ ((N * s : Int) : Rat) := by exact_mod_cast c
      rw [← e, ← e2] at c2
      have := q_cancel p c2
      grind
  · intro h1
    have c2 : ((N * s : Int) : Rat) < ((h * D : Int) : Rat) := by exact_mod_cast h1
    rw [← e, ← e2] at c2
    rcases (Rat.le_total : (s : Rat) * ((N : Rat) / (D : Rat)) ≤ (h : Rat) ∨ _) with c | c
    · rcases (show (s : Rat) * ((N : Rat) / (D : Rat)) < (h : Rat) ∨ (s : Rat) * ((N : Rat) / (D : Rat)) = (h : Rat) by grind) with c3 | c3
      · exact c3
      · rw [c3] at c2; grind
    · have := Rat.mul_le_mul_of_nonneg_left c (Rat.le_of_lt p)
      grind
theorem q_sub {N D h s : Int} (hD : 0 < D) (hs : 0 < s) : ((N * s - h * D : Int) : Rat) / ((D * s : Int) : Rat) = (N : Rat) / (D : Rat) - (h : Rat) / (s : Rat) := by
  have a := q_ne hD
  have b := q_ne hs
  rw [Rat.intCast_sub, Rat.intCast_mul, Rat.intCast_mul, Rat.intCast_mul]
  generalize (D : Rat) = d at *
  generalize (s : Rat) = v at *
  generalize (N : Rat) = x at *
  generalize (h : Rat) = y at *
  grind
theorem q_add {N D w s : Int} (hD : 0 < D) (hs : 0 < s) : ((N * s + w * D : Int) : Rat) / ((D * s : Int) : Rat) = (N : Rat) / (D : Rat) + (w : Rat) / (s : Rat) := by
  have a := q_ne hD
  have b := q_ne hs
  rw [Rat.intCast_add, Rat.intCast_mul, Rat.intCast_mul, Rat.intCast_mul]
  generalize (D : Rat) = d at *
  generalize (s : Rat) = v at *
  generalize (N : Rat) = x at *
  generalize (w : Rat) = y at *
  grind
theorem q_end {dp D N s : Int} (hD : 0 < D) : ((dp * D + N * s : Int) : Rat) / (D : Rat) = (dp : Rat) + (s : Rat) * ((N : Rat) / (D : Rat)) := by
  have a := q_ne hD
  rw [Rat.intCast_add, Rat.intCast_mul, Rat.intCast_mul]
  generalize (D : Rat) = d at *
  grind

/-! ### The depth after a time -/
abbrev Ly := Int × Int × Int
def fl (sp : Ly → Int) (e : Ly) : Rat × Rat := ((e.1 : Rat), (sp e : Rat))
theorem dep_cons (sp : Ly → Int) (e : Ly) (r : List (Rat × Rat)) (s t : Rat) : dep (fl sp e :: r) s t = if (sp e : Rat) * t < (e.1 : Rat) then (sp e : Rat) * t else (e.1 : Rat) + dep r s (t - (e.1 : Rat) / (sp e : Rat)) := rfl
theorem tim_cons (sp : Ly → Int) (e : Ly) (r : List (Rat × Rat)) (s d : Rat) : tim (fl sp e :: r) s d = (if d ≤ (e.1 : Rat) then d else (e.1 : Rat)) / (sp e : Rat) + tim r s (d - if d ≤ (e.1 : Rat) then d else (e.1 : Rat)) := rfl
def dL (fu : Nat) (sp : Ly → Int) (p0 : List Ly) (p4 : Int) : Nat → Int → Int → Int → Int → Option ((Int × Int) ⊕ (Int × Int × Int))
  | 0, _, _, _, _ => none
  | n + 1, v1, v2, v3, v5 => if v5 < p4 then (if (0 : Int) ≤ v5 then (Option.bind ((p0)[0 + (v5).toNat]?) fun e3 => if (IntKind.wrap .i64 (v2 * sp e3)) < (IntKind.wrap .i64 (e3.1 * v3)) then (Option.bind (u_Lowest fu (IntKind.wrap .i64 ((IntKind.wrap .i64 (v1 * v3)) + (IntKind.wrap .i64 (v2 * sp e3)))) v3) fun r6 => some (.inl (r6.1, r6.2))) else (Option.bind (u_Lowest fu (IntKind.wrap .i64 ((IntKind.wrap .i64 (v2 * sp e3)) - (IntKind.wrap .i64 (e3.1 * v3)))) (IntKind.wrap .i64 (v3 * sp e3))) fun r7 => dL fu sp p0 p4 n (IntKind.wrap .i64 (v1 + e3.1)) r7.1 r7.2 (IntKind.wrap .i64 (v5 + (1 : Int))))) else none) else (some (.inr (v1, v2, v3)))
theorem dL_slow (fu : Nat) (p0 : List Ly) (p4 : Int) : ∀ (n : Nat) (a b c d : Int), s_depthAfter_slowest_L1 fu p0 p4 n a b c d = dL fu (fun e => e.2.1) p0 p4 n a b c d
  | 0, _, _, _, _ => rfl
  | n + 1, a, b, c, d => by
    unfold s_depthAfter_slowest_L1 dL
    simp only [s_slowest, Option.bind_some, dL_slow fu p0 p4 n]
theorem dL_fast (fu : Nat) (p0 : List Ly) (p4 : Int) : ∀ (n : Nat) (a b c d : Int), s_depthAfter_fastest_L1 fu p0 p4 n a b c d = dL fu (fun e => e.2.2) p0 p4 n a b c d
  | 0, _, _, _, _ => rfl
  | n + 1, a, b, c, d => by
    unfold s_depthAfter_fastest_L1 dL
    simp only [s_fastest, Option.bind_some, dL_fast fu p0 p4 n]
def okS (sp : Ly → Int) (e : Ly) : Prop := 1 ≤ e.1 ∧ e.1 ≤ 10000 ∧ 1 ≤ sp e ∧ sp e ≤ 100
theorem pow1 (n : Nat) : (1 : Int) ≤ 100 ^ n := by
  have := Int.pow_pos (n := 100) (m := n) (by omega)
  omega
theorem t_dL {fu : Nat} (hf : 10000000000000000000 ≤ fu) (sp : Ly → Int) (last : Ly) (T : Int) (hT : 0 ≤ T ∧ T ≤ 100000) : ∀ (r pre : List Ly) (n : Nat) (dp N D K : Int), (∀ e ∈ r, okS sp e) → r.length < n → pre.length + r.length ≤ 5 → 0 < D → D ≤ K → K * 100 ^ r.length ≤ 10000000000 → 0 ≤ N → N ≤ T * D → 0 ≤ dp → dp ≤ 10000 * (pre.length : Int) →
    ∃ o, dL fu sp (pre ++ (r ++ [last])) ((pre.length + r.length : Nat) : Int) n dp N D ((pre.length : Nat) : Int) = some o ∧ (match o with
      | .inl y => (0 ≤ y.1 ∧ y.1 ≤ 1000000000000000000 ∧ 0 < y.2 ∧ y.2 ≤ 10000000000) ∧ ∀ s : Rat, (y.1 : Rat) / (y.2 : Rat) = (dp : Rat) + dep (r.map (fl sp)) s ((N : Rat) / (D : Rat))
      | .inr y => (0 ≤ y.1 ∧ y.1 ≤ 50000 ∧ 0 ≤ y.2.1 ∧ y.2.1 ≤ T * y.2.2 ∧ 0 < y.2.2 ∧ y.2.2 ≤ 10000000000) ∧ ∀ s : Rat, (y.1 : Rat) + s * ((y.2.1 : Rat) / (y.2.2 : Rat)) = (dp : Rat) + dep (r.map (fl sp)) s ((N : Rat) / (D : Rat)))
  | _, _, 0, _, _, _, _, _, h, _, _, _, _, _, _, _, _ => by omega
  | [], pre, n + 1, dp, N, D, K, _, _, hlen, hD, hK, hK2, hN, hNT, hdp, hdp2 => by
    refine ⟨.inr (dp, N, D), ?_, ⟨hdp, ?_, hN, hNT, hD, ?_⟩, fun s => rfl⟩
    · unfold dL
      rw [if_neg (by simp)]
    · simp only [List.length_nil] at hlen; show dp ≤ 50000; omega
    · simp only [List.length_nil, Int.pow_zero, Int.mul_one] at hK2; show D ≤ _; omega
  | e :: r, pre, n + 1, dp, N, D, K, hok, hn, hlen, hD, hK, hK2, hN, hNT, hdp, hdp2 => by
    obtain ⟨e1, e2, e3, e4⟩ := hok e List.mem_cons_self
    simp only [List.length_cons] at hn hlen hK2
    have hp := pow1 r.length
    have hK3 : K * 100 * 100 ^ r.length ≤ 10000000000 := by rw [Int.pow_succ] at hK2; rw [Int.mul_assoc, Int.mul_comm 100]; exact hK2
    have hK4 : K * 100 ≤ 10000000000 := by
      have := Int.mul_le_mul_of_nonneg_left hp (show 0 ≤ K * 100 by omega)
      omega
    have hTD := mulB hT.1 hT.2 (show 0 ≤ D by omega) (show D ≤ 100000000 by omega)
    have hw := mulB hN (show N ≤ 10000000000000 by omega) (show 0 ≤ sp e by omega) e4
    have hh := mulB (show 0 ≤ e.1 by omega) e2 (show 0 ≤ D by omega) (show D ≤ 100000000 by omega)
    have hDs := mulB (show 0 ≤ D by omega) (show D ≤ K by omega) (show 0 ≤ sp e by omega) e4
    have hDs1 := Int.mul_pos hD (show 0 < sp e by omega)
    have hdD := mulB hdp (show dp ≤ 50000 by omega) (show 0 ≤ D by omega) (show D ≤ 100000000 by omega)
    have hget : (pre ++ (e :: r ++ [last]))[0 + (((pre.length : Nat) : Int)).toNat]? = some e := by
      rw [Int.toNat_natCast, Nat.zero_add]; simp
    unfold dL
    rw [if_pos (by simp only [List.length_cons]; omega), if_pos (by omega), hget, Option.bind_some, wrapB (x := N * sp e) (by omega) (by omega), wrapB (x := e.1 * D) (by omega) (by omega)]
    by_cases c : N * sp e < e.1 * D
    · rw [if_pos c, wrapB (x := dp * D) (by omega) (by omega), wrapB (by omega) (by omega)]
      obtain ⟨a, b, l1, l2, l3, l4, l5, _, l6⟩ := t_low hf (n := dp * D + N * sp e) (d := D) (by omega) (by omega) hD (by omega)
      rw [l1, Option.bind_some]
      refine ⟨_, rfl, ⟨l2, by show a ≤ _; omega, l4, by show b ≤ _; omega⟩, fun s => ?_⟩
      show (a : Rat) / (b : Rat) = _
      rw [l6, q_end hD, List.map_cons, dep_cons, if_pos ((q_lt hD).2 c)]
    · rw [if_neg c, wrapB (x := N * sp e - e.1 * D) (by omega) (by omega), wrapB (x := D * sp e) (by omega) (by omega)]
      obtain ⟨a, b, l1, l2, l3, l4, l5, ⟨g, g1, g2, g3⟩, l6⟩ := t_low hf (n := N * sp e - e.1 * D) (d := D * sp e) (by omega) (by omega) hDs1 (by omega)
      rw [l1, Option.bind_some, wrapB (by omega) (by omega), wrapS (by omega)]
      have hab : a ≤ T * b := by
        refine Int.le_of_mul_le_mul_right ?_ g1
        rw [← g2, Int.mul_assoc, ← g3, ← Int.mul_assoc]
        have := Int.mul_le_mul_of_nonneg_right hNT (show 0 ≤ sp e by omega)
        omega
      have ih := t_dL hf sp last T hT r (pre ++ [e]) n (dp + e.1) a b (K * 100) (fun x hx => hok x (List.mem_cons_of_mem _ hx)) (by omega) (by simp; omega) l4 (by omega) hK3 l2 hab (by omega) (by simp; omega)
      simp only [List.append_assoc, List.singleton_append, List.length_append, List.length_singleton] at ih
      rw [show pre.length + 1 + r.length = pre.length + (r.length + 1) by omega] at ih
      obtain ⟨o, i1, i2⟩ := ih
      refine ⟨o, by simpa using i1, ?_⟩
      have step : ∀ s : Rat, ((dp + e.1 : Int) : Rat) + dep (r.map (fl sp)) s ((a : Rat) / (b : Rat)) = (dp : Rat) + dep ((e :: r).map (fl sp)) s ((N : Rat) / (D : Rat)) := fun s => by
        rw [l6, q_sub hD (by omega), List.map_cons, dep_cons, if_neg (fun h => c ((q_lt hD).1 h)), Rat.intCast_add, Rat.add_assoc]
      cases o with
      | inl y => exact ⟨i2.1, fun s => (i2.2 s).trans (step s)⟩
      | inr y => exact ⟨i2.1, fun s => (i2.2 s).trans (step s)⟩
theorem cast_last {α : Type} (pre : List α) (last : α) : (pre ++ [last])[0 + (((pre.length : Nat) : Int)).toNat]? = some last := by
  rw [Int.toNat_natCast, Nat.zero_add]; simp
def dA (fu : Nat) (sp : Ly → Int) (a0 : List Ly) (a2 : Int) : Option (Int × Int) := if (IntKind.wrap .i64 ((a0.length : Int) - (1 : Int))) ≤ (a0.length : Int) then (if (0 : Int) ≤ (IntKind.wrap .i64 ((a0.length : Int) - (1 : Int))) then (if (IntKind.wrap .i64 ((a0.length : Int) - (1 : Int))) < (4611686018427387904 : Int) then (Option.bind (dL fu sp a0 (IntKind.wrap .i64 ((a0.length : Int) - (1 : Int))) fu (0 : Int) a2 (1 : Int) (0 : Int)) fun o4 => (match o4 with | .inl y5 => (some (y5.1, y5.2)) | .inr y6 => (if (0 : Int) ≤ (IntKind.wrap .i64 ((a0.length : Int) - (1 : Int))) then (if (IntKind.wrap .i64 ((a0.length : Int) - (1 : Int))) < (a0.length : Int) then (Option.bind ((a0)[0 + ((IntKind.wrap .i64 ((a0.length : Int) - (1 : Int)))).toNat]?) fun e9 => Option.bind (u_Lowest fu (IntKind.wrap .i64 ((IntKind.wrap .i64 (y6.1 * y6.2.2)) + (IntKind.wrap .i64 (y6.2.1 * sp e9)))) y6.2.2) fun r11 => some (r11.1, r11.2)) else none) else none))) else none) else none) else none
theorem dA_slow (fu : Nat) (l : List Ly) (t : Int) : s_depthAfter_slowest fu l t = dA fu (fun e => e.2.1) l t := by
  unfold s_depthAfter_slowest dA
  simp only [dL_slow, s_slowest, Option.bind_some]
  rfl
theorem dA_fast (fu : Nat) (l : List Ly) (t : Int) : s_depthAfter_fastest fu l t = dA fu (fun e => e.2.2) l t := by
  unfold s_depthAfter_fastest dA
  simp only [dL_fast, s_fastest, Option.bind_some]
  rfl
theorem t_dA {fu : Nat} (hf : 10000000000000000000 ≤ fu) (sp : Ly → Int) (last : Ly) (T : Int) (hT : 0 ≤ T ∧ T ≤ 100000) (r : List Ly) (hr : r.length ≤ 5) (hok : ∀ e ∈ r, okS sp e) (hl : okS sp last) :
    ∃ a b, dA fu sp (r ++ [last]) T = some (a, b) ∧ 0 ≤ a ∧ a ≤ 1000000000000000000 ∧ 0 < b ∧ b ≤ 10000000000 ∧ (a : Rat) / (b : Rat) = dep (r.map (fl sp)) (sp last : Rat) (T : Rat) := by
  have hK : (1 : Int) * 100 ^ r.length ≤ 10000000000 := by
    rcases (show r.length = 0 ∨ r.length = 1 ∨ r.length = 2 ∨ r.length = 3 ∨ r.length = 4 ∨ r.length = 5 by omega) with h | h | h | h | h | h <;> rw [h] <;> decide
  obtain ⟨o, h1, h2⟩ := t_dL hf sp last T hT r [] fu 0 T 1 1 hok (by omega) (by simpa using hr) (by omega) (by omega) hK hT.1 (by omega) (by omega) (by simp)
  simp only [List.nil_append, List.length_nil, Nat.zero_add] at h1
  rw [show ((0 : Nat) : Int) = 0 from rfl] at h1
  have h0 : (T : Rat) / ((1 : Int) : Rat) = (T : Rat) := by
    rw [show ((1 : Int) : Rat) = 1 from rfl]; grind
  have z0 : ((0 : Int) : Rat) = 0 := rfl
  have hw : IntKind.wrap .i64 (((r ++ [last]).length : Int) - 1) = ((r.length : Nat) : Int) := by
    rw [wrapB (by simp <;> omega) (by simp <;> omega)]; simp
  have hlen : (((r ++ [last]).length : Nat) : Int) = (r.length : Int) + 1 := by simp
  unfold dA
  simp only [hw]
  rw [hlen, if_pos (by omega), if_pos (by omega), if_pos (by omega), h1, Option.bind_some]
  cases o with
  | inl y =>
    obtain ⟨g, g2⟩ := h2
    refine ⟨y.1, y.2, rfl, g.1, g.2.1, g.2.2.1, g.2.2.2, ?_⟩
    rw [g2 (sp last : Rat), h0, z0, Rat.zero_add]
  | inr y =>
    obtain ⟨⟨g1, g3, g4, g5, g6, g7⟩, g2⟩ := h2
    obtain ⟨e1, e2, e3, e4⟩ := hl
    simp only
    have hD := mulB g1 g3 (show 0 ≤ y.2.2 by omega) g7
    have hTD := mulB hT.1 hT.2 (show 0 ≤ y.2.2 by omega) g7
    have hN := mulB g4 (show y.2.1 ≤ 1000000000000000 by omega) (show 0 ≤ sp last by omega) e4
    rw [if_pos (by omega), if_pos (by omega), cast_last, Option.bind_some, wrapB (x := y.1 * y.2.2) (by omega) (by omega), wrapB (x := y.2.1 * sp last) (by omega) (by omega), wrapB (by omega) (by omega)]
    obtain ⟨a, b, l1, l2, l3, l4, l5, _, l6⟩ := t_low hf (n := y.1 * y.2.2 + y.2.1 * sp last) (d := y.2.2) (by omega) (by omega) g6 (by omega)
    rw [l1, Option.bind_some]
    refine ⟨a, b, rfl, l2, by omega, l4, by omega, ?_⟩
    rw [l6, q_end g6, g2 (sp last : Rat), h0, z0, Rat.zero_add]

/-! ### The time to a depth -/
def tL (fu : Nat) (sp : Ly → Int) (p0 : List Ly) (p4 : Int) : Nat → Int → Int → Int → Int → Option ((Int × Int))
  | 0, _, _, _, _ => none
  | n + 1, v1, v2, v3, v5 => if v5 < p4 then (if (0 : Int) ≤ v5 then (if v5 < (p0.length : Int) then (Option.bind ((p0)[0 + (v5).toNat]?) fun e4 => if v5 < (IntKind.wrap .i64 ((p0.length : Int) - (1 : Int))) then (if e4.1 < v1 then (Option.bind (u_Lowest fu (IntKind.wrap .i64 ((IntKind.wrap .i64 (v2 * sp e4)) + (IntKind.wrap .i64 (e4.1 * v3)))) (IntKind.wrap .i64 (v3 * sp e4))) fun r8 => tL fu sp p0 p4 n (IntKind.wrap .i64 (v1 - e4.1)) r8.1 r8.2 (IntKind.wrap .i64 (v5 + (1 : Int)))) else (Option.bind (u_Lowest fu (IntKind.wrap .i64 ((IntKind.wrap .i64 (v2 * sp e4)) + (IntKind.wrap .i64 (v1 * v3)))) (IntKind.wrap .i64 (v3 * sp e4))) fun r10 => tL fu sp p0 p4 n (IntKind.wrap .i64 (v1 - v1)) r10.1 r10.2 (IntKind.wrap .i64 (v5 + (1 : Int))))) else (Option.bind (u_Lowest fu (IntKind.wrap .i64 ((IntKind.wrap .i64 (v2 * sp e4)) + (IntKind.wrap .i64 (v1 * v3)))) (IntKind.wrap .i64 (v3 * sp e4))) fun r12 => tL fu sp p0 p4 n (IntKind.wrap .i64 (v1 - v1)) r12.1 r12.2 (IntKind.wrap .i64 (v5 + (1 : Int))))) else none) else none) else (some (v2, v3))
theorem tL_slow (fu : Nat) (p0 : List Ly) (p4 : Int) : ∀ (n : Nat) (a b c d : Int), s_timeTo_slowest_L1 fu p0 p4 n a b c d = tL fu (fun e => e.2.1) p0 p4 n a b c d
  | 0, _, _, _, _ => rfl
  | n + 1, a, b, c, d => by
    unfold s_timeTo_slowest_L1 tL
    simp only [s_slowest, Option.bind_some, tL_slow fu p0 p4 n]
theorem tL_fast (fu : Nat) (p0 : List Ly) (p4 : Int) : ∀ (n : Nat) (a b c d : Int), s_timeTo_fastest_L1 fu p0 p4 n a b c d = tL fu (fun e => e.2.2) p0 p4 n a b c d
  | 0, _, _, _, _ => rfl
  | n + 1, a, b, c, d => by
    unfold s_timeTo_fastest_L1 tL
    simp only [s_fastest, Option.bind_some, tL_fast fu p0 p4 n]
/-- One layer of the way. -/
theorem t_step {fu : Nat} (hf : 10000000000000000000 ≤ fu) {s w d N D K : Int} (hs : 1 ≤ s ∧ s ≤ 100) (hw : 0 ≤ w ∧ w ≤ d) (hd : d ≤ 100000) (hD : 0 < D) (hK : D ≤ K) (hK2 : K ≤ 10000000000) (hN : 0 ≤ N) (hN2 : N ≤ (100000 - d) * D) :
    ∃ a b, u_Lowest fu (IntKind.wrap .i64 ((IntKind.wrap .i64 (N * s)) + (IntKind.wrap .i64 (w * D)))) (IntKind.wrap .i64 (D * s)) = some (a, b) ∧ 0 ≤ a ∧ a ≤ (100000 - (d - w)) * b ∧ 0 < b ∧ b ≤ K * 100 ∧ (a : Rat) / (b : Rat) = (N : Rat) / (D : Rat) + (w : Rat) / (s : Rat) := by
  have h1 := mulB (show 0 ≤ 100000 - d by omega) (show 100000 - d ≤ 100000 by omega) (show 0 ≤ D by omega) (show D ≤ 10000000000 by omega)
  have h2 := mulB hN (show N ≤ 1000000000000000 by omega) (show 0 ≤ s by omega) hs.2
  have h3 := mulB hw.1 (show w ≤ 100000 by omega) (show 0 ≤ D by omega) (show D ≤ 10000000000 by omega)
  have h4 := mulB (show 0 ≤ D by omega) hK (show 0 ≤ s by omega) hs.2
  have h5 := Int.mul_pos hD (show 0 < s by omega)
  rw [wrapB (x := N * s) (by omega) (by omega), wrapB (x := w * D) (by omega) (by omega), wrapB (x := D * s) (by omega) (by omega), wrapB (by omega) (by omega)]
  obtain ⟨a, b, l1, l2, l3, l4, l5, ⟨g, g1, g2, g3⟩, l6⟩ := t_low hf (n := N * s + w * D) (d := D * s) (by omega) (by omega) h5 (by omega)
  refine ⟨a, b, l1, l2, ?_, l4, by omega, by rw [l6, q_add hD (by omega)]⟩
  refine Int.le_of_mul_le_mul_right ?_ g1
  rw [← g2, Int.mul_assoc, ← g3]
  have e1 := Int.mul_le_mul_of_nonneg_right hN2 (show 0 ≤ s by omega)
  have e2 := Int.mul_le_mul_of_nonneg_left hs.1 h3.1
  have e3 : (100000 - (d - w)) * (D * s) = (100000 - d) * D * s + w * D * s := by grind
  omega
theorem t_tL {fu : Nat} (hf : 10000000000000000000 ≤ fu) (sp : Ly → Int) (last : Ly) (hl : okS sp last) : ∀ (r pre : List Ly) (n : Nat) (d N D K : Int), (∀ e ∈ r, okS sp e) → r.length + 1 < n → pre.length + r.length ≤ 5 → 0 ≤ d → d ≤ 100000 → 0 < D → D ≤ K → K * 100 ^ r.length ≤ 10000000000 → 0 ≤ N → N ≤ (100000 - d) * D →
    ∃ a b, tL fu sp (pre ++ (r ++ [last])) ((pre.length + r.length + 1 : Nat) : Int) n d N D ((pre.length : Nat) : Int) = some (a, b) ∧ 0 ≤ a ∧ a ≤ 1000000000000000000 ∧ 0 < b ∧ b ≤ 1000000000000 ∧ (a : Rat) / (b : Rat) = (N : Rat) / (D : Rat) + tim (r.map (fl sp)) (sp last : Rat) (d : Rat)
  | _, _, 0, _, _, _, _, _, h, _, _, _, _, _, _, _, _ => by omega
  | [], pre, n + 1, d, N, D, K, _, hn, hlen, hd, hd2, hD, hK, hK2, hN, hN2 => by
    simp only [List.length_nil, Int.pow_zero, Int.mul_one] at hn hlen hK2
    obtain ⟨a, b, l1, l2, l3, l4, l5, l6⟩ := t_step hf (s := sp last) (w := d) ⟨hl.2.2.1, hl.2.2.2⟩ ⟨hd, by omega⟩ hd2 hD hK hK2 hN hN2
    have hb := mulB (show 0 ≤ 100000 - (d - d) by omega) (show 100000 - (d - d) ≤ 100000 by omega) (show 0 ≤ b by omega) (show b ≤ 1000000000000 by omega)
    obtain ⟨n, rfl⟩ : ∃ m, n = m + 1 := ⟨n - 1, by omega⟩
    refine ⟨a, b, ?_, l2, by omega, l4, by omega, ?_⟩
    · unfold tL
      rw [if_pos (by simp <;> omega), if_pos (by omega), if_pos (by simp <;> omega), List.nil_append, cast_last, Option.bind_some, if_neg (by rw [wrapB (by simp <;> omega) (by simp <;> omega)]; simp), l1, Option.bind_some, wrapS (by omega)]
      unfold tL
      rw [if_neg (by simp)]
    · rw [l6]; rfl
  | e :: r, pre, n + 1, d, N, D, K, hok, hn, hlen, hd, hd2, hD, hK, hK2, hN, hN2 => by
    obtain ⟨e1, e2, e3, e4⟩ := hok e List.mem_cons_self
    simp only [List.length_cons] at hn hlen hK2
    have hp := pow1 r.length
    have hK3 : K * 100 * 100 ^ r.length ≤ 10000000000 := by rw [Int.pow_succ] at hK2; rw [Int.mul_assoc, Int.mul_comm 100]; exact hK2
    have hK4 : K * 100 ≤ 10000000000 := by
      have := Int.mul_le_mul_of_nonneg_left hp (show 0 ≤ K * 100 by omega)
      omega
    have hget : (pre ++ (e :: r ++ [last]))[0 + (((pre.length : Nat) : Int)).toNat]? = some e := by
      rw [Int.toNat_natCast, Nat.zero_add]; simp
    have step : ∀ w : Int, (0 ≤ w ∧ w ≤ d) → (w : Rat) = (if (d : Rat) ≤ (e.1 : Rat) then (d : Rat) else (e.1 : Rat)) → ∃ a b a' b', u_Lowest fu (IntKind.wrap .i64 ((IntKind.wrap .i64 (N * sp e)) + (IntKind.wrap .i64 (w * D)))) (IntKind.wrap .i64 (D * sp e)) = some (a', b') ∧
        tL fu sp (pre ++ (e :: r ++ [last])) ((pre.length + (r.length + 1) + 1 : Nat) : Int) n (d - w) a' b' ((pre.length + 1 : Nat) : Int) = some (a, b) ∧ 0 ≤ a ∧ a ≤ 1000000000000000000 ∧ 0 < b ∧ b ≤ 1000000000000 ∧ (a : Rat) / (b : Rat) = (N : Rat) / (D : Rat) + tim ((e :: r).map (fl sp)) (sp last : Rat) (d : Rat) := by
      intro w hw hwr
      obtain ⟨a', b', l1, l2, l3, l4, l5, l6⟩ := t_step hf (s := sp e) (w := w) ⟨e3, e4⟩ hw hd2 hD hK (by omega) hN hN2
      have ih := t_tL hf sp last hl r (pre ++ [e]) n (d - w) a' b' (K * 100) (fun x hx => hok x (List.mem_cons_of_mem _ hx)) (by omega) (by simp <;> omega) (by omega) (by omega) l4 l5 hK3 l2 l3
      simp only [List.append_assoc, List.singleton_append, List.length_append, List.length_singleton] at ih
      rw [show pre.length + 1 + r.length + 1 = pre.length + (r.length + 1) + 1 by omega] at ih
      obtain ⟨a, b, i1, i2, i3, i4, i5, i6⟩ := ih
      refine ⟨a, b, a', b', l1, i1, i2, i3, i4, i5, ?_⟩
      rw [i6, l6, List.map_cons, tim_cons, ← hwr, Rat.intCast_sub, Rat.add_assoc]
    unfold tL
    rw [if_pos (by simp only [List.length_cons]; omega), if_pos (by omega), if_pos (by simp <;> omega), hget, Option.bind_some, if_pos (by rw [wrapB (by simp <;> omega) (by simp <;> omega)]; simp <;> omega)]
    by_cases c : e.1 < d
    · obtain ⟨a, b, a', b', l1, l2, l3⟩ := step e.1 (by omega) (by
        rw [if_neg]
        intro h
        have : d ≤ e.1 := by exact_mod_cast h
        omega)
      rw [if_pos c, l1, Option.bind_some, wrapB (by omega) (by omega), wrapS (by omega)]
      exact ⟨a, b, by simpa using l2, l3⟩
    · obtain ⟨a, b, a', b', l1, l2, l3⟩ := step d (by omega) (by
        rw [if_pos]
        exact_mod_cast (show d ≤ e.1 by omega))
      rw [if_neg c, l1, Option.bind_some, wrapB (by omega) (by omega), wrapS (by omega)]
      exact ⟨a, b, by simpa using l2, l3⟩
end Go.Proofs.YtaafodbiigdbaaaGreat
