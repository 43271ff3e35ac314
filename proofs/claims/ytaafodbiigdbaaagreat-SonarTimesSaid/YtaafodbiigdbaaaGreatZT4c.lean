/-
  'SonarTimes': the lifted law is true.
-/
import Derived.Test.YtaafodbiigdbaaaGreatZT4b
import Derived.Test.YtaafodbiigdbaaaGreatZT4l
set_option linter.all false
namespace Go.Proofs.YtaafodbiigdbaaaGreat
open Go Go.RowKit

/-! ### Layers -/
def okL (e : Ly) : Prop := (1 ≤ e.1 ∧ e.1 ≤ 10000) ∧ (1 ≤ e.2.1 ∧ e.2.1 ≤ 100) ∧ (1 ≤ e.2.2 ∧ e.2.2 ≤ 100) ∧ e.2.1 ≤ e.2.2
theorem t_layer {fu : Nat} (hf : 10 ≤ fu) {e : Ly} (h : okL e) : s_layerError fu e.1 e.2.1 e.2.2 = some 0 := by
  obtain ⟨h1, h2, h3, h4⟩ := h
  unfold s_layerError u_OrderError
  rw [x_limit, Option.bind_some, n_limits fu _ _ _ (by simp <;> omega) (by simp), Option.bind_some, if_neg (by omega), Option.bind_some, x_first fu _ (by simp <;> omega) (by simp), Option.bind_some]
  simp only [firstE, allE, limE_zero.2 h1, limE_zero.2 h2, limE_zero.2 h3, if_true]
theorem t_fb {fu : Nat} (hf : 10 ≤ fu) (l : List Ly) (hl : l.length < 1000) : ∀ (r pre : List Ly) (n : Nat), l = pre ++ r → (∀ e ∈ r, okL e) → r.length < n → u_FirstBad_SonarLayer_layerError_L1 fu l (l.length : Int) n ((pre.length : Nat) : Int) = some (.inr ())
  | _, _, 0, _, _, h => by omega
  | [], pre, n + 1, h, _, _ => by
    subst h
    rw [u_FirstBad_SonarLayer_layerError_L1, if_neg (by simp)]
  | e :: r, pre, n + 1, h, ho, hn => by
    obtain ⟨g1, g2, g3, g4⟩ := n_cons h
    rw [List.length_cons] at hn
    rw [u_FirstBad_SonarLayer_layerError_L1, if_pos g1, if_pos g2, if_pos g1, g3, Option.bind_some, t_layer hf (ho e List.mem_cons_self), Option.bind_some, if_pos rfl, wrapS (by omega), show pre.length + 1 = (pre ++ [e]).length by simp]
    exact t_fb hf l hl r (pre ++ [e]) n (by simp [h]) (fun x hx => ho x (List.mem_cons_of_mem _ hx)) (by omega)
theorem t_layers {fu : Nat} (hf : 10 ≤ fu) (l : List Ly) (h1 : 1 ≤ l.length) (h2 : l.length ≤ 6) (ho : ∀ e ∈ l, okL e) : s_layersError fu l = some 0 := by
  have e := t_fb hf l (by omega) l [] fu rfl ho (by omega)
  rw [List.length_nil, show ((0 : Nat) : Int) = 0 from rfl] at e
  unfold s_layersError s_CheckLayers u_CheckList_SonarLayer_layerError u_FirstBad_SonarLayer_layerError
  rw [if_neg (by omega), if_neg (by omega), e]
  rfl
theorem t_refL (fu : Nat) (l : List Ly) (hl : l.length < 1000) : ∀ (r pre : List Ly) (n : Nat), l = pre ++ r → r.length < n → ∃ o, r4_CheckLayers_L1 fu l n ((pre.length : Nat) : Int) = some o ∧ (match o with | .inl y => y.2 ≠ 0 | .inr _ => ∀ e ∈ r, okL e)
  | _, _, 0, _, h => by omega
  | [], pre, n + 1, h, _ => by
    subst h
    rw [r4_CheckLayers_L1, if_neg (by simp)]
    exact ⟨_, rfl, fun e he => by cases he⟩
  | e :: r, pre, n + 1, h, hn => by
    obtain ⟨g1, g2, g3, g4⟩ := n_cons h
    rw [List.length_cons] at hn
    obtain ⟨o, i1, i2⟩ := t_refL fu l hl r (pre ++ [e]) n (by simp [h]) (by omega)
    rw [show (pre ++ [e]).length = pre.length + 1 by simp] at i1
    rw [r4_CheckLayers_L1, if_pos g1, if_pos g2, g3, Option.bind_some, x_within, Option.bind_some]
    simp only [x_within, Option.bind_some, decide_eq_true_eq]
    by_cases c1 : 1 ≤ e.1 ∧ e.1 ≤ 10000
    · rw [if_pos c1]
      by_cases c2 : 1 ≤ e.2.1 ∧ e.2.1 ≤ 100
      · rw [if_pos c2]
        by_cases c3 : 1 ≤ e.2.2 ∧ e.2.2 ≤ 100
        · rw [if_pos c3]
          by_cases c4 : e.2.2 < e.2.1
          · rw [if_pos c4]; exact ⟨_, rfl, by simp⟩
          · rw [if_neg c4, wrapS (by omega), i1]
            refine ⟨o, rfl, ?_⟩
            cases o with
            | inl y => exact i2
            | inr y =>
              intro x hx
              rcases List.mem_cons.1 hx with rfl | hx
              · exact ⟨c1, c2, c3, by omega⟩
              · exact i2 x hx
        · rw [if_neg c3]; exact ⟨_, rfl, by simp⟩
      · rw [if_neg c2]; exact ⟨_, rfl, by simp⟩
    · rw [if_neg c1]; exact ⟨_, rfl, by simp⟩
theorem t_ref (fu : Nat) (hf : 1000 ≤ fu) (l : List Ly) : ∃ r, r4_LayersErr fu l = some r ∧ (r = 0 → 1 ≤ l.length ∧ l.length ≤ 6 ∧ ∀ e ∈ l, okL e) := by
  unfold r4_LayersErr r4_CheckLayers
  by_cases h0 : (l.length : Int) = 0
  · rw [if_pos h0]; exact ⟨_, rfl, by simp⟩
  · rw [if_neg h0]
    by_cases h6 : (6 : Int) < (l.length : Int)
    · rw [if_pos h6]; exact ⟨_, rfl, by simp⟩
    · rw [if_neg h6]
      obtain ⟨o, i1, i2⟩ := t_refL fu l (by omega) l [] fu rfl (by omega)
      rw [List.length_nil, show ((0 : Nat) : Int) = 0 from rfl] at i1
      rw [i1]
      cases o with
      | inl y => exact ⟨_, rfl, fun h => absurd h i2⟩
      | inr y => exact ⟨_, rfl, fun _ => ⟨by omega, by omega, i2⟩⟩

/-! ### Ranges outward -/
def Fl (l : Int) (x : Rat) : Prop := ∃ a b : Int, 0 < b ∧ l = a / b ∧ (a : Rat) / (b : Rat) = x
def Ce (h : Int) (x : Rat) : Prop := ∃ a b : Int, 0 < b ∧ h = (a + b - 1) / b ∧ (a : Rat) / (b : Rat) = x
theorem Fl.mono {l l' : Int} {x x' : Rat} (h : Fl l x) (h' : Fl l' x') (hx : x ≤ x') : l ≤ l' := by
  obtain ⟨a, b, h1, rfl, h3⟩ := h
  obtain ⟨c, d, k1, rfl, k3⟩ := h'
  exact q_floor h1 k1 (q_le h1 k1 (by rw [h3, k3]; exact hx))
theorem Ce.mono {l l' : Int} {x x' : Rat} (h : Ce l x) (h' : Ce l' x') (hx : x ≤ x') : l ≤ l' := by
  obtain ⟨a, b, h1, rfl, h3⟩ := h
  obtain ⟨c, d, k1, rfl, k3⟩ := h'
  have e := q_le h1 k1 (by rw [h3, k3]; exact hx)
  rw [q_ceil h1, q_ceil k1]
  have := q_floor k1 h1 (show -c * b ≤ -a * d by rw [Int.neg_mul, Int.neg_mul]; omega)
  omega
theorem Fl.int (z : Int) : Fl z (z : Rat) := ⟨z, 1, by omega, by simp, by rw [show ((1 : Int) : Rat) = 1 from rfl]; grind⟩
theorem Ce.int (z : Int) : Ce z (z : Rat) := ⟨z, 1, by omega, by simp, by rw [show ((1 : Int) : Rat) = 1 from rfl]; grind⟩
theorem t_out {a b c d : Int} (ha : 0 ≤ a) (ha' : a ≤ 1000000000000000000) (hb : 0 < b) (hc : 0 ≤ c) (hc' : c ≤ 1000000000000000000) (hd : 0 < d) (hd' : d ≤ 1000000000000) : s_outward a b c d = some (a / b, (c + d - 1) / d) := by
  unfold s_outward
  have h1 := Int.ediv_nonneg ha (show 0 ≤ b by omega)
  have h2 := Int.ediv_le_self b ha
  have h3 := Int.ediv_nonneg (show 0 ≤ c + d - 1 by omega) (show 0 ≤ d by omega)
  have h4 := Int.ediv_le_self d (show 0 ≤ c + d - 1 by omega)
  rw [if_neg (by omega), if_neg (by omega), wrapB (x := c + d) (by omega) (by omega), wrapB (x := c + d - 1) (by omega) (by omega), Int.tdiv_eq_ediv_of_nonneg ha, Int.tdiv_eq_ediv_of_nonneg (by omega), wrapB (by omega) (by omega), wrapB (by omega) (by omega)]
def lo (e : Ly) : Int := e.2.1
def hi (e : Ly) : Int := e.2.2
theorem okS_lo {e : Ly} (h : okL e) : okS lo e := ⟨h.1.1, h.1.2, h.2.1.1, h.2.1.2⟩
theorem okS_hi {e : Ly} (h : okL e) : okS hi e := ⟨h.1.1, h.1.2, h.2.2.1.1, h.2.2.1.2⟩
theorem t_depth {fu : Nat} (hf : 10000000000000000000 ≤ fu) (r : List Ly) (last : Ly) (hr : r.length ≤ 5) (ho : ∀ e ∈ r, okL e) (hl : okL last) (T : Int) (hT : 0 ≤ T ∧ T ≤ 100000) :
    ∃ l h, s_DepthIn fu (r ++ [last]) T = some (l, h, 0) ∧ Fl l (dep (r.map (fl lo)) (lo last : Rat) (T : Rat)) ∧ Ce h (dep (r.map (fl hi)) (hi last : Rat) (T : Rat)) := by
  obtain ⟨a, b, a1, a2, a3, a4, a5, a6⟩ := t_dA hf lo last T hT r hr (fun e he => okS_lo (ho e he)) (okS_lo hl)
  obtain ⟨c, d, c1, c2, c3, c4, c5, c6⟩ := t_dA hf hi last T hT r hr (fun e he => okS_hi (ho e he)) (okS_hi hl)
  refine ⟨a / b, (c + d - 1) / d, ?_, ⟨a, b, a4, rfl, a6⟩, ⟨c, d, c4, rfl, c6⟩⟩
  unfold s_DepthIn
  rw [t_layers (by omega) (r ++ [last]) (by simp) (by simp <;> omega) (by
    intro e he
    rcases List.mem_append.1 he with h | h
    · exact ho e h
    · rw [List.mem_singleton.1 h]; exact hl), Option.bind_some, x_limit, Option.bind_some, x_first fu _ (by simp <;> omega) (by simp), Option.bind_some]
  simp only [firstE, limE_zero.2 hT, if_true]
  rw [dA_slow, dA_fast, show (fun e : Ly => e.2.1) = lo from rfl, show (fun e : Ly => e.2.2) = hi from rfl, a1, c1, Option.bind_some, Option.bind_some, t_out a2 a3 a4 c2 c3 c4 (by omega), Option.bind_some]
theorem t_tA {fu : Nat} (hf : 10000000000000000000 ≤ fu) (sp : Ly → Int) (r : List Ly) (last : Ly) (hr : r.length ≤ 5) (ho : ∀ e ∈ r, okS sp e) (hl : okS sp last) (d : Int) (hd : 0 ≤ d ∧ d ≤ 100000) :
    ∃ a b, tL fu sp (r ++ [last]) (((r ++ [last]).length : Nat) : Int) fu d 0 1 0 = some (a, b) ∧ 0 ≤ a ∧ a ≤ 1000000000000000000 ∧ 0 < b ∧ b ≤ 1000000000000 ∧ (a : Rat) / (b : Rat) = tim (r.map (fl sp)) (sp last : Rat) (d : Rat) := by
  have hK : (1 : Int) * 100 ^ r.length ≤ 10000000000 := by
    rcases (show r.length = 0 ∨ r.length = 1 ∨ r.length = 2 ∨ r.length = 3 ∨ r.length = 4 ∨ r.length = 5 by omega) with h | h | h | h | h | h <;> rw [h] <;> decide
  obtain ⟨a, b, h1, h2, h3, h4, h5, h6⟩ := t_tL hf sp last hl r [] fu d 0 1 1 ho (by omega) (by simpa using hr) hd.1 hd.2 (by omega) (by omega) hK (by omega) (by omega)
  refine ⟨a, b, by simpa using h1, h2, h3, h4, h5, ?_⟩
  rw [h6, show ((0 : Int) : Rat) = 0 from rfl]
  grind
theorem t_time {fu : Nat} (hf : 10000000000000000000 ≤ fu) (r : List Ly) (last : Ly) (hr : r.length ≤ 5) (ho : ∀ e ∈ r, okL e) (hl : okL last) (d : Int) (hd : 0 ≤ d) :
    if d ≤ 100000 then ∃ l h, s_TimeIn fu (r ++ [last]) d = some (l, h, 0) ∧ Fl l (tim (r.map (fl hi)) (hi last : Rat) (d : Rat)) ∧ Ce h (tim (r.map (fl lo)) (lo last : Rat) (d : Rat)) else s_TimeIn fu (r ++ [last]) d = some (0, 0, 2) := by
  have e0 := t_layers (fu := fu) (by omega) (r ++ [last]) (by simp) (by simp <;> omega) (by
    intro e he
    rcases List.mem_append.1 he with h | h
    · exact ho e h
    · rw [List.mem_singleton.1 h]; exact hl)
  by_cases hT : d ≤ 100000
  · rw [if_pos hT]
    obtain ⟨a, b, a1, a2, a3, a4, a5, a6⟩ := t_tA hf hi r last hr (fun e he => okS_hi (ho e he)) (okS_hi hl) d ⟨hd, hT⟩
    obtain ⟨c, d', c1, c2, c3, c4, c5, c6⟩ := t_tA hf lo r last hr (fun e he => okS_lo (ho e he)) (okS_lo hl) d ⟨hd, hT⟩
    refine ⟨a / b, (c + d' - 1) / d', ?_, ⟨a, b, a4, rfl, a6⟩, ⟨c, d', c4, rfl, c6⟩⟩
    unfold s_TimeIn s_timeTo_fastest s_timeTo_slowest
    rw [e0, Option.bind_some, x_limit, Option.bind_some, x_first fu _ (by simp <;> omega) (by simp), Option.bind_some]
    simp only [firstE, limE_zero.2 ⟨hd, hT⟩, if_true]
    rw [tL_fast, tL_slow, show (fun e : Ly => e.2.1) = lo from rfl, show (fun e : Ly => e.2.2) = hi from rfl, a1, c1, Option.bind_some, Option.bind_some, Option.bind_some, Option.bind_some, t_out a2 a3 a4 c2 c3 c4 c5, Option.bind_some]
  · rw [if_neg hT]
    unfold s_TimeIn
    rw [e0, Option.bind_some, x_limit, Option.bind_some, x_first fu _ (by simp <;> omega) (by simp), Option.bind_some]
    simp only [firstE, limE_two (a := d) (lo := 0) (hi := 100000) (by omega), if_true]
    rfl

/-! ### The layers of the law -/
theorem t_mod {n d : Int} (h : 0 < d) (h' : d ≤ 1000000) : b_Mod n d = some (n % d) := by
  unfold b_Mod
  have e := Int.tmod_eq_emod (a := n) (b := d)
  have h1 := Int.emod_nonneg n (show d ≠ 0 by omega)
  have h2 := Int.emod_lt_of_pos n h
  rw [if_neg (by omega)]
  by_cases c : 0 ≤ n ∨ d ∣ n
  · rw [if_pos c] at e
    rw [if_neg (by omega), e]
    congr 1; omega
  · rw [if_neg c] at e
    rw [if_pos (by omega), e, wrapB (by omega) (by omega)]
    congr 1; omega
abbrev Lz := Ly × Int
def vv (z : Lz) : Int := z.1.2.1 + z.2 % (z.1.2.2 - z.1.2.1 + 1)
def tk (z : Lz) : Int := 1 + z.1.1 % 20
def exL (z : Lz) : Ly := (vv z * tk z, z.1.2.1, z.1.2.2)
theorem vv_in {z : Lz} (h : okL z.1) : z.1.2.1 ≤ vv z ∧ vv z ≤ z.1.2.2 := by
  obtain ⟨_, _, _, h4⟩ := h
  unfold vv
  have h1 := Int.emod_nonneg z.2 (show z.1.2.2 - z.1.2.1 + 1 ≠ 0 by omega)
  have h2 := Int.emod_lt_of_pos z.2 (show 0 < z.1.2.2 - z.1.2.1 + 1 by omega)
  omega
theorem tk_in (z : Lz) : 1 ≤ tk z ∧ tk z ≤ 20 := by
  unfold tk
  have h1 := Int.emod_nonneg z.1.1 (show (20 : Int) ≠ 0 by omega)
  have h2 := Int.emod_lt_of_pos z.1.1 (show (0 : Int) < 20 by omega)
  omega
theorem exL_in {z : Lz} (h : okL z.1) : 1 ≤ vv z * tk z ∧ vv z * tk z ≤ 2000 := by
  have h1 := vv_in h
  have h2 := tk_in z
  obtain ⟨_, h3, h4, _⟩ := h
  have h5 := mulB (show 0 ≤ vv z by omega) (show vv z ≤ 100 by omega) (show 0 ≤ tk z by omega) h2.2
  have h6 := Int.mul_pos (show 0 < vv z by omega) (show 0 < tk z by omega)
  omega
theorem exL_ok {z : Lz} (h : okL z.1) : okL (exL z) := by
  have := exL_in h
  exact ⟨⟨this.1, by show vv z * tk z ≤ 10000; omega⟩, h.2⟩
def sV (z : Lz) : Rat × Rat := (((vv z * tk z : Int) : Rat), (vv z : Rat))
theorem dep_zero : ∀ (l : List (Rat × Rat)) (s : Rat), (∀ x ∈ l, 0 < x.1) → dep l s 0 = 0
  | [], s, _ => by unfold dep; grind
  | (h, v) :: r, s, hl => by
    have := hl (h, v) List.mem_cons_self
    unfold dep
    rw [if_pos (by simp only at this; grind)]; grind
theorem sV_pos {r : List Lz} (ho : ∀ z ∈ r, okL z.1) : ∀ x ∈ r.map sV, 0 < x.1 := by
  intro x hx
  obtain ⟨z, hz, rfl⟩ := List.mem_map.1 hx
  exact q_pos (by have := exL_in (ho z hz); omega)
theorem sV_lt {z : Lz} (h : okL z.1) (t : Int) : (vv z : Rat) * (t : Rat) < ((vv z * tk z : Int) : Rat) ↔ t < tk z := by
  have hv := vv_in h
  have hp := h.2.1
  rw [← Rat.intCast_mul]
  constructor
  · intro c
    rcases Int.lt_or_le t (tk z) with d | d
    · exact d
    · exfalso
      have e := Int.mul_le_mul_of_nonneg_left d (show 0 ≤ vv z by omega)
      have : ((vv z * tk z : Int) : Rat) ≤ ((vv z * t : Int) : Rat) := by exact_mod_cast e
      grind
  · intro c
    have e := Int.mul_lt_mul_of_pos_left c (show 0 < vv z by omega)
    exact_mod_cast e
theorem sV_div {z : Lz} (h : okL z.1) : ((vv z * tk z : Int) : Rat) / (vv z : Rat) = (tk z : Rat) := by
  have hv := vv_in h
  have hp := h.2.1
  have := q_ne (show 0 < vv z by omega)
  rw [Rat.intCast_mul]; grind
theorem dep_sV (z : Lz) (r : List (Rat × Rat)) (s t : Rat) : dep (sV z :: r) s t = if (vv z : Rat) * t < ((vv z * tk z : Int) : Rat) then (vv z : Rat) * t else ((vv z * tk z : Int) : Rat) + dep r s (t - ((vv z * tk z : Int) : Rat) / (vv z : Rat)) := rfl
theorem set_at {α : Type} (P Q : List α) (x y : α) : (P ++ x :: Q).set (0 + (((P.length : Nat) : Int)).toNat) y = P ++ y :: Q := by
  rw [Int.toNat_natCast, Nat.zero_add]; simp
theorem get_at {α : Type} (P Q : List α) (x : α) : (P ++ x :: Q)[0 + (((P.length : Nat) : Int)).toNat]? = some x := by
  rw [Int.toNat_natCast, Nat.zero_add]; simp
theorem t_law (fu : Nat) (a2 : Int) (last : Lz) (hl : okL last.1) : ∀ (r pre : List Lz) (n : Nat) (dp t : Int), (∀ z ∈ r, okL z.1) → r.length + 1 < n → pre.length + r.length ≤ 5 → 0 ≤ t → t ≤ 1000 → 0 ≤ dp → dp ≤ 100 * (1000 - t) →
    ∃ D : Int, l4_SonarTimes_L1 fu ((pre ++ (r ++ [last])).map (·.1)) ((pre ++ (r ++ [last])).map (·.2)) a2 n (pre.map exL ++ (r ++ [last]).map (·.1)) dp t ((pre.length : Nat) : Int) = some ((pre ++ (r ++ [last])).map exL, D) ∧ 0 ≤ D ∧ D ≤ 100000 ∧ (D : Rat) = (dp : Rat) + dep (r.map sV) (vv last : Rat) (t : Rat)
  | _, _, 0, _, _, _, h, _, _, _, _, _ => by omega
  | [], pre, n + 1, dp, t, _, hn, hlen, ht, ht2, hdp, hdp2 => by
    obtain ⟨n, rfl⟩ : ∃ m, n = m + 1 := ⟨n - 1, by simp at hn; omega⟩
    have hv := vv_in hl
    have hk := tk_in last
    have hx := exL_in hl
    obtain ⟨_, h3, h4, h5⟩ := hl
    simp only [List.length_nil] at hlen
    have hm := mulB (show 0 ≤ vv last by omega) (show vv last ≤ 100 by omega) ht ht2
    have hm2 := Int.mul_le_mul_of_nonneg_right (show vv last ≤ 100 by omega) ht
    refine ⟨dp + vv last * t, ?_, by omega, by omega, ?_⟩
    · rw [l4_SonarTimes_L1, if_pos (by simp <;> omega), if_pos (by omega)]
      simp only [List.nil_append, List.map_append, List.map_cons, List.map_nil]
      have g1 := get_at (pre.map (·.1)) [] last.1
      have g2 := get_at (pre.map (·.2)) [] last.2
      have g3 := get_at (pre.map exL) [] last.1
      have g4 := set_at (pre.map exL) [] last.1 (exL last)
      rw [List.length_map] at g1 g2 g3 g4
      rw [g1, Option.bind_some, if_pos (by simp <;> omega), g2, Option.bind_some, wrapB (x := last.1.2.2 - last.1.2.1) (by omega) (by omega), wrapB (x := last.1.2.2 - last.1.2.1 + 1) (by omega) (by omega), t_mod (by omega) (by omega), Option.bind_some, t_mod (by omega) (by omega), Option.bind_some, if_pos (by simp <;> omega), g3, Option.bind_some,
        if_pos (by simp only [List.length_append, List.length_map, List.length_cons, List.length_nil]; rw [wrapB (by omega) (by omega)]; omega)]
      rw [show last.1.2.1 + last.2 % (last.1.2.2 - last.1.2.1 + 1) = vv last from rfl, show 1 + last.1.1 % 20 = tk last from rfl, wrapB (x := vv last) (by omega) (by omega), wrapB (x := tk last) (by omega) (by omega), wrapB (x := vv last * tk last) (by omega) (by omega), wrapB (x := vv last * t) (by omega) (by omega), wrapB (x := dp + vv last * t) (by omega) (by omega), wrapS (by omega), show (vv last * tk last, last.1.2.1, last.1.2.2) = exL last from rfl, g4]
      rw [l4_SonarTimes_L1, if_neg (by simp)]
    · rw [Rat.intCast_add, Rat.intCast_mul]; rfl
  | z :: r, pre, n + 1, dp, t, ho, hn, hlen, ht, ht2, hdp, hdp2 => by
    have hz := ho z List.mem_cons_self
    have hv := vv_in hz
    have hk := tk_in z
    have hx := exL_in hz
    have hz' := hz
    obtain ⟨_, h3, h4, h5⟩ := hz'
    simp only [List.length_cons] at hlen hn
    have hm := mulB (show 0 ≤ vv z by omega) (show vv z ≤ 100 by omega) ht ht2
    have hm2 := Int.mul_le_mul_of_nonneg_right (show vv z ≤ 100 by omega) ht
    have hm3 := Int.mul_le_mul_of_nonneg_right (show vv z ≤ 100 by omega) (show 0 ≤ tk z by omega)
    have g1 := get_at (pre.map (·.1)) ((r ++ [last]).map (·.1)) z.1
    have g2 := get_at (pre.map (·.2)) ((r ++ [last]).map (·.2)) z.2
    have g3 := get_at (pre.map exL) ((r ++ [last]).map (·.1)) z.1
    have g4 := set_at (pre.map exL) ((r ++ [last]).map (·.1)) z.1 (exL z)
    rw [List.length_map] at g1 g2 g3 g4
    have rc := fun (d u : Int) => t_law fu a2 last hl r (pre ++ [z]) n d u (fun x hx => ho x (List.mem_cons_of_mem _ hx)) (by omega) (by simp <;> omega)
    simp only [List.append_assoc, List.singleton_append, List.length_append, List.length_singleton, List.map_append, List.map_cons, List.map_nil] at rc
    rw [l4_SonarTimes_L1, if_pos (by simp <;> omega), if_pos (by omega)]
    simp only [List.cons_append, List.map_append, List.map_cons, List.map_nil] at g1 g2 g3 g4 ⊢
    rw [g1, Option.bind_some, if_pos (by simp <;> omega), g2, Option.bind_some, wrapB (x := z.1.2.2 - z.1.2.1) (by omega) (by omega), wrapB (x := z.1.2.2 - z.1.2.1 + 1) (by omega) (by omega), t_mod (by omega) (by omega), Option.bind_some, t_mod (by omega) (by omega), Option.bind_some, if_pos (by simp <;> omega), g3, Option.bind_some,
      if_neg (by simp only [List.length_append, List.length_map, List.length_cons, List.length_nil]; rw [wrapB (by omega) (by omega)]; omega)]
    rw [show z.1.2.1 + z.2 % (z.1.2.2 - z.1.2.1 + 1) = vv z from rfl, show 1 + z.1.1 % 20 = tk z from rfl, wrapB (x := vv z) (by omega) (by omega), wrapB (x := tk z) (by omega) (by omega), wrapB (x := vv z * tk z) (by omega) (by omega), wrapB (x := vv z * t) (by omega) (by omega), wrapB (x := dp + vv z * t) (by omega) (by omega), wrapB (x := dp + vv z * tk z) (by omega) (by omega), wrapS (by omega), show (vv z * tk z, z.1.2.1, z.1.2.2) = exL z from rfl, g4, wrapB (x := t - t) (by omega) (by omega), wrapB (x := t - tk z) (by omega) (by omega), dep_sV]
    by_cases c : t < tk z
    · obtain ⟨D, i1, i2, i3, i4⟩ := rc (dp + vv z * t) (t - t) (by omega) (by omega) (by omega) (by omega)
      refine ⟨D, ?_, i2, i3, ?_⟩
      · rw [if_pos c]; simpa using i1
      · rw [i4, if_pos ((sV_lt hz t).2 c), show t - t = 0 by omega, show ((0 : Int) : Rat) = 0 from rfl, dep_zero _ _ (sV_pos fun x hx => ho x (List.mem_cons_of_mem _ hx)), Rat.intCast_add, Rat.intCast_mul, Rat.add_zero]
    · obtain ⟨D, i1, i2, i3, i4⟩ := rc (dp + vv z * tk z) (t - tk z) (by omega) (by omega) (by omega) (by omega)
      refine ⟨D, ?_, i2, i3, ?_⟩
      · rw [if_neg c]; simpa using i1
      · rw [i4, if_neg (fun h => c ((sV_lt hz t).1 h)), sV_div hz, Rat.intCast_add, Rat.intCast_sub, Rat.add_assoc]
/-! ### The law -/
theorem t_copy {l : List Ly} (h : l.length ≤ 6) : r4_CopyLayers l = some l := by
  unfold r4_CopyLayers
  rw [if_pos (by omega)]
theorem c_le {a b : Int} (h : a ≤ b) : (a : Rat) ≤ (b : Rat) := by exact_mod_cast h
theorem c_nn {a : Int} (h : 0 ≤ a) : (0 : Rat) ≤ (a : Rat) := by exact_mod_cast h
def sL (z : Lz) : Rat × Rat := (((vv z * tk z : Int) : Rat), (z.1.2.1 : Rat))
def sH (z : Lz) : Rat × Rat := (((vv z * tk z : Int) : Rat), (z.1.2.2 : Rat))
theorem map_lo (r : List Lz) : (r.map exL).map (fl lo) = r.map sL := by rw [List.map_map]; rfl
theorem map_hi (r : List Lz) : (r.map exL).map (fl hi) = r.map sH := by rw [List.map_map]; rfl
theorem mono_LV (r : List Lz) (last : Lz) (ho : ∀ z ∈ r, okL z.1) (hl : okL last.1) {t : Int} (ht : 0 ≤ t) : dep (r.map sL) (last.1.2.1 : Rat) (t : Rat) ≤ dep (r.map sV) (vv last : Rat) (t : Rat) := by
  have e := dep_mono (r.map fun z => (((vv z * tk z : Int) : Rat), (z.1.2.1 : Rat), (vv z : Rat))) (last.1.2.1 : Rat) (vv last : Rat) (t : Rat) (t : Rat) (by
    intro x hx
    obtain ⟨z, hz, rfl⟩ := List.mem_map.1 hx
    have h1 := vv_in (ho z hz)
    have h2 := exL_in (ho z hz)
    have h3 := (ho z hz).2.1
    exact ⟨q_pos (by omega), c_le h1.1, c_nn (show 0 ≤ vv z * tk z by omega)⟩) (by exact_mod_cast ht) (by grind) (by exact_mod_cast (show 0 ≤ last.1.2.1 by have := hl.2.1; omega)) (by exact_mod_cast (vv_in hl).1)
  rw [List.map_map, List.map_map] at e
  exact e
theorem mono_VH (r : List Lz) (last : Lz) (ho : ∀ z ∈ r, okL z.1) (hl : okL last.1) {t : Int} (ht : 0 ≤ t) : dep (r.map sV) (vv last : Rat) (t : Rat) ≤ dep (r.map sH) (last.1.2.2 : Rat) (t : Rat) := by
  have e := dep_mono (r.map fun z => (((vv z * tk z : Int) : Rat), (vv z : Rat), (z.1.2.2 : Rat))) (vv last : Rat) (last.1.2.2 : Rat) (t : Rat) (t : Rat) (by
    intro x hx
    obtain ⟨z, hz, rfl⟩ := List.mem_map.1 hx
    have h1 := vv_in (ho z hz)
    have h2 := exL_in (ho z hz)
    have h3 := (ho z hz).2.1
    exact ⟨q_pos (by omega), c_le h1.2, c_nn (show 0 ≤ vv z * tk z by omega)⟩) (by exact_mod_cast ht) (by grind) (by exact_mod_cast (show 0 ≤ vv last by have := hl.2.1; have := vv_in hl; omega)) (by exact_mod_cast (vv_in hl).2)
  rw [List.map_map, List.map_map] at e
  exact e
theorem mono_t {f : Lz → Int} (r : List Lz) (last : Lz) (ho : ∀ z ∈ r, okL z.1 ∧ 0 < f z) (hl : 0 ≤ f last) {t u : Int} (ht : 0 ≤ t) (hu : t ≤ u) : dep (r.map fun z => (((vv z * tk z : Int) : Rat), (f z : Rat))) (f last : Rat) (t : Rat) ≤ dep (r.map fun z => (((vv z * tk z : Int) : Rat), (f z : Rat))) (f last : Rat) (u : Rat) := by
  have e := dep_mono (r.map fun z => (((vv z * tk z : Int) : Rat), (f z : Rat), (f z : Rat))) (f last : Rat) (f last : Rat) (t : Rat) (u : Rat) (by
    intro x hx
    obtain ⟨z, hz, rfl⟩ := List.mem_map.1 hx
    have h2 := exL_in (ho z hz).1
    exact ⟨q_pos (ho z hz).2, by grind, c_nn (show 0 ≤ vv z * tk z by omega)⟩) (by exact_mod_cast ht) (by exact_mod_cast hu) (by exact_mod_cast hl) (by grind)
  rw [List.map_map, List.map_map] at e
  exact e
theorem tim_VH (r : List Lz) (last : Lz) (ho : ∀ z ∈ r, okL z.1) (hl : okL last.1) {d : Int} (hd : 0 ≤ d) : tim (r.map sH) (last.1.2.2 : Rat) (d : Rat) ≤ tim (r.map sV) (vv last : Rat) (d : Rat) := by
  have e := tim_mono (r.map fun z => (((vv z * tk z : Int) : Rat), (vv z : Rat), (z.1.2.2 : Rat))) (vv last : Rat) (last.1.2.2 : Rat) (d : Rat) (by
    intro x hx
    obtain ⟨z, hz, rfl⟩ := List.mem_map.1 hx
    have h1 := vv_in (ho z hz)
    have h2 := exL_in (ho z hz)
    have h3 := (ho z hz).2.1
    exact ⟨q_pos (by omega), c_le h1.2, c_nn (show 0 ≤ vv z * tk z by omega)⟩) (by exact_mod_cast hd) (q_pos (by have := hl.2.1; have := vv_in hl; omega)) (by exact_mod_cast (vv_in hl).2)
  rw [List.map_map, List.map_map] at e
  exact e
theorem tim_LV (r : List Lz) (last : Lz) (ho : ∀ z ∈ r, okL z.1) (hl : okL last.1) {d : Int} (hd : 0 ≤ d) : tim (r.map sV) (vv last : Rat) (d : Rat) ≤ tim (r.map sL) (last.1.2.1 : Rat) (d : Rat) := by
  have e := tim_mono (r.map fun z => (((vv z * tk z : Int) : Rat), (z.1.2.1 : Rat), (vv z : Rat))) (last.1.2.1 : Rat) (vv last : Rat) (d : Rat) (by
    intro x hx
    obtain ⟨z, hz, rfl⟩ := List.mem_map.1 hx
    have h1 := vv_in (ho z hz)
    have h2 := exL_in (ho z hz)
    have h3 := (ho z hz).2.1
    exact ⟨q_pos (by omega), c_le h1.1, c_nn (show 0 ≤ vv z * tk z by omega)⟩) (by exact_mod_cast hd) (q_pos (by have := hl.2.1; omega)) (by exact_mod_cast (vv_in hl).1)
  rw [List.map_map, List.map_map] at e
  exact e
theorem tim_V (r : List Lz) (last : Lz) (ho : ∀ z ∈ r, okL z.1) (hl : okL last.1) {t : Int} (ht : 0 ≤ t) : tim (r.map sV) (vv last : Rat) (dep (r.map sV) (vv last : Rat) (t : Rat)) = (t : Rat) := by
  refine tim_dep _ _ _ (fun x hx => ?_) (q_pos (by have := hl.2.1; have := vv_in hl; omega)) (by exact_mod_cast ht)
  obtain ⟨z, hz, rfl⟩ := List.mem_map.1 hx
  have h1 := vv_in (ho z hz)
  have h2 := exL_in (ho z hz)
  have h3 := (ho z hz).2.1
  exact ⟨q_pos (by omega), by show (0 : Rat) ≤ ((vv z * tk z : Int) : Rat); exact_mod_cast (show 0 ≤ vv z * tk z by omega)⟩
/-- The first layer may be slower. -/
theorem t_wide {fu : Nat} (hf : 10000000000000000000 ≤ fu) (r : List Lz) (last : Lz) (hr : r.length ≤ 5) (ho : ∀ z ∈ r, okL z.1) (hl : okL last.1) {T : Int} (hT : 0 ≤ T ∧ T ≤ 100000) {l0 h0 : Int} (f0 : Fl l0 (dep (r.map sL) (last.1.2.1 : Rat) (T : Rat))) (c0 : Ce h0 (dep (r.map sH) (last.1.2.2 : Rat) (T : Rat)))
    {x : Ly} (hx : (r.map exL ++ [exL last])[0 + (0 : Int).toNat]? = some x) {w : Int} (hw : 1 ≤ w) (hw2 : w ≤ x.2.1) :
    ∃ l h, s_DepthIn fu ((r.map exL ++ [exL last]).set (0 + (0 : Int).toNat) (x.1, w, x.2.2)) T = some (l, h, 0) ∧ l ≤ l0 ∧ h0 ≤ h := by
  cases r with
  | nil =>
    have : x = exL last := by simpa using hx.symm
    subst this
    have e := exL_ok hl
    obtain ⟨l, h, d1, d2, d3⟩ := t_depth hf [] ((exL last).1, w, (exL last).2.2) (by simp) (by simp) ⟨e.1, ⟨hw, by have := e.2.1; show w ≤ 100; omega⟩, e.2.2.1, by have := e.2.2.2; show w ≤ (exL last).2.2; omega⟩ T hT
    refine ⟨l, h, by simpa using d1, d2.mono f0 ?_, c0.mono d3 ?_⟩
    · show (w : Rat) * (T : Rat) ≤ (last.1.2.1 : Rat) * (T : Rat)
      have : (w : Rat) ≤ (last.1.2.1 : Rat) := by exact_mod_cast hw2
      exact Rat.mul_le_mul_of_nonneg_right this (by exact_mod_cast hT.1)
    · show (last.1.2.2 : Rat) * (T : Rat) ≤ (last.1.2.2 : Rat) * (T : Rat); grind
  | cons z r =>
    have : x = exL z := by simpa using hx.symm
    subst this
    have hz := ho z List.mem_cons_self
    have e := exL_ok hz
    have ho' := fun y hy => ho y (List.mem_cons_of_mem _ hy)
    obtain ⟨l, h, d1, d2, d3⟩ := t_depth hf (((exL z).1, w, (exL z).2.2) :: r.map exL) (exL last) (by simpa using hr) (by
      intro y hy
      rcases List.mem_cons.1 hy with rfl | hy
      · exact ⟨e.1, ⟨hw, by have := e.2.1; show w ≤ 100; omega⟩, e.2.2.1, by have := e.2.2.2; show w ≤ (exL z).2.2; omega⟩
      · obtain ⟨q, hq, rfl⟩ := List.mem_map.1 hy
        exact exL_ok (ho' q hq)) (exL_ok hl) T hT
    rw [List.map_cons, map_lo] at d2
    rw [List.map_cons, map_hi] at d3
    refine ⟨l, h, by simpa using d1, d2.mono f0 ?_, c0.mono d3 ?_⟩
    · have g := dep_mono ((((vv z * tk z : Int) : Rat), (w : Rat), (z.1.2.1 : Rat)) :: r.map fun y => (((vv y * tk y : Int) : Rat), (y.1.2.1 : Rat), (y.1.2.1 : Rat))) (last.1.2.1 : Rat) (last.1.2.1 : Rat) (T : Rat) (T : Rat) (by
        intro y hy
        rcases List.mem_cons.1 hy with rfl | hy
        · have h2 := exL_in hz
          exact ⟨q_pos (by omega), c_le hw2, c_nn (show 0 ≤ vv z * tk z by omega)⟩
        · obtain ⟨q, hq, rfl⟩ := List.mem_map.1 hy
          have h2 := exL_in (ho' q hq)
          have h3 := (ho' q hq).2.1
          exact ⟨q_pos (by omega), by grind, c_nn (show 0 ≤ vv q * tk q by omega)⟩) (by exact_mod_cast hT.1) (by grind) (by exact_mod_cast (show 0 ≤ last.1.2.1 by have := hl.2.1; omega)) (by grind)
      rw [List.map_cons, List.map_cons, List.map_map, List.map_map] at g
      exact g
    · show dep (sH z :: r.map sH) _ _ ≤ dep (sH z :: r.map sH) _ _
      rw [show (hi (exL last)) = last.1.2.2 from rfl]
      grind
set_option maxRecDepth 100000 in
theorem l4_SonarTimes_true (a0 : List (Int × Int × Int)) (a1 : List Int) (a2 : Int) : ∃ fu, l4_SonarTimes fu a0 a1 a2 = some true := by
  obtain ⟨fu, hf⟩ : ∃ fu : Nat, 10000000000000000000 ≤ fu := ⟨10000000000000000000, Nat.le_refl _⟩
  refine ⟨fu, ?_⟩
  unfold l4_SonarTimes l4_awake
  simp only [Option.bind_some, if_true]
  obtain ⟨e, r1, r2⟩ := t_ref fu (by omega) a0
  rw [r1, Option.bind_some]
  by_cases h0 : e = 0
  · rw [if_pos h0]
    obtain ⟨n1, n6, hok⟩ := r2 h0
    by_cases h1 : (a1.length : Int) = (a0.length : Int)
    · rw [if_pos h1, x_within, Option.bind_some]
      by_cases h2 : 0 ≤ a2 ∧ a2 ≤ 1000
      · rw [decide_eq_true h2, if_pos rfl]
        obtain ⟨r, last, hZ⟩ : ∃ r last, a0.zip a1 = r ++ [last] := by
          have : a0.zip a1 ≠ [] := by
            intro h
            have := congrArg List.length h
            rw [List.length_zip, List.length_nil] at this
            omega
          exact ⟨_, _, (List.dropLast_concat_getLast this).symm⟩
        have z1 : a0 = (r ++ [last]).map (·.1) := by rw [← hZ]; exact (List.map_fst_zip (by omega)).symm
        have z2 : a1 = (r ++ [last]).map (·.2) := by rw [← hZ]; exact (List.map_snd_zip (by omega)).symm
        have hlen : r.length ≤ 5 := by
          have := congrArg List.length z1
          simp at this; omega
        have ho : ∀ z ∈ r, okL z.1 := fun z hz => hok z.1 (by rw [z1]; exact List.mem_map.2 ⟨z, List.mem_append_left _ hz, rfl⟩)
        have hl : okL last.1 := hok last.1 (by rw [z1]; exact List.mem_map.2 ⟨last, by simp, rfl⟩)
        rw [t_copy n6, Option.bind_some]
        obtain ⟨D, i1, i2, i3, i4⟩ := t_law fu a2 last hl r [] fu 0 a2 ho (by omega) (by simpa using hlen) h2.1 h2.2 (by omega) (by omega)
        simp only [List.nil_append, List.map_nil, List.length_nil] at i1
        rw [← z1, ← z2, show ((0 : Nat) : Int) = 0 from rfl] at i1
        rw [show ((0 : Int) : Rat) = 0 from rfl, Rat.zero_add] at i4
        rw [i1, Option.bind_some]
        have hX : (r ++ [last]).map exL = r.map exL ++ [exL last] := by simp
        simp only [hX]
        have hX6 : (r.map exL ++ [exL last]).length ≤ 6 := by simp; omega
        have hr : (r.map exL).length ≤ 5 := by simpa using hlen
        have ho' : ∀ y ∈ r.map exL, okL y := by
          intro y hy
          obtain ⟨z, hz, rfl⟩ := List.mem_map.1 hy
          exact exL_ok (ho z hz)
        obtain ⟨l, h, d1, d2, d3⟩ := t_depth hf (r.map exL) (exL last) hr ho' (exL_ok hl) a2 ⟨h2.1, by omega⟩
        obtain ⟨l', h', k1, k2, k3⟩ := t_depth hf (r.map exL) (exL last) hr ho' (exL_ok hl) (a2 + 1) ⟨by omega, by omega⟩
        have tt := t_time hf (r.map exL) (exL last) hr ho' (exL_ok hl) D i2
        rw [if_pos i3] at tt
        obtain ⟨lt, ht, t1, t2, t3⟩ := tt
        rw [map_lo, show lo (exL last) = last.1.2.1 from rfl] at d2 k2 t3
        rw [map_hi, show hi (exL last) = last.1.2.2 from rfl] at d3 k3 t2
        simp only [t_copy hX6, Option.bind_some]
        rw [d1, Option.bind_some, wrapB (x := a2 + 1) (by omega) (by omega), k1, Option.bind_some, t1, Option.bind_some]
        simp only [if_true]
        have iD : Fl D (dep (r.map sV) (vv last : Rat) (a2 : Rat)) := by rw [← i4]; exact Fl.int D
        have cD : Ce D (dep (r.map sV) (vv last : Rat) (a2 : Rat)) := by rw [← i4]; exact Ce.int D
        have m1 : l ≤ D := d2.mono iD (mono_LV r last ho hl h2.1)
        have m2 : D ≤ h := cD.mono d3 (mono_VH r last ho hl h2.1)
        have m3 : l ≤ l' := d2.mono k2 (mono_t (f := fun z => z.1.2.1) r last (fun z hz => ⟨ho z hz, by have := (ho z hz).2.1; omega⟩) (by have := hl.2.1; omega) h2.1 (by omega))
        have m4 : h ≤ h' := d3.mono k3 (mono_t (f := fun z => z.1.2.2) r last (fun z hz => ⟨ho z hz, by have := (ho z hz).2.2.1; omega⟩) (by have := hl.2.2.1; omega) h2.1 (by omega))
        have tv := tim_V r last ho hl h2.1
        rw [← i4] at tv
        have m5 : lt ≤ a2 := t2.mono (Fl.int a2) (by rw [← tv]; exact tim_VH r last ho hl i2)
        have m6 : a2 ≤ ht := (Ce.int a2).mono t3 (by rw [← tv]; exact tim_LV r last ho hl i2)
        rw [x_within, Option.bind_some, decide_eq_true ⟨m1, m2⟩, if_pos rfl, if_neg (by omega), if_neg (by omega), x_within, Option.bind_some, decide_eq_true ⟨i2, i3⟩, if_pos rfl, x_within, Option.bind_some, decide_eq_true ⟨m5, m6⟩, if_pos rfl, if_pos (by simp <;> omega)]
        obtain ⟨x, hx⟩ : ∃ x, (r.map exL ++ [exL last])[0 + (0 : Int).toNat]? = some x := ⟨_, List.getElem?_eq_getElem (by simp)⟩
        have hxo : okL x := by
          have := List.mem_of_getElem? hx
          rcases List.mem_append.1 this with h | h
          · exact ho' x h
          · rw [List.mem_singleton.1 h]; exact exL_ok hl
        have hx1 := hxo.2.1
        simp only [hx, Option.bind_some]
        rw [wrapB (x := x.2.1 - 1) (by omega) (by omega)]
        by_cases c : 1 < x.2.1 - 1
        · rw [if_pos c, t_copy (by simpa using hX6), Option.bind_some]
          obtain ⟨lw, hw, w1, w2, w3⟩ := t_wide hf r last hlen ho hl ⟨h2.1, by omega⟩ d2 d3 hx (w := x.2.1 - 1) (by omega) (by omega)
          rw [w1, Option.bind_some]
          simp only [if_true, if_pos w2, if_pos w3]
        · rw [if_neg c, t_copy (by simpa using hX6), Option.bind_some]
          obtain ⟨lw, hw, w1, w2, w3⟩ := t_wide hf r last hlen ho hl ⟨h2.1, by omega⟩ d2 d3 hx (w := 1) (by omega) (by omega)
          rw [w1, Option.bind_some]
          simp only [if_true, if_pos w2, if_pos w3]
      · rw [decide_eq_false h2, if_neg (by simp)]
    · rw [if_neg h1]
  · rw [if_neg h0]
end Go.Proofs.YtaafodbiigdbaaaGreat
