/-
  Streams of a bus: demands, cycles, overloads.
-/
import Derived.Test.YtefkmidmjofdcaaGreatZXd
set_option linter.all false
namespace Go.Proofs.YtefkmidmjofdcaaGreat
open Go Go.RowKit

def okS (l : List Str) : Prop := l.length ≤ 6 ∧ ∀ e ∈ l, (1 ≤ e.2.1 ∧ e.2.1 ≤ 60) ∧ (1 ≤ e.2.2.1 ∧ e.2.2.1 ≤ e.2.1) ∧ (1 ≤ e.2.2.2 ∧ e.2.2.2 ≤ 20)
/-! ### Demands -/
def dmE (t : Int) (e : Str) : Int := if e.2.2.1 ≤ t then e.2.2.2 * (1 + Int.tdiv (t - e.2.2.1) e.2.1) else 0
def dmS (t : Int) : List Str → Int → Int
  | [], a => a
  | e :: r, a => dmS t r (a + dmE t e)
theorem dm_div {t : Int} {e : Str} (h1 : 1 ≤ e.2.1) (h2 : e.2.2.1 ≤ t) (h3 : 1 ≤ e.2.2.1) (h4 : t ≤ 10000) : 0 ≤ Int.tdiv (t - e.2.2.1) e.2.1 ∧ Int.tdiv (t - e.2.2.1) e.2.1 ≤ 10000 := by
  rw [Int.tdiv_eq_ediv_of_nonneg (by omega)]
  have a := Int.ediv_nonneg (show 0 ≤ t - e.2.2.1 by omega) (show 0 ≤ e.2.1 by omega)
  have b := Int.ediv_le_self e.2.1 (show 0 ≤ t - e.2.2.1 by omega)
  omega
theorem dm_range {t : Int} {e : Str} (h1 : 1 ≤ e.2.1) (h3 : 1 ≤ e.2.2.1) (h4 : t ≤ 10000) (h5 : 1 ≤ e.2.2.2) (h6 : e.2.2.2 ≤ 20) : 0 ≤ dmE t e ∧ dmE t e ≤ 300000 := by
  unfold dmE
  by_cases c : e.2.2.1 ≤ t
  · rw [if_pos c]
    obtain ⟨a, b⟩ := dm_div h1 c h3 h4
    have x := Int.mul_nonneg (show 0 ≤ e.2.2.2 by omega) (show 0 ≤ 1 + Int.tdiv (t - e.2.2.1) e.2.1 by omega)
    have y : e.2.2.2 * (1 + Int.tdiv (t - e.2.2.1) e.2.1) ≤ 20 * 10001 := Int.mul_le_mul h6 (by omega) (by omega) (by omega)
    omega
  · rw [if_neg c]; omega
theorem x_demL (fu : Nat) {l : List Str} (ok : okS l) {t : Int} (ht0 : 0 ≤ t) (ht : t ≤ 10000) : ∀ n i a, i ≤ l.length → l.length - i < n → 0 ≤ a → a ≤ 300000 * (i : Int) → bus_demand_L1 fu l t (l.length : Int) n a ((i : Nat) : Int) = some (dmS t (l.drop i) a)
  | 0, i, a, _, h, _, _ => by omega
  | n + 1, i, a, hi, h, ha, hb => by
    rw [bus_demand_L1]
    have hl := ok.1
    rcases Nat.lt_or_ge i l.length with h1 | h1
    · obtain ⟨a1, a2, a3⟩ := idx (List.getElem?_eq_getElem h1)
      obtain ⟨⟨p1, p2⟩, ⟨q1, q2⟩, r1, r2⟩ := ok.2 l[i] (List.getElem_mem h1)
      obtain ⟨d1, d2⟩ := dm_range (t := t) p1 q1 ht r1 r2
      have ih := x_demL fu ok ht0 ht n (i + 1) (a + dmE t l[i]) (by omega) (by omega) (by omega) (by omega)
      rw [if_pos a1, if_pos a2, if_pos a1, a3, Option.bind_some, List.drop_eq_getElem_cons h1, dmS, wrapS (by omega)]
      unfold dmE at *
      by_cases c : l[i].2.2.1 ≤ t
      · obtain ⟨x1, x2⟩ := dm_div p1 c q1 ht
        rw [if_pos c] at d1 d2 ih
        rw [if_pos c, if_neg (by omega), if_pos c, wrapB (x := t - l[i].2.2.1) (by omega) (by omega), wrapB (x := Int.tdiv _ _) (by omega) (by omega), wrapB (x := 1 + _) (by omega) (by omega), wrapB (x := l[i].2.2.2 * _) (by omega) (by omega), wrapB (x := a + _) (by omega) (by omega)]
        exact ih
      · rw [if_neg c] at ih
        rw [if_neg c, if_neg c]
        rw [Int.add_zero] at *
        exact ih
    · rw [if_neg (by omega), List.drop_of_length_le h1, dmS]
def dem (l : List Str) (t : Int) : Int := dmS t l 0
theorem x_demand (fu : Nat) (hf : 1000 ≤ fu) {l : List Str} (ok : okS l) {t : Int} (ht0 : 0 ≤ t) (ht : t ≤ 10000) : bus_demand fu l t = some (dem l t) := by
  unfold bus_demand dem
  have hl := ok.1
  have e := x_demL fu ok ht0 ht fu 0 0 (by omega) (by omega) (by omega) (by omega)
  rw [show ((0 : Nat) : Int) = 0 from rfl, List.drop_zero] at e
  rw [e]; rfl
theorem x_refDemL (fu : Nat) {l : List Str} (ok : okS l) {t : Int} (ht0 : 0 ≤ t) (ht : t ≤ 10000) : ∀ n i a, i ≤ l.length → l.length - i < n → 0 ≤ a → a ≤ 300000 * (i : Int) → r7_Demand_L1 fu l t n a ((i : Nat) : Int) = some (dmS t (l.drop i) a)
  | 0, i, a, _, h, _, _ => by omega
  | n + 1, i, a, hi, h, ha, hb => by
    rw [r7_Demand_L1]
    have hl := ok.1
    rcases Nat.lt_or_ge i l.length with h1 | h1
    · obtain ⟨a1, a2, a3⟩ := idx (List.getElem?_eq_getElem h1)
      obtain ⟨⟨p1, p2⟩, ⟨q1, q2⟩, r1, r2⟩ := ok.2 l[i] (List.getElem_mem h1)
      obtain ⟨d1, d2⟩ := dm_range (t := t) p1 q1 ht r1 r2
      have ih := x_refDemL fu ok ht0 ht n (i + 1) (a + dmE t l[i]) (by omega) (by omega) (by omega) (by omega)
      rw [if_pos a1, if_pos a2, a3, Option.bind_some, List.drop_eq_getElem_cons h1, dmS, wrapS (by omega)]
      unfold dmE at *
      by_cases c : l[i].2.2.1 ≤ t
      · obtain ⟨x1, x2⟩ := dm_div p1 c q1 ht
        have fl : b_Floor (t - l[i].2.2.1) l[i].2.1 = some (Int.tdiv (t - l[i].2.2.1) l[i].2.1) := by
          unfold b_Floor
          have m := Int.tmod_nonneg l[i].2.1 (show 0 ≤ t - l[i].2.2.1 by omega)
          rw [if_neg (by omega), if_neg (by omega), wrapB (by omega) (by omega)]
        rw [if_pos c] at d1 d2 ih
        rw [if_pos c, if_pos c, wrapB (x := t - l[i].2.2.1) (by omega) (by omega), fl, Option.bind_some, wrapB (x := 1 + _) (by omega) (by omega), wrapB (x := l[i].2.2.2 * _) (by omega) (by omega), wrapB (x := a + _) (by omega) (by omega)]
        exact ih
      · rw [if_neg c] at ih
        rw [if_neg c, if_neg c]
        rw [Int.add_zero] at *
        exact ih
    · rw [if_neg (by omega), List.drop_of_length_le h1, dmS]
theorem x_refDemand (fu : Nat) (hf : 1000 ≤ fu) {l : List Str} (ok : okS l) {t : Int} (ht0 : 0 ≤ t) (ht : t ≤ 10000) : r7_Demand fu l t = some (dem l t) := by
  unfold r7_Demand dem
  have hl := ok.1
  have e := x_refDemL fu ok ht0 ht fu 0 0 (by omega) (by omega) (by omega) (by omega)
  rw [show ((0 : Nat) : Int) = 0 from rfl, List.drop_zero] at e
  rw [e]; rfl

/-! ### Cycles -/
theorem x_eu (fu : Nat) (l : List Int) (p q : Int) : ∀ n a b, u_Divisor_L1 fu l p q n a b = euL n a b
  | 0, _, _ => rfl
  | n + 1, a, b => by
    rw [u_Divisor_L1, euL]
    by_cases c : b = 0
    · rw [if_pos c, if_pos c]
    · rw [if_neg c, if_neg c]; exact x_eu fu l p q n _ _
theorem x_euR (fu : Nat) : ∀ n a b, b_Gcd_L1 fu n a b = euL n a b
  | 0, _, _ => rfl
  | n + 1, a, b => by
    rw [b_Gcd_L1, euL]
    by_cases c : b = 0
    · rw [if_pos c, if_pos c]
    · rw [if_neg c, if_neg c]; exact x_euR fu n _ _
theorem eu_zero {n : Nat} {v : Int} (h : v ≠ 0) : euL (n + 2) 0 v = some v := by
  rw [euL, if_neg h, Int.zero_tmod, euL, if_pos rfl]
theorem x_divisor (fu : Nat) (hf : 1000 ≤ fu) {v p : Nat} (hv : v ≠ 0) (hv2 : v < 4611686018427387904) (hp : p ≤ 60) : u_Divisor fu ([(v : Int), (p : Int)] : List Int) = some ((Nat.gcd v p : Nat) : Int) := by
  obtain ⟨k, rfl⟩ : ∃ k, fu = k + 3 := ⟨fu - 3, by omega⟩
  obtain ⟨g, e, hg⟩ := euL_gcd (k + 3) (v : Int) (p : Int) (by omega)
  unfold u_Divisor
  have hg2 : g.natAbs = Nat.gcd v p := by simpa using hg
  have hle : Nat.gcd v p ≤ v := Nat.gcd_le_left _ (by omega)
  have w1 : IntKind.wrap .i64 ((0 : Int) + 1) = 1 := by decide +kernel
  have w2 : IntKind.wrap .i64 ((1 : Int) + 1) = 2 := by decide +kernel
  have s1 : u_Divisor_L2 (k + 3) [(v : Int), (p : Int)] (([(v : Int), (p : Int)] : List Int).length : Int) (k + 3) 0 0 = some g := by
    rw [u_Divisor_L2, if_pos (by simp), if_pos (by omega), if_pos (by simp)]
    rw [show ([(v : Int), (p : Int)] : List Int)[0 + (0 : Int).toNat]? = some (v : Int) from rfl, Option.bind_some, x_eu, eu_zero (by omega), Option.bind_some, w1]
    rw [u_Divisor_L2, if_pos (by simp), if_pos (by omega), if_pos (by simp)]
    rw [show ([(v : Int), (p : Int)] : List Int)[0 + (1 : Int).toNat]? = some (p : Int) from rfl, Option.bind_some, x_eu, e, Option.bind_some, w2]
    rw [u_Divisor_L2, if_neg (by simp)]
  rw [s1, Option.bind_some]
  have ab := abs_of (g := g) (by omega)
  rw [← hg2, ← ab]
  split <;> rfl
theorem x_gcd (fu : Nat) (hf : 1000 ≤ fu) {v p : Nat} (hv : v ≠ 0) (hv2 : v < 4611686018427387904) (hp : p ≤ 60) : b_Gcd fu (v : Int) (p : Int) = some ((Nat.gcd v p : Nat) : Int) := by
  obtain ⟨g, e, hg⟩ := euL_gcd fu (v : Int) (p : Int) (by omega)
  have hg2 : g.natAbs = Nat.gcd v p := by simpa using hg
  have hle : Nat.gcd v p ≤ v := Nat.gcd_le_left _ (by omega)
  have ab := abs_of (g := g) (by omega)
  unfold b_Gcd b_Size
  rw [x_euR, e, Option.bind_some, ← hg2, ← ab]
  split <;> rfl
def lc (n p : Nat) : Nat := n * (p / Nat.gcd n p)
theorem lc_range {n p : Nat} (hn : 1 ≤ n) (hp : 1 ≤ p) (hp2 : p ≤ 60) : n ≤ lc n p ∧ lc n p ≤ n * 60 := by
  have g0 : 0 < Nat.gcd n p := Nat.gcd_pos_of_pos_left _ hn
  have g1 : Nat.gcd n p ≤ p := Nat.gcd_le_right _ hp
  have a : 1 ≤ p / Nat.gcd n p := Nat.div_pos g1 g0
  have b : p / Nat.gcd n p ≤ p := Nat.div_le_self ..
  unfold lc
  exact ⟨Nat.le_mul_of_pos_right _ a, Nat.mul_le_mul_left _ (by omega)⟩
theorem lc_ref {n p : Nat} (hn : 1 ≤ n) : n / Nat.gcd n p * p = lc n p := by
  have g0 : 0 < Nat.gcd n p := Nat.gcd_pos_of_pos_left _ hn
  obtain ⟨a, ha⟩ := Nat.gcd_dvd_left n p
  obtain ⟨b, hb⟩ := Nat.gcd_dvd_right n p
  unfold lc
  have e1 : n / Nat.gcd n p = a := Nat.div_eq_of_eq_mul_right g0 ha
  have e2 : p / Nat.gcd n p = b := Nat.div_eq_of_eq_mul_right g0 hb
  rw [e1, e2]
  calc a * p = a * (Nat.gcd n p * b) := by rw [← hb]
    _ = Nat.gcd n p * a * b := by rw [← Nat.mul_assoc, Nat.mul_comm a]
    _ = n * b := by rw [← ha]
def cyS : List Str → Nat → Nat
  | [], n => n
  | e :: r, n => cyS r (lc n e.2.1.toNat)
theorem cyS_le {l : List Str} (h : ∀ e ∈ l, 1 ≤ e.2.1 ∧ e.2.1 ≤ 60) : ∀ {n : Nat}, 1 ≤ n → n ≤ cyS l n := by
  induction l with
  | nil => intro n _; exact Nat.le_refl _
  | cons e r ih =>
    intro n hn
    obtain ⟨a, b⟩ := h e List.mem_cons_self
    have x := lc_range (n := n) (p := e.2.1.toNat) hn (by omega) (by omega)
    have y := ih (fun e he => h e (List.mem_cons_of_mem _ he)) (n := lc n e.2.1.toNat) (by omega)
    unfold cyS
    omega
theorem x_cycL (fu : Nat) (hf : 1000 ≤ fu) {l : List Str} (ok : okS l) : ∀ n i v, i ≤ l.length → l.length - i < n → 1 ≤ v → v ≤ 60 ^ i → bus_cycle_L1 fu l (l.length : Int) n ((v : Nat) : Int) ((i : Nat) : Int) = some ((cyS (l.drop i) v : Nat) : Int)
  | 0, i, v, _, h, _, _ => by omega
  | n + 1, i, v, hi, h, hv, hv2 => by
    rw [bus_cycle_L1]
    have hl := ok.1
    rcases Nat.lt_or_ge i l.length with h1 | h1
    · obtain ⟨a1, a2, a3⟩ := idx (List.getElem?_eq_getElem h1)
      obtain ⟨⟨p1, p2⟩, -, -⟩ := ok.2 l[i] (List.getElem_mem h1)
      obtain ⟨p, hp⟩ := Int.eq_ofNat_of_zero_le (show 0 ≤ l[i].2.1 by omega)
      have h60 : 60 ^ i ≤ 60 ^ 6 := Nat.pow_le_pow_right (by omega) (by omega)
      have h60' : (60 : Nat) ^ 6 = 46656000000 := by decide +kernel
      have x := lc_range (n := v) (p := p) hv (by omega) (by omega)
      have g0 : 0 < Nat.gcd v p := Nat.gcd_pos_of_pos_left _ hv
      have dv : Int.tdiv (p : Int) ((Nat.gcd v p : Nat) : Int) = ((p / Nat.gcd v p : Nat) : Int) := rfl
      have db : p / Nat.gcd v p ≤ p := Nat.div_le_self ..
      have dw : IntKind.wrap .i64 ((p / Nat.gcd v p : Nat) : Int) = ((p / Nat.gcd v p : Nat) : Int) := by
        generalize p / Nat.gcd v p = d at db
        exact wrapB (by omega) (by omega)
      rw [if_pos a1, if_pos a2, if_pos a1, a3, Option.bind_some, hp, x_divisor fu hf (by omega) (by omega) (by omega), Option.bind_some, if_neg (by omega), dv, dw, show ((v : Nat) : Int) * ((p / Nat.gcd v p : Nat) : Int) = ((lc v p : Nat) : Int) by unfold lc; rw [Int.natCast_mul], wrapB (x := ((lc v p : Nat) : Int)) (by omega) (by omega), wrapS (by omega), List.drop_eq_getElem_cons h1, cyS, hp, Int.toNat_natCast]
      exact x_cycL fu hf ok n (i + 1) (lc v p) (by omega) (by omega) (by omega) (by rw [Nat.pow_succ]; omega)
    · rw [if_neg (by omega), List.drop_of_length_le h1, cyS]
theorem x_cycle (fu : Nat) (hf : 1000 ≤ fu) {l : List Str} (ok : okS l) : bus_cycle fu l = some ((cyS l 1 : Nat) : Int) := by
  unfold bus_cycle
  have hl := ok.1
  have e := x_cycL fu hf ok fu 0 1 (by omega) (by omega) (by omega) (by omega)
  rw [show ((0 : Nat) : Int) = 0 from rfl, show ((1 : Nat) : Int) = 1 from rfl, List.drop_zero] at e
  rw [e]; rfl
theorem x_refCycL (fu : Nat) (hf : 1000 ≤ fu) {l : List Str} (ok : okS l) : ∀ n i v, i ≤ l.length → l.length - i < n → 1 ≤ v → v ≤ 5000 → r7_Cycle_L1 fu l n ((v : Nat) : Int) ((i : Nat) : Int) = some (if 5000 < cyS (l.drop i) v then .inl () else .inr ((cyS (l.drop i) v : Nat) : Int))
  | 0, i, v, _, h, _, _ => by omega
  | n + 1, i, v, hi, h, hv, hv2 => by
    rw [r7_Cycle_L1]
    have hl := ok.1
    rcases Nat.lt_or_ge i l.length with h1 | h1
    · obtain ⟨a1, a2, a3⟩ := idx (List.getElem?_eq_getElem h1)
      obtain ⟨⟨p1, p2⟩, -, -⟩ := ok.2 l[i] (List.getElem_mem h1)
      obtain ⟨p, hp⟩ := Int.eq_ofNat_of_zero_le (show 0 ≤ l[i].2.1 by omega)
      have x := lc_range (n := v) (p := p) hv (by omega) (by omega)
      have g0 : 0 < Nat.gcd v p := Nat.gcd_pos_of_pos_left _ hv
      have dv : Int.tdiv (v : Int) ((Nat.gcd v p : Nat) : Int) = ((v / Nat.gcd v p : Nat) : Int) := rfl
      have db : v / Nat.gcd v p ≤ v := Nat.div_le_self ..
      have dw : IntKind.wrap .i64 ((v / Nat.gcd v p : Nat) : Int) = ((v / Nat.gcd v p : Nat) : Int) := by
        generalize v / Nat.gcd v p = d at db
        exact wrapB (by omega) (by omega)
      rw [if_pos a1, if_pos a2, a3, Option.bind_some, hp, x_gcd fu hf (by omega) (by omega) (by omega), Option.bind_some, if_neg (by omega), dv, dw, show ((v / Nat.gcd v p : Nat) : Int) * ((p : Nat) : Int) = ((lc v p : Nat) : Int) by rw [← lc_ref hv, Int.natCast_mul], wrapB (x := ((lc v p : Nat) : Int)) (by omega) (by omega), List.drop_eq_getElem_cons h1, cyS, hp, Int.toNat_natCast]
      by_cases c : 5000 < lc v p
      · have y := cyS_le (l := l.drop (i + 1)) (fun e he => (ok.2 e (List.mem_of_mem_drop he)).1) (n := lc v p) (by omega)
        rw [if_pos (by omega), if_pos (by omega)]
      · rw [if_neg (by omega), wrapS (by omega)]
        exact x_refCycL fu hf ok n (i + 1) (lc v p) (by omega) (by omega) (by omega) (by omega)
    · rw [if_neg (by omega), List.drop_of_length_le h1, cyS, if_neg (by omega)]
theorem x_refCycle (fu : Nat) (hf : 1000 ≤ fu) {l : List Str} (ok : okS l) : r7_Cycle fu l = some (if 5000 < cyS l 1 then (0, false) else (((cyS l 1 : Nat) : Int), true)) := by
  unfold r7_Cycle
  have hl := ok.1
  have e := x_refCycL fu hf ok fu 0 1 (by omega) (by omega) (by omega) (by omega)
  rw [show ((0 : Nat) : Int) = 0 from rfl, show ((1 : Nat) : Int) = 1 from rfl, List.drop_zero] at e
  rw [e, Option.bind_some]
  by_cases c : 5000 < cyS l 1
  · simp only [if_pos c]
  · simp only [if_neg c]

/-! ### Overloads -/
def ov (l : List Str) : Nat → Nat → Option Nat
  | 0, _ => none
  | m + 1, t => if (t : Int) < dem l (t : Int) then some t else ov l m (t + 1)
def ovO : Option Nat → Int ⊕ Unit
  | some x => .inl ((x : Nat) : Int)
  | none => .inr ()
theorem x_ovL (fu : Nat) (hf : 1000 ≤ fu) {l : List Str} (ok : okS l) {c : Nat} (hc : c ≤ 5000) : ∀ n t, t ≤ c + 1 → c + 1 - t < n → bus_OverloadIn_L1 fu l (c : Int) n ((t : Nat) : Int) = some (ovO (ov l (c + 1 - t) t))
  | 0, t, _, h => by omega
  | n + 1, t, ht, h => by
    rw [bus_OverloadIn_L1]
    rcases Nat.lt_or_ge t (c + 1) with h1 | h1
    · rw [if_pos (by omega), x_demand fu hf ok (by omega) (by omega), Option.bind_some, show c + 1 - t = (c + 1 - (t + 1)) + 1 by omega, ov]
      by_cases d : (t : Int) < dem l (t : Int)
      · rw [if_pos d, if_pos d]; rfl
      · rw [if_neg d, if_neg d, wrapS (by omega)]
        exact x_ovL fu hf ok hc n (t + 1) (by omega) (by omega)
    · rw [if_neg (by omega), show c + 1 - t = 0 by omega]; rfl
theorem x_refOvL (fu : Nat) (hf : 1000 ≤ fu) {l : List Str} (ok : okS l) {c : Nat} (hc : c ≤ 5000) : ∀ n t, t ≤ c + 1 → c + 1 - t < n → r7_Overload_L1 fu l (c : Int) n ((t : Nat) : Int) = some (ovO (ov l (c + 1 - t) t))
  | 0, t, _, h => by omega
  | n + 1, t, ht, h => by
    rw [r7_Overload_L1]
    rcases Nat.lt_or_ge t (c + 1) with h1 | h1
    · rw [if_pos (by omega), x_refDemand fu hf ok (by omega) (by omega), Option.bind_some, show c + 1 - t = (c + 1 - (t + 1)) + 1 by omega, ov]
      by_cases d : (t : Int) < dem l (t : Int)
      · rw [if_pos d, if_pos d]; rfl
      · rw [if_neg d, if_neg d, wrapS (by omega)]
        exact x_refOvL fu hf ok hc n (t + 1) (by omega) (by omega)
    · rw [if_neg (by omega), show c + 1 - t = 0 by omega]; rfl
theorem x_refOver (fu : Nat) (hf : 10000 ≤ fu) {l : List Str} (ok : okS l) {c : Nat} (hc : c ≤ 5000) : r7_Overload fu l (c : Int) = some (match ov l c 1 with | some x => ((x : Int), true) | none => (0, false)) := by
  unfold r7_Overload
  have e := x_refOvL fu (by omega) ok hc fu 1 (by omega) (by omega)
  rw [show ((1 : Nat) : Int) = 1 from rfl, show c + 1 - 1 = c by omega] at e
  rw [e, Option.bind_some]
  cases ov l c 1 <;> rfl
def ovF (l : List Str) : Int × Int := if stE l = 0 then (if 5000 < cyS l 1 then (0, 8) else match ov l (cyS l 1) 1 with | some x => ((x : Int), 0) | none => (0, 12)) else (0, stE l)
theorem x_overload (fu : Nat) (hf : 10000 ≤ fu) (l : List Str) (hl : l.length < 50) : bus_OverloadIn fu l = some (ovF l) := by
  unfold bus_OverloadIn ovF
  rw [x_streams fu (by omega) l hl, Option.bind_some]
  by_cases h0 : stE l = 0
  · have ok : okS l := stE_ok h0
    rw [if_pos h0, if_pos h0, x_cycle fu (by omega) ok, Option.bind_some]
    by_cases c : 5000 < cyS l 1
    · rw [if_pos (by omega), if_pos c]
    · have e := x_ovL fu (by omega) ok (c := cyS l 1) (by omega) fu 1 (by omega) (by omega)
      rw [show ((1 : Nat) : Int) = 1 from rfl, show cyS l 1 + 1 - 1 = cyS l 1 by omega] at e
      rw [if_neg (by omega), if_neg c, e, Option.bind_some]
      cases ov l (cyS l 1) 1 <;> rfl
  · rw [if_neg h0, if_neg h0]
def tiE (t : Int) : Int := limE t 0 10000
def deF (l : List Str) (t : Int) : Int × Int := if stE l = 0 then (if tiE t = 0 then (dem l t, 0) else (0, tiE t)) else (0, stE l)
theorem x_demandIn (fu : Nat) (hf : 1000 ≤ fu) (l : List Str) (hl : l.length < 50) (t : Int) : bus_DemandIn fu l t = some (deF l t) := by
  unfold bus_DemandIn deF
  rw [x_streams fu hf l hl, Option.bind_some, x_limit, Option.bind_some, x_first fu _ (by simp; omega) (by simp), Option.bind_some, firstE, firstE, firstE]
  show (if (if stE l = 0 then (if tiE t = 0 then (0 : Int) else tiE t) else stE l) = 0 then _ else some ((0 : Int), (if stE l = 0 then (if tiE t = 0 then (0 : Int) else tiE t) else stE l))) = _
  by_cases h0 : stE l = 0
  · rw [if_pos h0, if_pos h0]
    by_cases h1 : tiE t = 0
    · have ht := limE_zero.1 h1
      rw [if_pos h1, if_pos h1, if_pos rfl, x_demand fu hf (stE_ok h0) ht.1 ht.2]; rfl
    · rw [if_neg h1, if_neg h1, if_neg h1]
  · rw [if_neg h0, if_neg h0, if_neg h0]
end Go.Proofs.YtefkmidmjofdcaaGreat
