/-
  'CableReadings': what is carried, how far readings are apart: the program's functions and the reference's say the same.
-/
import Derived.Test.YtghglgaimhfedaaZB1b
set_option linter.all false
namespace Go.Proofs.Ytghglgaimhfedaa
open Go Go.RowKit

theorem at_nat {α : Type} {l : List α} {i : Nat} {a : α} (h : l[i]? = some a) : (0 : Int) ≤ (i : Int) ∧ (i : Int) < (l.length : Int) ∧ l[0 + ((i : Int)).toNat]? = some a := by
  have := (List.getElem?_eq_some_iff.1 h).1
  refine ⟨by omega, by omega, ?_⟩
  rw [Int.toNat_natCast, Nat.zero_add]; exact h
structure VB (X : Int) (l : List Lk) (b : List Rg) : Prop where
  ld : -10000 ≤ X ∧ X ≤ 10000
  ll : 1 ≤ l.length ∧ l.length ≤ 10
  bl : b.length = l.length
  lk : ∀ e ∈ l, okL e
  bx : ∀ r ∈ b, rgE 50 r = 0
theorem mul_b {d c : Int} (h : 0 ≤ d ∧ d ≤ 20) (h' : -50 ≤ c ∧ c ≤ 50) : -1000 ≤ d * c ∧ d * c ≤ 1000 := by
  have h1 := Int.mul_le_mul_of_nonneg_left h'.2 h.1
  have h2 := Int.mul_le_mul_of_nonneg_left h'.1 h.1
  omega
theorem rgE_ok {m : Int} {r : Rg} (h : rgE m r = 0) : (-m ≤ r.1 ∧ r.1 ≤ m) ∧ (-m ≤ r.2 ∧ r.2 ≤ m) ∧ r.1 ≤ r.2 := by
  unfold rgE at h
  split at h
  · split at h
    · omega
    · omega
  · omega
def gL (l : List Lk) (b : List Rg) (i : Nat) : Int := (l[i]?.getD (0, 0, 0)).2.2 * (b[i]?.getD (0, 0)).1
def gH (l : List Lk) (b : List Rg) (i : Nat) : Int := (l[i]?.getD (0, 0, 0)).2.2 * (b[i]?.getD (0, 0)).2
theorem VB.at {X : Int} {l : List Lk} {b : List Rg} (v : VB X l b) {i : Nat} (h : i < l.length) : ∃ e r, l[i]? = some e ∧ b[i]? = some r ∧ e.2.2 * r.1 = gL l b i ∧ e.2.2 * r.2 = gH l b i ∧ (-1000 ≤ gL l b i ∧ gL l b i ≤ 1000) ∧ (-1000 ≤ gH l b i ∧ gH l b i ≤ 1000) := by
  have h2 : i < b.length := by rw [v.bl]; exact h
  have e1 : l[i]? = some l[i] := List.getElem?_eq_getElem h
  have e2 : b[i]? = some b[i] := List.getElem?_eq_getElem h2
  obtain ⟨_, _, k⟩ := v.lk _ (List.getElem_mem h)
  obtain ⟨r1, r2, _⟩ := rgE_ok (v.bx _ (List.getElem_mem h2))
  have a1 : l[i].2.2 * b[i].1 = gL l b i := by unfold gL; rw [e1, e2]; rfl
  have a2 : l[i].2.2 * b[i].2 = gH l b i := by unfold gH; rw [e1, e2]; rfl
  have m1 := mul_b k r1
  have m2 := mul_b k r2
  rw [a1] at m1
  rw [a2] at m2
  exact ⟨_, _, e1, e2, a1, a2, m1, m2⟩
def S (g : Nat → Int) : Nat → Nat → Int → Int
  | 0, _, x => x
  | m + 1, i, x => S g m (i + 1) (x + g i)
theorem S_s (g : Nat → Int) (m i : Nat) (x : Int) : S g (m + 1) i x = S g m (i + 1) (x + g i) := rfl
theorem S_b {g : Nat → Int} {L : Nat} (hg : ∀ i, i < L → -1000 ≤ g i ∧ g i ≤ 1000) : ∀ (m i : Nat) (x B : Int), i + m ≤ L → -B ≤ x ∧ x ≤ B → -(B + 1000 * (m : Int)) ≤ S g m i x ∧ S g m i x ≤ B + 1000 * (m : Int)
  | 0, _, x, B, _, h => by unfold S; omega
  | m + 1, i, x, B, hi, h => by
    have := hg i (by omega)
    have := S_b hg m (i + 1) (x + g i) (B + 1000) (by omega) (by omega)
    rw [S_s]; omega
structure Bd (m : Nat) (y : Int) : Prop where
  lo : -(1000000 - 1000 * (m : Int)) ≤ y
  hi : y ≤ 1000000 - 1000 * (m : Int)
theorem p_car (fu : Nat) {X : Int} {l : List Lk} {b : List Rg} (v : VB X l b) (p3 p4 : Int) {t : Nat} (ht : t ≤ l.length) : ∀ (m n i : Nat) (y z : Int), i + m = t → m < n → Bd m y → Bd m z → c_line_carried_L1 fu l b (t : Int) p3 p4 n y z (i : Int) = some (S (gL l b) m i y, S (gH l b) m i z)
  | _, 0, _, _, _, _, h, _, _ => absurd h (Nat.not_lt_zero _)
  | 0, n + 1, i, y, z, hi, _, _, _ => by
    rw [c_line_carried_L1, if_neg (by omega)]; rfl
  | m + 1, n + 1, i, y, z, hi, hn, hy, hz => by
    obtain ⟨e, r, e1, e2, a1, a2, b1, b2⟩ := v.at (show i < l.length by omega)
    obtain ⟨h1, h2, h3⟩ := at_nat e1
    obtain ⟨k1, k2, k3⟩ := at_nat e2
    obtain ⟨hy1, hy2⟩ := hy
    obtain ⟨hz1, hz2⟩ := hz
    have hll := v.ll
    rw [c_line_carried_L1, if_pos (by omega), if_pos h1, if_pos h2, h3, Option.bind_some, if_pos k2, k3, Option.bind_some, a1, a2, wrapB (x := gL l b i) (by omega) (by omega), wrapB (x := gH l b i) (by omega) (by omega), wrapB (x := y + gL l b i) (by omega) (by omega), wrapB (x := z + gH l b i) (by omega) (by omega), wrapS (by omega), p_car fu v p3 p4 ht m n (i + 1) (y + gL l b i) (z + gH l b i) (by omega) (by omega) ⟨by omega, by omega⟩ ⟨by omega, by omega⟩, S_s, S_s]
theorem r_car (fu : Nat) {X : Int} {l : List Lk} {b : List Rg} (v : VB X l b) (p2 : List Lk) (p3 : List Int) (p4 p5 p7 p8 : Int) {t : Nat} (ht : t < l.length) : ∀ (m n i : Nat) (y z : Int), i + m = t + 1 → m < n → Bd m y → Bd m z → r1_Apart_L1 fu l b p2 p3 p4 p5 (t : Int) p7 p8 n y z (i : Int) = some (S (gL l b) m i y, S (gH l b) m i z)
  | _, 0, _, _, _, _, h, _, _ => absurd h (Nat.not_lt_zero _)
  | 0, n + 1, i, y, z, hi, _, _, _ => by
    rw [r1_Apart_L1, if_neg (by omega)]; rfl
  | m + 1, n + 1, i, y, z, hi, hn, hy, hz => by
    obtain ⟨e, r, e1, e2, a1, a2, b1, b2⟩ := v.at (show i < l.length by omega)
    obtain ⟨h1, h2, h3⟩ := at_nat e1
    obtain ⟨k1, k2, k3⟩ := at_nat e2
    obtain ⟨hy1, hy2⟩ := hy
    obtain ⟨hz1, hz2⟩ := hz
    have hll := v.ll
    rw [r1_Apart_L1, if_pos (by omega), if_pos h1, if_pos h2, h3, Option.bind_some, if_pos k2, k3, Option.bind_some, a1, a2, wrapB (x := gL l b i) (by omega) (by omega), wrapB (x := gH l b i) (by omega) (by omega), wrapB (x := y + gL l b i) (by omega) (by omega), wrapB (x := z + gH l b i) (by omega) (by omega), wrapS (by omega), r_car fu v p2 p3 p4 p5 p7 p8 ht m n (i + 1) (y + gL l b i) (z + gH l b i) (by omega) (by omega) ⟨by omega, by omega⟩ ⟨by omega, by omega⟩, S_s, S_s]

/-! ### How far apart -/
def dI (a b : Rg) : Int := if a.1 - b.2 < b.1 - a.2 then b.1 - a.2 else a.1 - b.2
def ps (d : Int) : Int := if 0 < d then d else 0
def sm (r : Rg) : Prop := (-100000 ≤ r.1 ∧ r.1 ≤ 100000) ∧ (-100000 ≤ r.2 ∧ r.2 ≤ 100000)
theorem p_ap {a b : Rg} (ha : sm a) (hb : sm b) : u_Apart a.1 a.2 b.1 b.2 = some (ps (dI a b)) := by
  obtain ⟨a1, a2⟩ := ha
  obtain ⟨b1, b2⟩ := hb
  unfold u_Apart ps dI
  rw [wrapB (x := a.1 - b.2) (by omega) (by omega), wrapB (x := b.1 - a.2) (by omega) (by omega)]
  (repeat' split) <;> first | rfl | (exfalso; omega) | (congr 1; omega)
theorem r_ap {a b : Rg} (ha : sm a) (hb : sm b) : r1_distance b.1 b.2 a.1 a.2 = some (dI a b) := by
  obtain ⟨a1, a2⟩ := ha
  obtain ⟨b1, b2⟩ := hb
  unfold r1_distance dI
  rw [wrapB (x := a.1 - b.2) (by omega) (by omega), wrapB (x := b.1 - a.2) (by omega) (by omega)]
  (repeat' split) <;> first | rfl | (exfalso; omega) | (congr 1; omega)
def cI (l : List Lk) (b : List Rg) (m i : Nat) (x : Rg) : Rg := (S (gL l b) m i x.1, S (gH l b) m i x.2)
theorem VB.small {X : Int} {l : List Lk} {b : List Rg} (v : VB X l b) {m i : Nat} {x : Rg} (h : i + m ≤ l.length) (hx : (-20000 ≤ x.1 ∧ x.1 ≤ 20000) ∧ (-20000 ≤ x.2 ∧ x.2 ≤ 20000)) : sm (cI l b m i x) := by
  have h1 := S_b (g := gL l b) (L := l.length) (fun i hi => by obtain ⟨e, r, _, _, _, _, a, _⟩ := v.at hi; exact a) m i x.1 20000 h hx.1
  have h2 := S_b (g := gH l b) (L := l.length) (fun i hi => by obtain ⟨e, r, _, _, _, _, _, a⟩ := v.at hi; exact a) m i x.2 20000 h hx.2
  have := v.ll
  unfold sm cI
  constructor <;> dsimp only <;> omega
/-- A reading as it may stand: link k, a range. -/
structure RdOk (l : List Lk) (e : Lk) (k : Nat) : Prop where
  ix : e.1 = (k : Int)
  lt : k < l.length
  rg : (-20000 ≤ e.2.1 ∧ e.2.1 ≤ 20000) ∧ (-20000 ≤ e.2.2 ∧ e.2.2 ≤ 20000)
def A1 (X : Int) (l : List Lk) (b : List Rg) (e : Lk) : Int := dI (cI l b (e.1.toNat + 1) 0 (X, X)) e.2
def A2' (l : List Lk) (b : List Rg) (r s : Lk) : Int := dI (cI l b (s.1.toNat - r.1.toNat) (r.1.toNat + 1) r.2) s.2
def A2 (l : List Lk) (b : List Rg) (r s : Lk) : Int := if s.1 < r.1 then A2' l b s r else A2' l b r s
theorem sm_rg {l : List Lk} {e : Lk} {k : Nat} (h : RdOk l e k) : sm e.2 := by
  obtain ⟨h1, h2⟩ := h.rg
  unfold sm; omega
theorem p_load {fu : Nat} (hf : 1000 ≤ fu) {X Z : Int} {l : List Lk} {b : List Rg} (v : VB X l b) {e : Lk} {k : Nat} (h : RdOk l e k) : c_line_apartFromLoad fu X Z l b e.1 e.2.1 e.2.2 = some (ps (A1 X l b e)) := by
  have := v.ll
  have hl := h.lt
  have e1 := p_car fu v X Z (t := k + 1) (by omega) (k + 1) fu 0 X X (by omega) (by omega) ⟨by have := v.ld; omega, by have := v.ld; omega⟩ ⟨by have := v.ld; omega, by have := v.ld; omega⟩
  rw [show ((0 : Nat) : Int) = 0 from rfl] at e1
  unfold c_line_apartFromLoad c_line_carried A1
  rw [h.ix, wrapS (by omega), e1, Option.bind_some, Option.bind_some, Int.toNat_natCast]
  have e2 := p_ap (v.small (m := k + 1) (i := 0) (x := (X, X)) (by omega) (by have := v.ld; dsimp only; omega)) (sm_rg h)
  unfold cI at e2 ⊢
  rw [e2, Option.bind_some]
theorem p_each' {fu : Nat} (hf : 1000 ≤ fu) {X : Int} (p3 p4 : Int) {l : List Lk} {b : List Rg} (v : VB X l b) {r s : Lk} {k j : Nat} (h : RdOk l r k) (g : RdOk l s j) (hkj : k ≤ j) : (Option.bind (c_line_carried fu p3 p4 l r.2.1 r.2.2 (IntKind.wrap .i64 (r.1 + 1)) (IntKind.wrap .i64 (s.1 + 1)) b) fun r2 => Option.bind (u_Apart r2.1 r2.2 s.2.1 s.2.2) fun r3 => some r3) = some (ps (A2' l b r s)) := by
  have := v.ll
  have hl := h.lt
  have gl := g.lt
  have hr := h.rg
  have e1 := p_car fu v p3 p4 (t := j + 1) (by omega) (j - k) fu (k + 1) r.2.1 r.2.2 (by omega) (by omega) ⟨by omega, by omega⟩ ⟨by omega, by omega⟩
  have e2 := p_ap (v.small (m := j - k) (i := k + 1) (x := r.2) (by omega) hr) (sm_rg g)
  unfold c_line_carried A2'
  rw [h.ix, g.ix, wrapS (by omega), wrapS (by omega), e1, Option.bind_some, Option.bind_some, Int.toNat_natCast, Int.toNat_natCast]
  unfold cI at e2 ⊢
  rw [e2, Option.bind_some]
theorem p_each {fu : Nat} (hf : 1000 ≤ fu) {X Z : Int} {l : List Lk} {b : List Rg} (v : VB X l b) {r s : Lk} {k j : Nat} (h : RdOk l r k) (g : RdOk l s j) : c_line_apartFromEachOther fu X Z l b r.1 r.2.1 r.2.2 s.1 s.2.1 s.2.2 = some (ps (A2 l b r s)) := by
  have e1 := h.ix
  have e2 := g.ix
  unfold c_line_apartFromEachOther A2
  by_cases c : s.1 < r.1
  · rw [if_pos c, if_pos c]; exact p_each' hf X Z v g h (by omega)
  · rw [if_neg c, if_neg c]; exact p_each' hf X Z v h g (by omega)

/-! ### The reference's pulls -/
theorem r_end (fu : Nat) (b : List Rg) (hb : b.length < 1000) (fl : Bool) : ∀ (n i : Nat) (acc : List Int), acc.length = i → i ≤ b.length → b.length - i < n → r1_End_L1 fu b fl n acc (i : Int) = some (acc ++ (b.drop i).map (fun r => if fl = true then r.2 else r.1))
  | 0, _, _, _, _, h => by omega
  | n + 1, i, acc, ha, hi, hn => by
    rw [r1_End_L1]
    rcases Nat.lt_or_ge i b.length with h1 | h1
    · have he : b[i]? = some b[i] := List.getElem?_eq_getElem h1
      obtain ⟨g1, g2, g3⟩ := at_nat he
      rw [if_pos (by omega), List.drop_eq_getElem_cons h1, List.map_cons, wrapS (by omega)]
      cases fl with
      | true =>
        rw [if_pos rfl, if_pos g1, g3, Option.bind_some, if_pos (by omega), r_end fu b hb true n (i + 1) _ (by simp [ha]) (by omega) (by omega)]
        simp
      | false =>
        rw [if_neg (by simp), if_pos g1, g3, Option.bind_some, if_pos (by omega), r_end fu b hb false n (i + 1) _ (by simp [ha]) (by omega) (by omega)]
        simp
    · rw [if_neg (by omega), List.drop_of_length_le h1]; simp
theorem r_ten (fu : Nat) {l : List Lk} {c : List Int} {g : Nat → Int} (hl : l.length < 100) (hc : ∀ i, i < l.length → ∃ e q, l[i]? = some e ∧ c[i]? = some q ∧ e.2.2 * q = g i ∧ -1000 ≤ g i ∧ g i ≤ 1000) (p2 p3 : Int) : ∀ (m n i : Nat) (acc : List Rg) (y z : Int), i + m = l.length → acc.length = i → m < n → Bd m y → ∃ t, r1_Tensions_L1 fu l c p2 p3 n acc y z (i : Int) = some (acc ++ t) ∧ t.length = m ∧ ∀ k, k < m → ∃ q, t[k]? = some (S g (k + 1) i y, q)
  | _, 0, _, _, _, _, _, _, h, _ => absurd h (Nat.not_lt_zero _)
  | 0, n + 1, i, acc, y, z, hi, _, _, _ => by
    rw [r1_Tensions_L1, if_neg (by omega)]
    exact ⟨[], by simp, rfl, fun k hk => by omega⟩
  | m + 1, n + 1, i, acc, y, z, hi, ha, hn, hy => by
    obtain ⟨e, q, e1, e2, a1, b1, b2⟩ := hc i (by omega)
    obtain ⟨h1, h2, h3⟩ := at_nat e1
    obtain ⟨k1, k2, k3⟩ := at_nat e2
    obtain ⟨hy1, hy2⟩ := hy
    obtain ⟨t, t1, t2, t3⟩ := r_ten fu hl hc p2 p3 m n (i + 1) (acc ++ [(y + g i, IntKind.wrap .i64 (z + e.2.1))]) (y + g i) (IntKind.wrap .i64 (z + e.2.1)) (by omega) (by simp [ha]) (by omega) ⟨by omega, by omega⟩
    rw [r1_Tensions_L1, if_pos h2, if_pos h1, h3, Option.bind_some, if_pos k2, k3, Option.bind_some, if_pos (by omega), a1, wrapB (x := g i) (by omega) (by omega), wrapB (x := y + g i) (by omega) (by omega), wrapS (by omega), t1]
    refine ⟨(y + g i, IntKind.wrap .i64 (z + e.2.1)) :: t, by simp, by simp [t2], fun k hk => ?_⟩
    cases k with
    | zero => exact ⟨_, rfl⟩
    | succ k =>
      obtain ⟨q, hq⟩ := t3 k (by omega)
      exact ⟨q, by rw [List.getElem?_cons_succ, hq, S_s g (k + 1)]⟩
theorem r_pul (fu : Nat) (p0 : List Lk) (p1 : List Rg) {u w : List Rg} (hu : u.length < 100) (hw : w.length = u.length) : ∀ (m n i : Nat) (acc : List Rg), i + m = u.length → acc.length = i → m < n → ∃ t, r1_Pulls_L1 fu p0 p1 u w n acc (i : Int) = some (acc ++ t) ∧ t.length = m ∧ ∀ k, k < m → ∀ x y, u[i + k]? = some x → w[i + k]? = some y → t[k]? = some (x.1, y.1)
  | _, 0, _, _, _, _, h => by omega
  | 0, n + 1, i, acc, hi, _, _ => by
    rw [r1_Pulls_L1, if_neg (by omega)]
    exact ⟨[], by simp, rfl, fun k hk => by omega⟩
  | m + 1, n + 1, i, acc, hi, ha, hn => by
    have e1 : u[i]? = some (u[i]'(by omega)) := List.getElem?_eq_getElem (by omega)
    have e2 : w[i]? = some (w[i]'(by omega)) := List.getElem?_eq_getElem (by omega)
    obtain ⟨h1, h2, h3⟩ := at_nat e1
    obtain ⟨k1, k2, k3⟩ := at_nat e2
    obtain ⟨t, t1, t2, t3⟩ := r_pul fu p0 p1 hu hw m n (i + 1) (acc ++ [((u[i]'(by omega)).1, (w[i]'(by omega)).1)]) (by omega) (by simp [ha]) (by omega)
    rw [r1_Pulls_L1, if_pos h2, if_pos h1, h3, Option.bind_some, if_pos k2, k3, Option.bind_some, if_pos (by omega), wrapS (by omega), t1]
    refine ⟨((u[i]'(by omega)).1, (w[i]'(by omega)).1) :: t, by simp, by simp [t2], fun k hk x y hx hy => ?_⟩
    cases k with
    | zero =>
      rw [Nat.add_zero, e1] at hx
      rw [Nat.add_zero, e2] at hy
      cases hx; cases hy; rfl
    | succ k =>
      rw [List.getElem?_cons_succ]
      exact t3 k (by omega) x y (by rw [show i + 1 + k = i + (k + 1) by omega]; exact hx) (by rw [show i + 1 + k = i + (k + 1) by omega]; exact hy)
theorem r_pulls {fu : Nat} (hf : 1000 ≤ fu) {X : Int} (Z : Int) {l : List Lk} {b : List Rg} (v : VB X l b) : ∃ t, r1_Pulls fu X Z l b = some t ∧ t.length = l.length ∧ ∀ k, k < l.length → t[k]? = some (cI l b (k + 1) 0 (X, X)) := by
  have hl := v.ll
  have hb := v.bl
  have hX := v.ld
  have e1 := r_end fu b (by omega) false fu 0 [] rfl (by omega) (by omega)
  have e2 := r_end fu b (by omega) true fu 0 [] rfl (by omega) (by omega)
  rw [show ((0 : Nat) : Int) = 0 from rfl, List.nil_append, List.drop_zero] at e1 e2
  obtain ⟨t, t1, t2, t3⟩ := r_ten fu (l := l) (c := b.map fun r => if false = true then r.2 else r.1) (g := gL l b) (by omega) (fun i hi => by
    obtain ⟨e, r, c1, c2, a1, a2, b1, b2⟩ := v.at hi
    exact ⟨e, r.1, c1, by rw [List.getElem?_map, c2]; rfl, a1, b1.1, b1.2⟩) X Z l.length fu 0 [] X Z (by omega) rfl (by omega) ⟨by omega, by omega⟩
  obtain ⟨s, s1, s2, s3⟩ := r_ten fu (l := l) (c := b.map fun r => if true = true then r.2 else r.1) (g := gH l b) (by omega) (fun i hi => by
    obtain ⟨e, r, c1, c2, a1, a2, b1, b2⟩ := v.at hi
    exact ⟨e, r.2, c1, by rw [List.getElem?_map, c2]; rfl, a2, b2.1, b2.2⟩) X Z l.length fu 0 [] X Z (by omega) rfl (by omega) ⟨by omega, by omega⟩
  rw [show ((0 : Nat) : Int) = 0 from rfl, List.nil_append] at t1 s1
  obtain ⟨w, w1, w2, w3⟩ := r_pul fu l b (u := t) (w := s) (by omega) (by omega) t.length fu 0 [] (by omega) rfl (by omega)
  rw [show ((0 : Nat) : Int) = 0 from rfl, List.nil_append] at w1
  unfold r1_Pulls r1_End r1_Tensions
  rw [e1, Option.bind_some, Option.bind_some, t1, Option.bind_some, Option.bind_some, e2, Option.bind_some, Option.bind_some, s1, Option.bind_some, Option.bind_some, w1, Option.bind_some]
  refine ⟨w, rfl, by omega, fun k hk => ?_⟩
  obtain ⟨q1, h1⟩ := t3 k hk
  obtain ⟨q2, h2⟩ := s3 k hk
  exact w3 k (by omega) _ _ (by rw [Nat.zero_add]; exact h1) (by rw [Nat.zero_add]; exact h2)
theorem r_one {fu : Nat} (hf : 1000 ≤ fu) {X Z : Int} {l : List Lk} {b : List Rg} (v : VB X l b) {x : List Lk} {i : Nat} {e : Lk} {k : Nat} (hi : x[i]? = some e) (h : RdOk l e k) : r1_Apart fu X Z l b x [(i : Int)] = some (A1 X l b e) := by
  obtain ⟨g1, g2, g3⟩ := at_nat hi
  obtain ⟨t, t1, t2, t3⟩ := r_pulls hf Z v
  have hl := h.lt
  obtain ⟨k1, k2, k3⟩ := at_nat (t3 k hl)
  unfold r1_Apart A1
  rw [if_pos (by simp), show ([(i : Int)] : List Int)[0 + ((0 : Int)).toNat]? = some (i : Int) from rfl, Option.bind_some, if_pos g1, if_pos g2, g3, Option.bind_some, t1, Option.bind_some, h.ix, if_pos k1, if_pos k2, k3, Option.bind_some, r_ap (v.small (m := k + 1) (i := 0) (x := (X, X)) (by omega) (by have := v.ld; dsimp only; omega)) (sm_rg h), Option.bind_some, Int.toNat_natCast]
theorem r_two {fu : Nat} (hf : 1000 ≤ fu) {X Z : Int} {l : List Lk} {b : List Rg} (v : VB X l b) {x : List Lk} {i j : Nat} {e d : Lk} {k m : Nat} (hi : x[i]? = some e) (hj : x[j]? = some d) (h : RdOk l e k) (g : RdOk l d m) : r1_Apart fu X Z l b x [(i : Int), (j : Int)] = some (A2 l b e d) := by
  obtain ⟨g1, g2, g3⟩ := at_nat hi
  obtain ⟨k1, k2, k3⟩ := at_nat hj
  have hl := v.ll
  have h1 := h.lt
  have h2 := g.lt
  have hr := h.rg
  have gr := g.rg
  have hx := h.ix
  have gx := g.ix
  unfold r1_Apart A2 A2'
  rw [if_neg (by simp), if_pos (by simp), show ([(i : Int), (j : Int)] : List Int)[0 + ((0 : Int)).toNat]? = some (i : Int) from rfl, Option.bind_some, if_pos g1, if_pos g2, g3, Option.bind_some, if_pos (by simp), show ([(i : Int), (j : Int)] : List Int)[0 + ((1 : Int)).toNat]? = some (j : Int) from rfl, Option.bind_some, if_pos k1, if_pos k2, k3, Option.bind_some]
  by_cases c : d.1 < e.1
  · have e1 := r_car fu v x [(i : Int), (j : Int)] X Z e.2.1 e.2.2 (t := k) h1 (k - m) fu (m + 1) d.2.1 d.2.2 (by omega) (by omega) ⟨by omega, by omega⟩ ⟨by omega, by omega⟩
    have e2 := r_ap (v.small (m := k - m) (i := m + 1) (x := d.2) (by omega) gr) (sm_rg h)
    rw [if_pos c, if_pos c, hx, gx, wrapS (by omega), e1, Option.bind_some, Int.toNat_natCast, Int.toNat_natCast]
    unfold cI at e2 ⊢
    rw [e2, Option.bind_some]
  · have e1 := r_car fu v x [(i : Int), (j : Int)] X Z d.2.1 d.2.2 (t := m) h2 (m - k) fu (k + 1) e.2.1 e.2.2 (by omega) (by omega) ⟨by omega, by omega⟩ ⟨by omega, by omega⟩
    have e2 := r_ap (v.small (m := m - k) (i := k + 1) (x := e.2) (by omega) hr) (sm_rg g)
    rw [if_neg c, if_neg c, hx, gx, wrapS (by omega), e1, Option.bind_some, Int.toNat_natCast, Int.toNat_natCast]
    unfold cI at e2 ⊢
    rw [e2, Option.bind_some]
end Go.Proofs.Ytghglgaimhfedaa
