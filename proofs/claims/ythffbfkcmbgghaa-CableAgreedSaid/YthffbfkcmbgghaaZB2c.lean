/-
  'CableReadings': what is carried, how far readings are apart: the program's functions and the reference's say the same.
-/
import Derived.Test.YthffbfkcmbgghaaZB2b
set_option linter.all false
namespace Go.Proofs.Ythffbfkcmbgghaa
open Go Go.RowKit
theorem at_nat {α : Type} {l : List α} {i : Nat} {a : α} (h : l[i]? = some a) : (0 : Int) ≤ (i : Int) ∧ (i : Int) < (l.length : Int) ∧ l[0 + ((i : Int)).toNat]? = some a := by
  have := (List.getElem?_eq_some_iff.1 h).1
  refine ⟨by omega, by omega, ?_⟩
  rw [Int.toNat_natCast, Nat.zero_add]; exact h
structure VB (X : Int) (l : List Lk) (b : List Rg) : Prop where
  ld : -10000 ≤ X ∧ X ≤ 10000
  ll : 1 ≤ l.length ∧ l.length ≤ 10
  bl : b.length = l.length
  lk : ∀ e ∈ l, okL e
  bx : ∀ r ∈ b, rgE 50 r = 0
theorem mul_b {d c : Int} (h : 0 ≤ d ∧ d ≤ 20) (h' : -50 ≤ c ∧ c ≤ 50) : -1000 ≤ d * c ∧ d * c ≤ 1000 := by
  have h1 := Int.mul_le_mul_of_nonneg_left h'.2 h.1
  have h2 := Int.mul_le_mul_of_nonneg_left h'.1 h.1
  omega
theorem rgE_ok {m : Int} {r : Rg} (h : rgE m r = 0) : (-m ≤ r.1 ∧ r.1 ≤ m) ∧ (-m ≤ r.2 ∧ r.2 ≤ m) ∧ r.1 ≤ r.2 := by
  unfold rgE at h
  split at h
  · split at h
    · omega
    · omega
  · omega
def gL (l : List Lk) (b : List Rg) (i : Nat) : Int := (l[i]?.getD (0, 0, 0)).2.2 * (b[i]?.getD (0, 0)).1
def gH (l : List Lk) (b : List Rg) (i : Nat) : Int := (l[i]?.getD (0, 0, 0)).2.2 * (b[i]?.getD (0, 0)).2
theorem VB.at {X : Int} {l : List Lk} {b : List Rg} (v : VB X l b) {i : Nat} (h : i < l.length) : ∃ e r, l[i]? = some e ∧ b[i]? = some r ∧ e.2.2 * r.1 = gL l b i ∧ e.2.2 * r.2 = gH l b i ∧ (-1000 ≤ gL l b i ∧ gL l b i ≤ 1000) ∧ (-1000 ≤ gH l b i ∧ gH l b i ≤ 1000) := by
  have h2 : i < b.length := by rw [v.bl]; exact h
  have e1 : l[i]? = some l[i] := List.getElem?_eq_getElem h
  have e2 : b[i]? = some b[i] := List.getElem?_eq_getElem h2
  obtain ⟨_, _, k⟩ := v.lk _ (List.getElem_mem h)
  obtain ⟨r1, r2, _⟩ := rgE_ok (v.bx _ (List.getElem_mem h2))
  have a1 : l[i].2.2 * b[i].1 = gL l b i := by unfold gL; rw [e1, e2]; rfl
  have a2 : l[i].2.2 * b[i].2 = gH l b i := by unfold gH; rw [e1, e2]; rfl
  have m1 := mul_b k r1
  have m2 := mul_b k r2
  rw [a1] at m1
  rw [a2] at m2
  exact ⟨_, _, e1, e2, a1, a2, m1, m2⟩
def S (g : Nat → Int) : Nat → Nat → Int → Int
  | 0, _, x => x
  | m + 1, i, x => S g m (i + 1) (x + g i)
theorem S_s (g : Nat → Int) (m i : Nat) (x : Int) : S g (m + 1) i x = S g m (i + 1) (x + g i) := rfl
theorem S_b {g : Nat → Int} {L : Nat} (hg : ∀ i, i < L → -1000 ≤ g i ∧ g i ≤ 1000) : ∀ (m i : Nat) (x B : Int), i + m ≤ L → -B ≤ x ∧ x ≤ B → -(B + 1000 * (m : Int)) ≤ S g m i x ∧ S g m i x ≤ B + 1000 * (m : Int)
  | 0, _, x, B, _, h => by unfold S; omega
  | m + 1, i, x, B, hi, h => by
    have := hg i (by omega)
    have := S_b hg m (i + 1) (x + g i) (B + 1000) (by omega) (by omega)
    rw [S_s]; omega
structure Bd (m : Nat) (y : Int) : Prop where
  lo : -(1000000 - 1000 * (m : Int)) ≤ y
  hi : y ≤ 1000000 - 1000 * (m : Int)
theorem p_car (fu : Nat) {X : Int} {l : List Lk} {b : List Rg} (v : VB X l b) (p3 p4 : Int) {t : Nat} (ht : t ≤ l.length) : ∀ (m n i : Nat) (y z : Int), i + m = t → m < n → Bd m y → Bd m z → c_line_carried_L1 fu l b (t : Int) p3 p4 n y z (i : Int) = some (S (gL l b) m i y, S (gH l b) m i z)
  | _, 0, _, _, _, _, h, _, _ => absurd h (Nat.not_lt_zero _)
  | 0, n + 1, i, y, z, hi, _, _, _ => by
    rw [c_line_carried_L1, if_neg (by omega)]; rfl
  | m + 1, n + 1, i, y, z, hi, hn, hy, hz => by
    obtain ⟨e, r, e1, e2, a1, a2, b1, b2⟩ := v.at (show i < l.length by omega)
    obtain ⟨h1, h2, h3⟩ := at_nat e1
    obtain ⟨k1, k2, k3⟩ := at_nat e2
    obtain ⟨hy1, hy2⟩ := hy
    obtain ⟨hz1, hz2⟩ := hz
    have hll := v.ll
    rw [c_line_carried_L1, if_pos (by omega), if_pos h1, if_pos h2, h3, Option.bind_some, if_pos k2, k3, Option.bind_some, a1, a2, wrapB (x := gL l b i) (by omega) (by omega), wrapB (x := gH l b i) (by omega) (by omega), wrapB (x := y + gL l b i) (by omega) (by omega), wrapB (x := z + gH l b i) (by omega) (by omega), wrapS (by omega), p_car fu v p3 p4 ht m n (i + 1) (y + gL l b i) (z + gH l b i) (by omega) (by omega) ⟨by omega, by omega⟩ ⟨by omega, by omega⟩, S_s, S_s]
def dI (a b : Rg) : Int := if a.1 - b.2 < b.1 - a.2 then b.1 - a.2 else a.1 - b.2
def ps (d : Int) : Int := if 0 < d then d else 0
def sm (r : Rg) : Prop := (-100000 ≤ r.1 ∧ r.1 ≤ 100000) ∧ (-100000 ≤ r.2 ∧ r.2 ≤ 100000)
theorem p_ap {a b : Rg} (ha : sm a) (hb : sm b) : u_Apart a.1 a.2 b.1 b.2 = some (ps (dI a b)) := by
  obtain ⟨a1, a2⟩ := ha
  obtain ⟨b1, b2⟩ := hb
  unfold u_Apart ps dI
  rw [wrapB (x := a.1 - b.2) (by omega) (by omega), wrapB (x := b.1 - a.2) (by omega) (by omega)]
  (repeat' split) <;> first | rfl | (exfalso; omega) | (congr 1; omega)
def cI (l : List Lk) (b : List Rg) (m i : Nat) (x : Rg) : Rg := (S (gL l b) m i x.1, S (gH l b) m i x.2)
theorem VB.small {X : Int} {l : List Lk} {b : List Rg} (v : VB X l b) {m i : Nat} {x : Rg} (h : i + m ≤ l.length) (hx : (-20000 ≤ x.1 ∧ x.1 ≤ 20000) ∧ (-20000 ≤ x.2 ∧ x.2 ≤ 20000)) : sm (cI l b m i x) := by
  have h1 := S_b (g := gL l b) (L := l.length) (fun i hi => by obtain ⟨e, r, _, _, _, _, a, _⟩ := v.at hi; exact a) m i x.1 20000 h hx.1
  have h2 := S_b (g := gH l b) (L := l.length) (fun i hi => by obtain ⟨e, r, _, _, _, _, _, a⟩ := v.at hi; exact a) m i x.2 20000 h hx.2
  have := v.ll
  unfold sm cI
  constructor <;> dsimp only <;> omega
structure RdOk (l : List Lk) (e : Lk) (k : Nat) : Prop where
  ix : e.1 = (k : Int)
  lt : k < l.length
  rg : (-20000 ≤ e.2.1 ∧ e.2.1 ≤ 20000) ∧ (-20000 ≤ e.2.2 ∧ e.2.2 ≤ 20000)
def A1 (X : Int) (l : List Lk) (b : List Rg) (e : Lk) : Int := dI (cI l b (e.1.toNat + 1) 0 (X, X)) e.2
def A2' (l : List Lk) (b : List Rg) (r s : Lk) : Int := dI (cI l b (s.1.toNat - r.1.toNat) (r.1.toNat + 1) r.2) s.2
def A2 (l : List Lk) (b : List Rg) (r s : Lk) : Int := if s.1 < r.1 then A2' l b s r else A2' l b r s
theorem sm_rg {l : List Lk} {e : Lk} {k : Nat} (h : RdOk l e k) : sm e.2 := by
  obtain ⟨h1, h2⟩ := h.rg
  unfold sm; omega
theorem p_load {fu : Nat} (hf : 1000 ≤ fu) {X Z : Int} {l : List Lk} {b : List Rg} (v : VB X l b) {e : Lk} {k : Nat} (h : RdOk l e k) : c_line_apartFromLoad fu X Z l b e.1 e.2.1 e.2.2 = some (ps (A1 X l b e)) := by
  have := v.ll
  have hl := h.lt
  have e1 := p_car fu v X Z (t := k + 1) (by omega) (k + 1) fu 0 X X (by omega) (by omega) ⟨by have := v.ld; omega, by have := v.ld; omega⟩ ⟨by have := v.ld; omega, by have := v.ld; omega⟩
  rw [show ((0 : Nat) : Int) = 0 from rfl] at e1
  unfold c_line_apartFromLoad c_line_carried A1
  rw [h.ix, wrapS (by omega), e1, Option.bind_some, Option.bind_some, Int.toNat_natCast]
  have e2 := p_ap (v.small (m := k + 1) (i := 0) (x := (X, X)) (by omega) (by have := v.ld; dsimp only; omega)) (sm_rg h)
  unfold cI at e2 ⊢
  rw [e2, Option.bind_some]
theorem p_each' {fu : Nat} (hf : 1000 ≤ fu) {X : Int} (p3 p4 : Int) {l : List Lk} {b : List Rg} (v : VB X l b) {r s : Lk} {k j : Nat} (h : RdOk l r k) (g : RdOk l s j) (hkj : k ≤ j) : (Option.bind (c_line_carried fu p3 p4 l r.2.1 r.2.2 (IntKind.wrap .i64 (r.1 + 1)) (IntKind.wrap .i64 (s.1 + 1)) b) fun r2 => Option.bind (u_Apart r2.1 r2.2 s.2.1 s.2.2) fun r3 => some r3) = some (ps (A2' l b r s)) := by
  have := v.ll
  have hl := h.lt
  have gl := g.lt
  have hr := h.rg
  have e1 := p_car fu v p3 p4 (t := j + 1) (by omega) (j - k) fu (k + 1) r.2.1 r.2.2 (by omega) (by omega) ⟨by omega, by omega⟩ ⟨by omega, by omega⟩
  have e2 := p_ap (v.small (m := j - k) (i := k + 1) (x := r.2) (by omega) hr) (sm_rg g)
  unfold c_line_carried A2'
  rw [h.ix, g.ix, wrapS (by omega), wrapS (by omega), e1, Option.bind_some, Option.bind_some, Int.toNat_natCast, Int.toNat_natCast]
  unfold cI at e2 ⊢
  rw [e2, Option.bind_some]
theorem p_each {fu : Nat} (hf : 1000 ≤ fu) {X Z : Int} {l : List Lk} {b : List Rg} (v : VB X l b) {r s : Lk} {k j : Nat} (h : RdOk l r k) (g : RdOk l s j) : c_line_apartFromEachOther fu X Z l b r.1 r.2.1 r.2.2 s.1 s.2.1 s.2.2 = some (ps (A2 l b r s)) := by
  have e1 := h.ix
  have e2 := g.ix
  unfold c_line_apartFromEachOther A2
  by_cases c : s.1 < r.1
  · rw [if_pos c, if_pos c]; exact p_each' hf X Z v g h (by omega)
  · rw [if_neg c, if_neg c]; exact p_each' hf X Z v h g (by omega)
/-! ### The reference's pulls -/
end Go.Proofs.Ythffbfkcmbgghaa
