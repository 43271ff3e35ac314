/-
  Mathematics of the law CableEvery: a box within a box, currents within a box.
-/
import Derived.Test.YtghglgaimhfedaaZOe
import Derived.Test.YtghglgaimhfedaaZMw
namespace Go.Proofs.Ytghglgaimhfedaa

/-- By how much the current i of the box is above its smallest one; the currents; a box within the box. -/
def kE (b : List (Int × Int)) (ps : List Int) (i : Nat) : Int := if 0 < ps.length then (ps.getD (i % ps.length) 0) % ((b.getD i (0, 0)).2 - (b.getD i (0, 0)).1 + 1) else 0
def cE (b : List (Int × Int)) (ps : List Int) (i : Nat) : Int := (b.getD i (0, 0)).1 + kE b ps i
def csE (b : List (Int × Int)) (ps : List Int) : List Int := (List.range b.length).map (cE b ps)
def inE (b : List (Int × Int)) (ps : List Int) : List (Int × Int) := (List.range b.length).map fun i => (cE b ps i - kE b ps i / 2, cE b ps i)
theorem kE_bd (b : List (Int × Int)) (ps : List Int) (i : Nat) (h : (b.getD i (0, 0)).1 ≤ (b.getD i (0, 0)).2) : 0 ≤ kE b ps i ∧ kE b ps i ≤ (b.getD i (0, 0)).2 - (b.getD i (0, 0)).1 := by
  unfold kE
  split
  · have h1 := Int.emod_nonneg (ps.getD (i % ps.length) 0) (show (b.getD i (0, 0)).2 - (b.getD i (0, 0)).1 + 1 ≠ 0 by omega)
    have h2 := Int.emod_lt_of_pos (ps.getD (i % ps.length) 0) (show 0 < (b.getD i (0, 0)).2 - (b.getD i (0, 0)).1 + 1 by omega)
    omega
  · omega
theorem getD_mem (xs : List (Int × Int)) (i : Nat) (d : Int × Int) (h : i < xs.length) : xs.getD i d ∈ xs := by
  rw [getD_eq _ _ _ h]; exact List.getElem_mem h
theorem csE_len (b : List (Int × Int)) (ps : List Int) : (csE b ps).length = b.length := by simp [csE]
theorem inE_len (b : List (Int × Int)) (ps : List Int) : (inE b ps).length = b.length := by simp [inE]
theorem cE_bd {l : Ln} {b : List (Int × Int)} (hb : BoxOk l b) (ps : List Int) (i : Nat) (h : i < b.length) :
    (b.getD i (0, 0)).1 ≤ cE b ps i - kE b ps i / 2 ∧ cE b ps i - kE b ps i / 2 ≤ cE b ps i ∧ cE b ps i ≤ (b.getD i (0, 0)).2 ∧ -50 ≤ (b.getD i (0, 0)).1 ∧ (b.getD i (0, 0)).2 ≤ 50 := by
  have h1 := hb.ok _ (getD_mem b i (0, 0) h)
  have h2 := kE_bd b ps i h1.2.1
  unfold cE
  omega
theorem csE_cu {l : Ln} {b : List (Int × Int)} (hb : BoxOk l b) (ps : List Int) : CuOk l (csE b ps) := ⟨by rw [csE_len]; exact hb.len, fun n hn => by
  obtain ⟨i, hi, rfl⟩ := List.mem_map.1 hn
  have := cE_bd hb ps i (by simpa using hi); omega⟩
theorem inE_box {l : Ln} {b : List (Int × Int)} (hb : BoxOk l b) (ps : List Int) : BoxOk l (inE b ps) := ⟨by rw [inE_len]; exact hb.len, fun r hr => by
  obtain ⟨i, hi, rfl⟩ := List.mem_map.1 hr
  have := cE_bd hb ps i (by simpa using hi); simp only; omega⟩
theorem boxErr_of {l : Ln} {b : List (Int × Int)} (h : lineErr l = 0) (hb : BoxOk l b) : boxErr l b = 0 := by
  unfold boxErr checkBox
  rw [if_pos h]
  unfold boxErr1
  rw [if_pos hb.len]
  refine (fb_ok _ b 0).2 fun r hr => ?_
  have := hb.ok r hr
  unfold rangeErr
  rw [if_pos ⟨inR_iff.2 ⟨by omega, by omega⟩, inR_iff.2 ⟨by omega, by omega⟩⟩, if_neg (by omega)]
theorem csE_err {l : Ln} {b : List (Int × Int)} (h : lineErr l = 0) (hb : BoxOk l b) (ps : List Int) : currentsErr l (csE b ps) = 0 :=
  currentsErr_of h (cursErr_of (csE_cu hb ps).len (csE_cu hb ps).ok)

/-! ### a box within a box -/
def In2 : List (Int × Int) → List (Int × Int) → Prop
  | [], [] => True
  | p :: ps, q :: qs => (q.1 ≤ p.1 ∧ p.2 ≤ q.2) ∧ In2 ps qs
  | _, _ => False
theorem In2_of : ∀ (ps qs : List (Int × Int)), ps.length = qs.length → (∀ i (h1 : i < ps.length) (h2 : i < qs.length), qs[i].1 ≤ ps[i].1 ∧ ps[i].2 ≤ qs[i].2) → In2 ps qs
  | [], [], _, _ => trivial
  | [], _ :: _, h, _ => by simp at h
  | _ :: _, [], h, _ => by simp at h
  | p :: ps, q :: qs, h, hi => ⟨hi 0 (by simp) (by simp), In2_of ps qs (by simpa using h) fun i h1 h2 => by
      have := hi (i + 1) (by simpa using h1) (by simpa using h2)
      simpa using this⟩
structure Ins (p q : Pl) : Prop where
  h : p.h = q.h
  z : p.z = q.z
  lo : q.lo ≤ p.lo
  hi : p.hi ≤ q.hi
def All2 (R : Pl → Pl → Prop) : List Pl → List Pl → Prop
  | [], [] => True
  | p :: ps, q :: qs => R p q ∧ All2 R ps qs
  | _, _ => False
theorem All2_at {R : Pl → Pl → Prop} : ∀ {ps qs : List Pl}, All2 R ps qs → ∀ k (h1 : k < ps.length) (h2 : k < qs.length), R ps[k] qs[k]
  | [], _, _, k, h1, _ => by simp at h1
  | _ :: _, [], _, k, _, h2 => by simp at h2
  | _ :: _, _ :: _, h, 0, _, _ => h.1
  | _ :: _, _ :: _, h, k + 1, h1, h2 => by
    simp only [List.getElem_cons_succ]
    exact All2_at h.2 k (by simpa using h1) (by simpa using h2)
theorem pullsF_in {lo hi lo' hi' z : Int} : ∀ {ks : List Lk} {b b' : List (Int × Int)}, lo' ≤ lo → hi ≤ hi' → (∀ k ∈ ks, 0 ≤ k.2.2) → In2 b b' → All2 Ins (pullsF lo hi z ks b) (pullsF lo' hi' z ks b')
  | [], [], [], _, _, _, _ => trivial
  | [], _ :: _, _ :: _, _, _, _, _ => trivial
  | _ :: _, [], [], _, _, _, _ => trivial
  | k :: ks, p :: b, q :: b', h1, h2, hk, hb => by
    have m1 := Int.mul_le_mul_of_nonneg_left hb.1.1 (hk k (by simp))
    have m2 := Int.mul_le_mul_of_nonneg_left hb.1.2 (hk k (by simp))
    refine ⟨⟨rfl, rfl, by show lo' + _ ≤ lo + _; omega, by show hi + _ ≤ hi' + _; omega⟩, pullsF_in (by omega) (by omega) (fun k' hk' => hk k' (by simp [hk'])) hb.2⟩
theorem pulls_in {l : Ln} {b b' : List (Int × Int)} (hl : LnOk l) (hb : In2 b b') : All2 Ins (pulls l b) (pulls l b') :=
  pullsF_in (Int.le_refl _) (Int.le_refl _) (fun k hk => (hl.ok k hk).2.2.2.2.1) hb
theorem in_box {l : Ln} {b : List (Int × Int)} (hb : BoxOk l b) (ps : List Int) : In2 (inE b ps) b := In2_of _ _ (inE_len _ _) fun i h1 h2 => by
  have := cE_bd hb ps i h2
  have e : b.getD i (0, 0) = b[i] := getD_eq _ _ _ h2
  rw [e] at this
  simp only [inE, List.getElem_map, List.getElem_range]
  omega
theorem st_in {l : Ln} {b : List (Int × Int)} (hb : BoxOk l b) (ps : List Int) : In2 (still (csE b ps)) (inE b ps) := In2_of _ _ (by simp [still, csE_len, inE_len]) fun i h1 h2 => by
  have := cE_bd hb ps i (by simpa [inE_len] using h2)
  simp only [inE, still, csE, List.getElem_map, List.getElem_range]
  omega
theorem st_box {l : Ln} {b : List (Int × Int)} (hb : BoxOk l b) (ps : List Int) : In2 (still (csE b ps)) b := In2_of _ _ (by simp [still, csE_len]) fun i h1 h2 => by
  have := cE_bd hb ps i h2
  have e : b.getD i (0, 0) = b[i] := getD_eq _ _ _ h2
  rw [e] at this
  simp only [still, csE, List.getElem_map, List.getElem_range]
  omega
/-! ### sums grow with their parts -/
theorem totR_mono1 {R : Pl → Pl → Prop} (g : Pl → Int × Int) : ∀ {ps qs : List Pl}, All2 R ps qs → (∀ p ∈ ps, ∀ q ∈ qs, R p q → (g q).1 ≤ (g p).1) → (totR g qs).1 ≤ (totR g ps).1
  | [], [], _, _ => Int.le_refl _
  | p :: ps, q :: qs, h, hg => by
    have h1 := hg p (by simp) q (by simp) h.1
    have h2 := totR_mono1 g h.2 fun p hp q hq => hg p (by simp [hp]) q (by simp [hq])
    simp only [totR]
    omega
theorem totR_mono2 {R : Pl → Pl → Prop} (g f : Pl → Int × Int) : ∀ {ps qs : List Pl}, All2 R ps qs → (∀ p ∈ ps, ∀ q ∈ qs, R p q → (g p).2 ≤ (f q).2) → (totR g ps).2 ≤ (totR f qs).2
  | [], [], _, _ => Int.le_refl _
  | p :: ps, q :: qs, h, hg => by
    have h1 := hg p (by simp) q (by simp) h.1
    have h2 := totR_mono2 g f h.2 fun p hp q hq => hg p (by simp [hp]) q (by simp [hq])
    simp only [totR]
    omega
theorem totR_self (g : Pl → Int × Int) : ∀ {ps : List Pl}, (∀ p ∈ ps, (g p).1 ≤ (g p).2) → (totR g ps).1 ≤ (totR g ps).2
  | [], _ => Int.le_refl _
  | p :: ps, h => by
    have h1 := h p (by simp)
    have h2 := totR_self g (ps := ps) fun q hq => h q (List.mem_cons_of_mem _ hq)
    simp only [totR]
    omega
theorem off_mono {p q : Pl} (hp : 0 < p.z) (hh : 0 ≤ p.h) (h : Ins p q) : (offR q).1 ≤ (offR p).1 ∧ (offR p).2 ≤ (offR q).2 := by
  obtain ⟨h1, h2, h3, h4⟩ := h
  unfold offR
  rw [← h1, ← h2]
  have m1 := Int.mul_le_mul_of_nonneg_left h3 hh
  have m2 := Int.mul_le_mul_of_nonneg_left h4 hh
  have d1 := Int.ediv_le_ediv hp m1
  have d2 := Int.ediv_le_ediv hp (show -(p.h * q.hi) ≤ -(p.h * p.hi) by omega)
  exact ⟨d1, by show -_ ≤ -_; omega⟩
theorem isqrtUp_least {m r : Int} (h0 : 0 ≤ m) (h1 : m < 2 ^ 62) (hr : 0 ≤ r) (h : m ≤ r * r) : isqrtUp m ≤ r := by
  obtain ⟨s0, s1, _⟩ := isqrt_spec h0 h1
  unfold isqrtUp
  by_cases hc : isqrt m * isqrt m < m
  · rw [if_pos hc]
    by_cases hlt : r < isqrt m + 1
    · have := Int.mul_le_mul (show r ≤ isqrt m by omega) (show r ≤ isqrt m by omega) hr s0
      omega
    · omega
  · rw [if_neg hc]
    by_cases hlt : r < isqrt m
    · have h3 : r * r < isqrt m * isqrt m := Int.lt_of_le_of_lt (Int.mul_le_mul_of_nonneg_left (Int.le_of_lt hlt) hr) (Int.mul_lt_mul_of_pos_right hlt (by omega))
      omega
    · omega
theorem ceil_mono {a b z : Int} (hz : 0 < z) (h : a ≤ b) : -(-a / z) ≤ -(-b / z) := by
  have := Int.ediv_le_ediv hz (show -b ≤ -a by omega)
  omega
theorem floor_ceil {a b z : Int} (hz : 0 < z) (h : a ≤ b) : a / z ≤ -(-b / z) := by
  have h1 := Int.ediv_le_ediv hz h
  have h2 := Int.ediv_mul_le b (show z ≠ 0 by omega)
  have h3 := Int.ediv_mul_le (-b) (show z ≠ 0 by omega)
  have h4 : (b / z + -b / z) * z ≤ 0 * z := by rw [Int.add_mul]; omega
  have := Int.le_of_mul_le_mul_right h4 hz
  omega
theorem sq_between {lo hi x : Int} (h1 : lo ≤ x) (h2 : x ≤ hi) : x * x ≤ max (lo * lo) (hi * hi) ∧ (if lo ≤ 0 ∧ 0 ≤ hi then 0 else min (lo * lo) (hi * hi)) ≤ x * x := by
  have hx := mul_self_nn x
  rcases Int.le_total 0 x with h | h
  · have m := Int.mul_le_mul h2 h2 h (show 0 ≤ hi by omega)
    refine ⟨by omega, ?_⟩
    split
    · exact hx
    · have m2 := Int.mul_le_mul h1 h1 (show 0 ≤ lo by omega) h
      omega
  · have m := Int.mul_le_mul_of_nonpos_left (show lo ≤ 0 by omega) h1
    have m' := Int.mul_le_mul_of_nonpos_right h1 h
    refine ⟨by omega, ?_⟩
    split
    · exact hx
    · have m2 := Int.mul_le_mul_of_nonpos_left h h2
      have m3 := Int.mul_le_mul_of_nonpos_right h2 (show hi ≤ 0 by omega)
      omega
theorem sqR_between {p q : Pl} (he : p.lo = p.hi) (h : Ins p q) : (sqR q).1 ≤ p.lo * p.lo + p.z * p.z ∧ p.lo * p.lo + p.z * p.z ≤ (sqR q).2 := by
  obtain ⟨h1, h2, h3, h4⟩ := h
  have := sq_between h3 (show p.lo ≤ q.hi by omega)
  unfold sqR
  simp only
  rw [← h2]
  omega
theorem len_mono {p q : Pl} (hp : PlOk p) (hq : PlOk q) (hz : 0 < p.z) (he : p.lo = p.hi) (h : Ins p q) : (lenR p).2 ≤ (lenR q).2 := by
  have h1 := sqR_between he h
  have h0 := sqR_one he
  have e2' : (sqR p).2 = p.lo * p.lo + p.z * p.z := by rw [h0]; rfl
  have b1 := sqR_bd hp
  have b2 := sqR_bd hq
  have n1 := mul_self_nn p.h
  have m1 := mul_bd p.h p.h 1000 1000 (by have := hp.h0; have := hp.h1; omega) (by have := hp.h0; have := hp.h1; omega)
  have m2 := mul_bd (p.h * p.h) (sqR p).2 1000000 800000000 (by omega) (by omega)
  have m3 := mul_bd (p.h * p.h) (sqR q).2 1000000 800000000 (by omega) (by omega)
  have h62 : (2 : Int) ^ 62 = 4611686018427387904 := by decide
  have hle := Int.mul_le_mul_of_nonneg_left (show (sqR p).2 ≤ (sqR q).2 by omega) n1
  have s0 : 0 ≤ p.h * p.h * (sqR p).2 := Int.mul_nonneg n1 (by omega)
  have s1 : 0 ≤ p.h * p.h * (sqR q).2 := Int.mul_nonneg n1 (by omega)
  obtain ⟨u0, u1, _⟩ := isqrtUp_spec s1 (by omega)
  unfold lenR
  simp only
  rw [← h.h, ← h.z]
  exact ceil_mono hz (isqrtUp_least s0 (by omega) u0 (by omega))
theorem len_self {p : Pl} (hp : PlOk p) (hz : 0 < p.z) (he : p.lo = p.hi) : (lenR p).1 ≤ (lenR p).2 := by
  have h0 := sqR_one he
  have b1 := sqR_bd hp
  have n1 := mul_self_nn p.h
  have m1 := mul_bd p.h p.h 1000 1000 (by have := hp.h0; have := hp.h1; omega) (by have := hp.h0; have := hp.h1; omega)
  have m2 := mul_bd (p.h * p.h) (sqR p).2 1000000 800000000 (by omega) (by omega)
  have h62 : (2 : Int) ^ 62 = 4611686018427387904 := by decide
  have s0 : 0 ≤ p.h * p.h * (sqR p).2 := Int.mul_nonneg n1 (by omega)
  unfold lenR
  rw [h0] at m2 s0 ⊢
  simp only at *
  generalize p.h * p.h * sq (p.lo, p.z) = s at *
  refine floor_ceil hz ?_
  unfold isqrtUp
  split <;> omega
/-- All that the law asks of the sums. -/
theorem every_sums {l : Ln} {b : List (Int × Int)} (hl : LnOk l) (hb : BoxOk l b) (hs : slackErr l = 0) (ps : List Int) :
    (totR offR (pulls l b)).1 ≤ (totR offR (pulls l (inE b ps))).1 ∧ (totR offR (pulls l (inE b ps))).2 ≤ (totR offR (pulls l b)).2 ∧
    (totR offR (pulls l (inE b ps))).1 ≤ (totR offR (pulls l (still (csE b ps)))).1 ∧ (totR offR (pulls l (still (csE b ps)))).2 ≤ (totR offR (pulls l (inE b ps))).2 ∧
    (totR lenR (pulls l (still (csE b ps)))).2 ≤ (totR lenR (pulls l b)).2 ∧ (totR lenR (pulls l (still (csE b ps)))).1 ≤ (totR lenR (pulls l (still (csE b ps)))).2 := by
  have hi := inE_box hb ps
  have hc := still_box (csE_cu hb ps)
  have a1 := pulls_in hl (in_box hb ps)
  have a2 := pulls_in hl (st_in hb ps)
  have a3 := pulls_in hl (st_box hb ps)
  have o1 := fun p (hp : p ∈ pulls l (inE b ps)) q (_ : q ∈ pulls l b) (h : Ins p q) => off_mono (pulls_pos hi hs p hp) (by have := (pulls_ok hl hi p hp).h0; omega) h
  have o2 := fun p (hp : p ∈ pulls l (still (csE b ps))) q (_ : q ∈ pulls l (inE b ps)) (h : Ins p q) => off_mono (pulls_pos hc hs p hp) (by have := (pulls_ok hl hc p hp).h0; omega) h
  exact ⟨totR_mono1 offR a1 fun p hp q hq h => (o1 p hp q hq h).1, totR_mono2 offR offR a1 fun p hp q hq h => (o1 p hp q hq h).2, totR_mono1 offR a2 fun p hp q hq h => (o2 p hp q hq h).1, totR_mono2 offR offR a2 fun p hp q hq h => (o2 p hp q hq h).2,
    totR_mono2 lenR lenR a3 fun p hp q hq h => len_mono (pulls_ok hl hc p hp) (pulls_ok hl hb q hq) (pulls_pos hc hs p hp) (pulls_one l _ p hp) h, totR_self lenR fun p hp => len_self (pulls_ok hl hc p hp) (pulls_pos hc hs p hp) (pulls_one l _ p hp)⟩
/-- All that the law asks of each link. -/
theorem every_at {l : Ln} {b : List (Int × Int)} (hl : LnOk l) (hb : BoxOk l b) (ps : List Int) (k : Nat) (h : k < b.length) :
    ∃ (x z p1 p2 q1 q2 s1 s2 : Int), (tens l (csE b ps))[k]? = some (x, z) ∧ (loHi l b)[k]? = some (p1, p2) ∧ (loHi l (inE b ps))[k]? = some (q1, q2) ∧ ((pulls l b).map sqR)[k]? = some (s1, s2) ∧ (loHi l (still (csE b ps)))[k]? = some (x, x) ∧
      (q1 ≤ x ∧ x ≤ q2) ∧ p1 ≤ q1 ∧ q2 ≤ p2 ∧ (s1 ≤ x * x + z * z ∧ x * x + z * z ≤ s2) ∧ (-20000 ≤ x ∧ x ≤ 20000) ∧ (-20000 ≤ z ∧ z ≤ 20000) := by
  have hi := inE_box hb ps
  have hc := still_box (csE_cu hb ps)
  have n0 : k < (pulls l b).length := by rw [pulls_len hb, ← hb.len]; exact h
  have n1 : k < (pulls l (inE b ps)).length := by rw [pulls_len hi, ← hb.len]; exact h
  have n2 : k < (pulls l (still (csE b ps))).length := by rw [pulls_len hc, ← hb.len]; exact h
  have a1 := All2_at (pulls_in hl (in_box hb ps)) k n1 n0
  have a2 := All2_at (pulls_in hl (st_in hb ps)) k n2 n1
  have a3 := All2_at (pulls_in hl (st_box hb ps)) k n2 n0
  have he := pulls_one l _ _ (List.getElem_mem n2)
  have hok := pulls_ok hl hc _ (List.getElem_mem n2)
  have hsq := sqR_between he a3
  refine ⟨(pulls l (still (csE b ps)))[k].lo, (pulls l (still (csE b ps)))[k].z, _, _, _, _, (sqR (pulls l b)[k]).1, (sqR (pulls l b)[k]).2, ?_, ?_, ?_, ?_, ?_, ⟨a2.lo, by have := a2.hi; omega⟩, a1.lo, a1.hi, hsq, ⟨hok.l0, hok.l1⟩, hok.z0, hok.z1⟩
  · rw [← tensions_eq, tensions, List.getElem?_map, List.getElem?_eq_getElem n2]; rfl
  · unfold loHi; rw [List.getElem?_map, List.getElem?_eq_getElem n0]; rfl
  · unfold loHi; rw [List.getElem?_map, List.getElem?_eq_getElem n1]; rfl
  · rw [List.getElem?_map, List.getElem?_eq_getElem n0]; rfl
  · unfold loHi; rw [List.getElem?_map, List.getElem?_eq_getElem n2]
    simp only [Option.map_some]
    rw [← he]
end Go.Proofs.Ytghglgaimhfedaa
