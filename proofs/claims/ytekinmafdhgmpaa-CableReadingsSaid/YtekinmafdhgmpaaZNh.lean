/-
  Walks of chapter 1's reference: the layback.
-/
import Derived.Test.YtekinmafdhgmpaaZNg
import Derived.Test.YtekinmafdhgmpaaZKo
namespace Go.Proofs.Ytekinmafdhgmpaa
open Go.RowKit Go.Shelf
attribute [local go_sem] monoUpon_value monoUpon_skip monoUpon_enter

/-- The sums of fractions, each rounded down, and up. -/
def layF (xs : List (Int × Int)) : Int × Int := xs.foldl (fun s q => (s.1 + q.1 / q.2, s.2 + -(-q.1 / q.2))) (0, 0)
theorem layF_snoc (xs : List (Int × Int)) (q : Int × Int) : layF (xs ++ [q]) = ((layF xs).1 + q.1 / q.2, (layF xs).2 + -(-q.1 / q.2)) := by
  unfold layF; rw [List.foldl_append]; rfl
structure OfOk (q : Int × Int) : Prop where
  n0 : -20000000 ≤ q.1
  n1 : q.1 ≤ 20000000
  d0 : 0 < q.2
  d1 : q.2 ≤ 20000
theorem div_in {n d : Int} (hd : 0 < d) (h : -20000000 ≤ n ∧ n ≤ 20000000) : -20000000 ≤ n / d ∧ n / d ≤ 20000000 := by
  have h1 := Int.ediv_le_ediv hd (show n ≤ 20000000 by omega)
  have h2 := Int.ediv_le_ediv hd (show -20000000 ≤ n by omega)
  have h5 : (20000000 : Int) / d ≤ 20000000 := Int.ediv_le_self _ (by omega)
  have h6 : (-20000000 : Int) ≤ -20000000 / d := by
    rw [Int.le_ediv_iff_mul_le hd]
    have : (-20000000 : Int) * d ≤ -20000000 * 1 := Int.mul_le_mul_of_nonpos_left (by omega) (by omega)
    omega
  omega
theorem layF_bd (os : List (Int × Int)) (h : ∀ q ∈ os, OfOk q) : ∀ k, k ≤ os.length → (-(20000000 * (k : Int)) ≤ (layF (os.take k)).1 ∧ (layF (os.take k)).1 ≤ 20000000 * (k : Int)) ∧ (-(20000000 * (k : Int)) ≤ (layF (os.take k)).2 ∧ (layF (os.take k)).2 ≤ 20000000 * (k : Int))
  | 0, _ => by simp [layF]
  | k + 1, hk => by
    have ih := layF_bd os h k (by omega)
    have hq := h os[k] (List.getElem_mem _)
    rw [List.take_succ_eq_append_getElem (by omega : k < os.length), layF_snoc]
    have d1 := div_in hq.d0 ⟨hq.n0, hq.n1⟩
    have d2 := div_in (n := -(os[k]).1) hq.d0 ⟨by have := hq.n1; omega, by have := hq.n0; omega⟩
    simp only
    generalize layF (os.take k) = s at *
    generalize (os[k]).1 / (os[k]).2 = u at *
    generalize -(os[k]).1 / (os[k]).2 = v at *
    omega
theorem offs_ok {l : Ln} {c : List Int} (hl : LnOk l) (hb : BoxOk l (still c)) (hz : ∀ p ∈ pulls l (still c), 0 < p.z) : ∀ q ∈ offs l c, OfOk q := by
  intro q hq
  unfold offs at hq
  obtain ⟨p, hp, rfl⟩ := List.mem_map.1 hq
  have hk := pulls_ok hl hb p hp
  have hz' := hz p hp
  have hm := lo_bd hk
  have hg : (0 : Int) < (Int.gcd (p.h * p.lo) p.z : Int) := by have := Int.gcd_pos_of_ne_zero_right (p.h * p.lo) (show p.z ≠ 0 by omega); omega
  have d2 : p.z / (Int.gcd (p.h * p.lo) p.z : Int) ≤ p.z := Int.ediv_le_self _ (by omega)
  have d1 := div_in hg hm
  unfold loP low
  exact ⟨d1.1, d1.2, Int.ediv_pos_of_pos_of_dvd hz' (by omega) (Int.gcd_dvd_right _ _), by have := hk.z1; show _ / _ ≤ _; omega⟩
end Go.Proofs.Ytekinmafdhgmpaa
