/-
  Walks of chapter 1's reference: the layback over a box; the mathematics of boxes.
-/
import Derived.Test.YtekinmafdhgmpaaZOd
import Derived.Test.YtekinmafdhgmpaaZOc
import Derived.Test.YtekinmafdhgmpaaZNj
namespace Go.Proofs.Ytekinmafdhgmpaa
open Go.RowKit Go.Shelf
attribute [local go_sem] monoUpon_value monoUpon_skip monoUpon_enter
attribute [local go_sem] run_field0 run_field1

theorem pullsF_stLo (lo hi hi' z : Int) : ∀ (ks : List Lk) (b : List (Int × Int)), (pullsF lo hi z ks b).map (fun p => (p.h, p.lo, p.z)) = (pullsF lo hi' z ks (still (b.map Prod.fst))).map (fun p => (p.h, p.lo, p.z))
  | [], [] => rfl
  | [], _ :: _ => rfl
  | _ :: _, [] => rfl
  | k :: ks, r :: b => by
    show _ :: (pullsF _ _ _ ks b).map _ = _ :: (pullsF _ _ _ ks (still (b.map Prod.fst))).map _
    rw [pullsF_stLo _ _ _ _ ks b]
theorem pullsF_stHi (lo lo' hi z : Int) : ∀ (ks : List Lk) (b : List (Int × Int)), (pullsF lo hi z ks b).map (fun p => (p.h, p.hi, p.z)) = (pullsF lo' hi z ks (still (b.map Prod.snd))).map (fun p => (p.h, p.hi, p.z))
  | [], [] => rfl
  | [], _ :: _ => rfl
  | _ :: _, [] => rfl
  | k :: ks, r :: b => by
    show _ :: (pullsF _ _ _ ks b).map _ = _ :: (pullsF _ _ _ ks (still (b.map Prod.snd))).map _
    rw [pullsF_stHi _ _ _ _ ks b]
def sumF (xs : List Int) : Int := xs.foldr (fun a s => a + s) 0
theorem totR_one (g : Pl → Int × Int) (ps : List Pl) : (totR g ps).1 = sumF (ps.map fun p => (g p).1) := by
  induction ps with
  | nil => rfl
  | cons p r ih => simp only [totR, List.map_cons, sumF, List.foldr_cons]; rw [ih]; rfl
theorem totR_two (g : Pl → Int × Int) (ps : List Pl) : (totR g ps).2 = sumF (ps.map fun p => (g p).2) := by
  induction ps with
  | nil => rfl
  | cons p r ih => simp only [totR, List.map_cons, sumF, List.foldr_cons]; rw [ih]; rfl
theorem lay_lo (l : Ln) (b : List (Int × Int)) : (totR offR (pulls l (still (b.map Prod.fst)))).1 = (totR offR (pulls l b)).1 := by
  have h : (pulls l b).map (fun p => (p.h, p.lo, p.z)) = (pulls l (still (b.map Prod.fst))).map (fun p => (p.h, p.lo, p.z)) := pullsF_stLo _ _ _ _ _ _
  have h2 := congrArg (List.map fun q : Int × Int × Int => q.1 * q.2.1 / q.2.2) h
  rw [List.map_map, List.map_map] at h2
  rw [totR_one, totR_one]
  exact congrArg sumF h2.symm
theorem lay_hi (l : Ln) (b : List (Int × Int)) : (totR offR (pulls l (still (b.map Prod.snd)))).2 = (totR offR (pulls l b)).2 := by
  have h : (pulls l b).map (fun p => (p.h, p.hi, p.z)) = (pulls l (still (b.map Prod.snd))).map (fun p => (p.h, p.hi, p.z)) := pullsF_stHi _ _ _ _ _ _
  have h2 := congrArg (List.map fun q : Int × Int × Int => -(-(q.1 * q.2.1) / q.2.2)) h
  rw [List.map_map, List.map_map] at h2
  rw [totR_two, totR_two]
  exact congrArg sumF h2.symm
theorem still_box {l : Ln} {c : List Int} (h : CuOk l c) : BoxOk l (still c) := ⟨by simp [still, h.len], fun r hr => by
  obtain ⟨n, hn, rfl⟩ := List.mem_map.1 hr
  have := h.ok n hn; exact ⟨by omega, Int.le_refl _, by omega⟩⟩
theorem tens_pos {l : Ln} {c : List Int} (h : CuOk l c) (hs : slackErr l = 0) : ∀ t ∈ tens l c, 0 < t.2 := by
  intro t ht
  rw [← tensions_eq, tensions] at ht
  obtain ⟨p, hp, rfl⟩ := List.mem_map.1 ht
  exact pulls_pos (still_box h) hs p hp
/-! ### the mathematics of squares and lengths over a box -/
theorem pullsF_ord {lo hi z : Int} {ks : List Lk} {b : List (Int × Int)} (h : lo ≤ hi) (hk : ∀ k ∈ ks, 0 ≤ k.2.2) (hb : ∀ r ∈ b, r.1 ≤ r.2) : ∀ p ∈ pullsF lo hi z ks b, p.lo ≤ p.hi := by
  induction ks generalizing lo hi z b with
  | nil => intro p hp; cases b <;> simp [pullsF] at hp
  | cons k r ih =>
    cases b with
    | nil => intro p hp; simp [pullsF] at hp
    | cons q b =>
      have h1 := Int.mul_le_mul_of_nonneg_left (hb q (by simp)) (hk k (by simp))
      intro p hp
      simp only [pullsF, List.mem_cons] at hp
      rcases hp with rfl | hp
      · simp only; omega
      · exact ih (by omega) (fun k' hk' => hk k' (by simp [hk'])) (fun r' hr' => hb r' (by simp [hr'])) p hp
theorem pulls_ord {l : Ln} {b : List (Int × Int)} (hl : LnOk l) (hb : BoxOk l b) : ∀ p ∈ pulls l b, p.lo ≤ p.hi :=
  pullsF_ord (Int.le_refl _) (fun k hk => (hl.ok k hk).2.2.2.2.1) (fun r hr => (hb.ok r hr).2.1)
theorem sq_abs (a : Int) : (a.natAbs : Int) * (a.natAbs : Int) = a * a := by
  rcases Int.natAbs_eq a with h | h
  · rw [← h]
  · have e : a * a = (a.natAbs : Int) * (a.natAbs : Int) := by
      generalize (a.natAbs : Int) = n at *
      rw [h, Int.neg_mul_neg]
    exact e.symm
theorem max_sq (a b : Int) : max (a * a) (b * b) = (if (a.natAbs : Int) < (b.natAbs : Int) then (b.natAbs : Int) else (a.natAbs : Int)) * (if (a.natAbs : Int) < (b.natAbs : Int) then (b.natAbs : Int) else (a.natAbs : Int)) := by
  have h1 := sq_abs a
  have h2 := sq_abs b
  rw [← h1, ← h2]
  have ha : (0 : Int) ≤ (a.natAbs : Int) := by omega
  have hb : (0 : Int) ≤ (b.natAbs : Int) := by omega
  generalize (a.natAbs : Int) = x at *
  generalize (b.natAbs : Int) = y at *
  by_cases h : x < y
  · rw [if_pos h]
    have := Int.mul_le_mul (Int.le_of_lt h) (Int.le_of_lt h) ha hb
    omega
  · rw [if_neg h]
    have := Int.mul_le_mul (show y ≤ x by omega) (show y ≤ x by omega) hb ha
    omega
def mostP (p : Pl) : Int := if (p.lo.natAbs : Int) < (p.hi.natAbs : Int) then (p.hi.natAbs : Int) else (p.lo.natAbs : Int)
def leastP (p : Pl) : Int := if p.hi < 0 then p.hi else if 0 < p.lo then p.lo else 0
theorem sqR_most (p : Pl) (ho : p.lo ≤ p.hi) : sqR p = (leastP p * leastP p + p.z * p.z, mostP p * mostP p + p.z * p.z) := by
  have hm := max_sq p.lo p.hi
  obtain ⟨ph, pw, pd, plo, phi, pz⟩ := p
  unfold sqR leastP mostP
  simp only at *
  rw [← hm]
  congr 2
  by_cases h1 : phi < 0
  · have := Int.mul_le_mul_of_nonpos_right ho (show phi ≤ 0 by omega)
    have h2 := Int.mul_le_mul_of_nonpos_left (show plo ≤ 0 by omega) ho
    rw [if_neg (by omega), if_pos h1]
    omega
  · rw [if_neg h1]
    by_cases h2 : 0 < plo
    · have := Int.mul_le_mul ho ho (by omega) (by omega)
      rw [if_neg (by omega), if_pos h2]
      omega
    · rw [if_pos (by omega), if_neg h2]; rfl
theorem long_most {p : Pl} (hp : PlOk p) (hz : 0 < p.z) : (longR p.h (mostP p, p.z)).2 = (lenR p).2 := by
  have hb : -20000 ≤ mostP p ∧ mostP p ≤ 20000 := by
    unfold mostP
    have := hp.l0; have := hp.l1; have := hp.u0; have := hp.u1
    split <;> omega
  have hp' : PlOk ⟨p.h, p.wt, p.d, mostP p, mostP p, p.z⟩ := ⟨hp.h0, hp.h1, hb.1, hb.2, hb.1, hb.2, hp.z0, hp.z1⟩
  have h := longR_lenR hp' hz rfl
  simp only at h
  rw [h]
  have hm := max_sq p.lo p.hi
  have e : (sqR ⟨p.h, p.wt, p.d, mostP p, mostP p, p.z⟩).2 = (sqR p).2 := by
    unfold sqR
    simp only [Int.max_self]
    rw [hm]
    rfl
  unfold lenR
  simp only
  rw [e]
end Go.Proofs.Ytekinmafdhgmpaa
