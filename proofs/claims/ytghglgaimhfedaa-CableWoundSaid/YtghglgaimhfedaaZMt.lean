/-
  Walks of chapter 1: lengths of pulls; sums over pulls of whatever range.
-/
import Derived.Test.YtghglgaimhfedaaZMs
import Derived.Test.YtghglgaimhfedaaQB
namespace Go.Proofs.Ytghglgaimhfedaa
open Go.RowKit Go.Shelf
attribute [local go_sem] monoUpon_value monoUpon_skip monoUpon_enter

def lenR (p : Pl) : Int × Int := (isqrt (p.h * p.h * (sqR p).1) / p.z, -(-isqrtUp (p.h * p.h * (sqR p).2) / p.z))
theorem div_bd {n m B : Int} (hm : 0 < m) (h0 : 0 ≤ n) (h1 : n ≤ B) : 0 ≤ n / m ∧ n / m ≤ B := by
  refine ⟨Int.ediv_nonneg h0 (by omega), ?_⟩
  have := Int.ediv_le_self m h0
  omega
theorem cdiv_bd {n m B : Int} (hm : 0 < m) (h0 : 0 ≤ n) (h1 : n ≤ B) : 0 ≤ -(-n / m) ∧ -(-n / m) ≤ B := by
  have h2 := Int.ediv_le_ediv hm (show -n ≤ 0 by omega)
  rw [Int.zero_ediv] at h2
  have h3 : -n ≤ -n / m := by
    rw [Int.le_ediv_iff_mul_le hm]
    have : -n * m ≤ -n * 1 := Int.mul_le_mul_of_nonpos_left (by omega) (by omega)
    omega
  omega
theorem isqrt_le {n B : Int} (h0 : 0 ≤ n) (h1 : n < 2 ^ 62) (hB : 0 ≤ B) (h : n < (B + 1) * (B + 1)) : isqrt n ≤ B := by
  obtain ⟨a, b, _⟩ := isqrt_spec h0 h1
  rcases Int.lt_or_le B (isqrt n) with h2 | h2
  · have h3 : (B + 1) * (B + 1) ≤ isqrt n * isqrt n := Int.mul_le_mul h2 h2 (by omega) a
    omega
  · exact h2
/-- The numbers whose roots are taken are small. -/
theorem area_bd {p : Pl} (hp : PlOk p) : (0 ≤ p.h * p.h * (sqR p).1 ∧ p.h * p.h * (sqR p).1 ≤ 800000000000000) ∧ (0 ≤ p.h * p.h * (sqR p).2 ∧ p.h * p.h * (sqR p).2 ≤ 800000000000000) ∧ 0 ≤ p.h * p.h ∧ p.h * p.h ≤ 1000000 := by
  have h0 := hp.h0
  have h1 := hp.h1
  have m1 := mul_bd p.h p.h 1000 1000 (by omega) (by omega)
  have n1 := mul_self_nn p.h
  obtain ⟨⟨a, b⟩, c, d⟩ := sqR_bd hp
  have m2 := mul_bd (p.h * p.h) (sqR p).1 1000000 800000000 (by omega) (by omega)
  have m3 := mul_bd (p.h * p.h) (sqR p).2 1000000 800000000 (by omega) (by omega)
  have n2 := Int.mul_nonneg n1 a
  have n3 := Int.mul_nonneg n1 c
  omega
theorem lenR_bd {p : Pl} (hp : PlOk p) (hz : 0 < p.z) : (0 ≤ (lenR p).1 ∧ (lenR p).1 ≤ 40000000) ∧ (0 ≤ (lenR p).2 ∧ (lenR p).2 ≤ 40000000) := by
  obtain ⟨⟨a, b⟩, ⟨c, d⟩, _⟩ := area_bd hp
  have h62 : (2 : Int) ^ 62 = 4611686018427387904 := by decide
  have r1 := isqrt_le (B := 30000000) a (by omega) (by decide) (by omega)
  have r2 := isqrt_le (B := 30000000) c (by omega) (by decide) (by omega)
  have s1 := (isqrt_spec a (by omega)).1
  obtain ⟨s2, _, s3⟩ := isqrtUp_spec c (by omega)
  exact ⟨div_bd hz s1 (by omega), cdiv_bd hz s2 (by omega)⟩
set_option maxRecDepth 100000 in
set_option maxHeartbeats 2000000 in
theorem lengths_any (p : Pl) (w : World) (hp : PlOk p) (hz : 0 < p.z) :
    Calls Try.prog 107 #[.agg #[.int .i64 p.h, .int .i64 p.wt, .int .i64 p.d, .int .i64 p.lo, .int .i64 p.hi, .int .i64 p.z]] w fun e w' => e = .returned (.agg #[.int .i64 (lenR p).1, .int .i64 (lenR p).2]) ∧ Below w.heap.size w w' := by
  obtain ⟨⟨a0, a1⟩, ⟨c0, c1⟩, n0, n1⟩ := area_bd hp
  have h62 : (2 : Int) ^ 62 = 4611686018427387904 := by decide
  have HSQ := Lib.hid (fun w => squares_any p w hp)
  have HR1 := Lib.hid (fun w => root_any (p.h * p.h * (sqR p).1) w a0 (by omega))
  have HR2 := Lib.hid (fun w => rootUp_any (p.h * p.h * (sqR p).2) w c0 (by omega))
  have s1 := (isqrt_spec a0 (by omega)).1
  have s1' := isqrt_le (B := 30000000) a0 (by omega) (by decide) (by omega)
  have s2' := isqrt_le (B := 30000000) c0 (by omega) (by decide) (by omega)
  obtain ⟨s2, _, s3⟩ := isqrtUp_spec c0 (by omega)
  have hz1 := hp.z1
  have HF := Lib.hid (fun w => floor_any (isqrt (p.h * p.h * (sqR p).1)) p.z w hz (by omega) ⟨by omega, by omega⟩)
  have HG := Lib.hid (fun w => ceiling_any (isqrtUp (p.h * p.h * (sqR p).2)) p.z w hz (by omega) ⟨by omega, by omega⟩)
  have E : Hid (lenR p = (isqrt (p.h * p.h * (sqR p).1) / p.z, -(-isqrtUp (p.h * p.h * (sqR p).2) / p.z))) := rfl
  clear h62 hz1 hp s1 s1' s2 s2' s3
  generalize lenR p = le at *
  generalize sqR p = sq' at *
  obtain ⟨q1, q2⟩ := sq'
  obtain ⟨ph, pw, pd, plo, phi, pz⟩ := p
  simp only at *
  have hw1 : IntKind.i64.wrap (ph * ph) = ph * ph := IntWalk.i64_in _ (by omega)
  have hw2 : IntKind.i64.wrap (ph * ph * q1) = ph * ph * q1 := IntWalk.i64_in _ (by omega)
  have hw3 : IntKind.i64.wrap (ph * ph * q2) = ph * ph * q2 := IntWalk.i64_in _ (by omega)
  generalize isqrt (ph * ph * q1) = u1 at *
  generalize isqrtUp (ph * ph * q2) = u2 at *
  rw [E.out]
  clear E
  go_enter Try.func107, Try.ntmps107
  have bb := box2 w #[.int .i64 ph, .int .i64 pw, .int .i64 pd, .int .i64 plo, .int .i64 phi, .int .i64 pz] #[.int .i64 0, .int .i64 0] 146 66
  go_wp2_with (go_at_call 120; refine (HSQ.out _).mono ?_; rintro e w2 ⟨rfl, hb2⟩; have BX := fun j v hv => (bb.1 j v hv).below hb2; have BY := fun j v hv => (bb.2 j v hv).below hb2; obtain ⟨t0, _⟩ := BX 0 _ rfl; obtain ⟨t5, _⟩ := BX 5 _ rfl; have HY := Lib.hid (And.intro (BY 0 _ rfl) (BY 1 _ rfl)); have hl2 := (BX 0 _ rfl).lt; simp only at hl2; have HB2 := Lib.hid (below_tr (below_al (below_alloc1 _ _) _) hb2); clear hb2 BX BY)
  obtain ⟨W0, hW0⟩ : ∃ W0, W0 = w2.alloc (.cells #[.int .i64 q1, .int .i64 q2] 66) := ⟨_, rfl⟩
  rw [← hW0]
  have T5 := (show At w2 ⟨w.heap.size, 5, none⟩ (.int .i64 pz) from ⟨t5, by assumption⟩)
  have HX : Hid (∀ W, Below W0.drew.heap.size W0.drew W → (W.cell? ⟨w2.heap.size, 0, none⟩ = some (.int .i64 q1) ∧ W.cell? ⟨w2.heap.size, 1, none⟩ = some (.int .i64 q2) ∧ W.cell? ⟨w.heap.size, 5, none⟩ = some (.int .i64 pz)) ∧ (At W ⟨w.heap.size + 1, 0, none⟩ (.int .i64 0) ∧ At W ⟨w.heap.size + 1, 1, none⟩ (.int .i64 0)) ∧ Below w.heap.size w W) := by
    intro W h
    rw [hW0] at h
    have nx := fun j v hv => (At.new w2 #[.int .i64 q1, .int .i64 q2] 66 j v hv).drew.below h
    exact ⟨⟨(nx 0 _ rfl).1, (nx 1 _ rfl).1, ((T5.al _).drew.below h).1⟩, ⟨(HY.out.1.al _).drew.below h, (HY.out.2.al _).drew.below h⟩, below_tr (below_al HB2.out _) (Below.trans (Below.drew (Below.refl _ _)) h)⟩
  clear hW0 T5
  refine wp_region_mono 17 [14, 15, 16, 17, 18, 19, 20, 21, 22, 23, 24, 25, 26, 27, 28, 29, 30] [[], [], [1], [0, 2], [3], [], [5], [4, 6], [], [], [9], [8, 10], [11], [], [13], [12, 14], [7, 15]] [fun v _ => v = .int .i64 (ph * ph), fun v _ => v = .pointer (some ⟨w2.heap.size, 0, none⟩), fun v _ => v = .int .i64 q1, fun v _ => v = .int .i64 (ph * ph * q1), fun v _ => v = .int .i64 u1, fun v _ => v = .pointer (some ⟨w.heap.size, 5, none⟩), fun v _ => v = .int .i64 pz, fun v _ => v = .int .i64 (u1 / pz), fun v _ => v = .int .i64 (ph * ph), fun v _ => v = .pointer (some ⟨w2.heap.size, 1, none⟩), fun v _ => v = .int .i64 q2, fun v _ => v = .int .i64 (ph * ph * q2), fun v _ => v = .int .i64 u2, fun v _ => v = .pointer (some ⟨w.heap.size, 5, none⟩), fun v _ => v = .int .i64 pz, fun v _ => v = .int .i64 (-(-u2 / pz)), fun v _ => v = .agg #[.int .i64 (u1 / pz), .int .i64 (-(-u2 / pz))]] (by kernel_rfl) (by kernel_rfl) ⟨st_eq _, st_eq _, st_eq _, st_eq _, st_eq _, st_eq _, st_eq _, st_eq _, st_eq _, st_eq _, st_eq _, st_eq _, st_eq _, st_eq _, st_eq _, st_eq _, st_eq _, trivial⟩ ?_ ?_
  · simp only [List.take_succ_cons, List.take_zero, steps, and_true]
    refine ⟨?_, ?_, ?_, ?_, ?_, ?_, ?_, ?_, ?_, ?_, ?_, ?_, ?_, ?_, ?_, ?_, ?_⟩
    · intro x W hB _; simp only [putX, setX, List.foldl_cons, List.foldl_nil]; refine ⟨?_⟩; go_simp; exact ⟨rfl, Below.refl _ _⟩
    · intro x W hB _; simp only [putX, setX, List.foldl_cons, List.foldl_nil]; refine ⟨?_⟩; go_simp; exact ⟨rfl, Below.refl _ _⟩
    · intro x W hB hN; simp only [needs, sAt, dAt] at hN; simp only [putX, setX, List.foldl_cons, List.foldl_nil]; obtain ⟨⟨c0, c1, c2⟩, _⟩ := HX.out W hB; refine ⟨?_⟩; go_simp; exact ⟨rfl, Below.refl _ _⟩
    · intro x W hB hN; simp only [needs, sAt, dAt] at hN; simp only [putX, setX, List.foldl_cons, List.foldl_nil]; refine ⟨?_⟩; go_simp; exact ⟨rfl, Below.refl _ _⟩
    · intro x W hB hN; simp only [needs, sAt, dAt] at hN; simp only [putX, setX, List.foldl_cons, List.foldl_nil]; refine ⟨?_⟩; go_simp; refine (HR1.out _).mono ?_; rintro e w' ⟨rfl, rfl⟩; exact ⟨_, rfl, rfl, Below.refl _ _⟩
    · intro x W hB _; simp only [putX, setX, List.foldl_cons, List.foldl_nil]; refine ⟨?_⟩; go_simp; exact ⟨rfl, Below.refl _ _⟩
    · intro x W hB hN; simp only [needs, sAt, dAt] at hN; simp only [putX, setX, List.foldl_cons, List.foldl_nil]; obtain ⟨⟨c0, c1, c2⟩, _⟩ := HX.out W hB; refine ⟨?_⟩; go_simp; exact ⟨rfl, Below.refl _ _⟩
    · intro x W hB hN; simp only [needs, sAt, dAt] at hN; simp only [putX, setX, List.foldl_cons, List.foldl_nil]; refine ⟨?_⟩; go_simp; refine (HF.out _).mono ?_; rintro e w' ⟨rfl, rfl⟩; exact ⟨_, rfl, rfl, Below.refl _ _⟩
    · intro x W hB _; simp only [putX, setX, List.foldl_cons, List.foldl_nil]; refine ⟨?_⟩; go_simp; exact ⟨rfl, Below.refl _ _⟩
    · intro x W hB _; simp only [putX, setX, List.foldl_cons, List.foldl_nil]; refine ⟨?_⟩; go_simp; exact ⟨rfl, Below.refl _ _⟩
    · intro x W hB hN; simp only [needs, sAt, dAt] at hN; simp only [putX, setX, List.foldl_cons, List.foldl_nil]; obtain ⟨⟨c0, c1, c2⟩, _⟩ := HX.out W hB; refine ⟨?_⟩; go_simp; exact ⟨rfl, Below.refl _ _⟩
    · intro x W hB hN; simp only [needs, sAt, dAt] at hN; simp only [putX, setX, List.foldl_cons, List.foldl_nil]; refine ⟨?_⟩; go_simp; exact ⟨rfl, Below.refl _ _⟩
    · intro x W hB hN; simp only [needs, sAt, dAt] at hN; simp only [putX, setX, List.foldl_cons, List.foldl_nil]; refine ⟨?_⟩; go_simp; refine (HR2.out _).mono ?_; rintro e w' ⟨rfl, rfl⟩; exact ⟨_, rfl, rfl, Below.refl _ _⟩
    · intro x W hB _; simp only [putX, setX, List.foldl_cons, List.foldl_nil]; refine ⟨?_⟩; go_simp; exact ⟨rfl, Below.refl _ _⟩
    · intro x W hB hN; simp only [needs, sAt, dAt] at hN; simp only [putX, setX, List.foldl_cons, List.foldl_nil]; obtain ⟨⟨c0, c1, c2⟩, _⟩ := HX.out W hB; refine ⟨?_⟩; go_simp; exact ⟨rfl, Below.refl _ _⟩
    · intro x W hB hN; simp only [needs, sAt, dAt] at hN; simp only [putX, setX, List.foldl_cons, List.foldl_nil]; refine ⟨?_⟩; go_simp; refine (HG.out _).mono ?_; rintro e w' ⟨rfl, rfl⟩; exact ⟨_, rfl, rfl, Below.refl _ _⟩
    · intro x W hB hN; simp only [needs, sAt, dAt] at hN; simp only [putX, setX, List.foldl_cons, List.foldl_nil]; refine ⟨?_⟩; go_simp; exact ⟨rfl, Below.refl _ _⟩
  · intro y W hB hA
    simp only [allSp] at hA
    have q30 := hA.2.2.2.2.2.2.2.2.2.2.2.2.2.2.2.2.1
    obtain ⟨_, ⟨⟨d0, g0⟩, d1, g1⟩, hbw⟩ := HX.out W hB
    have HBW := Lib.hid hbw
    clear hA hB hbw
    simp only [putX, setX, List.foldl_cons, List.foldl_nil, List.drop_succ_cons, List.drop_zero, q30, List.setIfInBounds_toArray, List.set_cons_succ, List.set_cons_zero]
    clear q30
    go_wp2_with fail
    refine bodyPost_ret (v := .agg #[.int .i64 (u1 / pz), .int .i64 (-(-u2 / pz))]) ?_ rfl ⟨rfl, below_set (below_set HBW.out (by simp) _) (by simp) _⟩
    rw [results_cell rfl]
    go_simp
end Go.Proofs.Ytghglgaimhfedaa
