/-
  Walks of chapter 1's reference: the length of a link.
-/
import Derived.Test.YtghglgaimhfedaaZNd
import Derived.Test.YtghglgaimhfedaaZMt
namespace Go.Proofs.Ytghglgaimhfedaa
open Go.RowKit Go.Shelf
attribute [local go_sem] monoUpon_value monoUpon_skip monoUpon_enter

/-- The range of a link's length: the root, rounded down, and up if it is not whole. -/
def longR (h : Int) (t : Int × Int) : Int × Int :=
  (isqrt (h * h * sq t) / t.2, if isqrt (h * h * sq t) / t.2 * (isqrt (h * h * sq t) / t.2) * t.2 * t.2 < h * h * sq t then isqrt (h * h * sq t) / t.2 + 1 else isqrt (h * h * sq t) / t.2)
theorem ret_range {q : Int × Int} {a b : Int} (h : q = (a, b)) : Ending.returned (.agg #[.int .i64 a, .int .i64 b]) = .returned (.agg #[.int .i64 q.1, .int .i64 q.2]) := by subst h; rfl
set_option maxRecDepth 100000 in
set_option maxHeartbeats 2000000 in
theorem rLong_any (h : Int) (t : Int × Int) (w : World) (hh : 1 ≤ h ∧ h ≤ 1000) (ht : Fo t) :
    Calls Try.prog 115 #[.int .i64 h, .agg #[.int .i64 t.1, .int .i64 t.2]] w fun e w' => e = .returned (.agg #[.int .i64 (longR h t).1, .int .i64 (longR h t).2]) ∧ Below w.heap.size w w' := by
  have h62 : (2 : Int) ^ 62 = 4611686018427387904 := by decide
  have n1 := mul_self_nn h
  have m1 := mul_bd h h 1000 1000 (by omega) (by omega)
  have sa := sq_pos ht
  have m2 := mul_bd (h * h) (sq t) 1000000 800000000 (by omega) (by omega)
  have s0 : 0 ≤ h * h * sq t := Int.mul_nonneg n1 (by omega)
  have mx := mul_bd t.1 t.1 20000 20000 ht.x ht.x
  have mz := mul_bd t.2 t.2 20000 20000 (by have := ht.z; omega) (by have := ht.z; omega)
  have hsq : t.1 * t.1 + t.2 * t.2 = sq t := rfl
  have HR := Lib.hid (fun w => Root_any (h * h * sq t) w s0 (by omega))
  have r1 := isqrt_le (B := 30000000) s0 (by omega) (by decide) (by omega)
  have r0 := (isqrt_spec s0 (by omega)).1
  have hz := ht.z
  have hdiv := Int.ediv_mul_le (isqrt (h * h * sq t)) (show t.2 ≠ 0 by omega)
  have hd0 := div_bd (m := t.2) (by omega) r0 r1
  have htd : (isqrt (h * h * sq t)).tdiv t.2 = isqrt (h * h * sq t) / t.2 := Int.tdiv_eq_ediv_of_nonneg r0
  have E : longR h t = (isqrt (h * h * sq t) / t.2, if isqrt (h * h * sq t) / t.2 * (isqrt (h * h * sq t) / t.2) * t.2 * t.2 < h * h * sq t then isqrt (h * h * sq t) / t.2 + 1 else isqrt (h * h * sq t) / t.2) := rfl
  have hw1 : IntKind.i64.wrap (h * h) = h * h := IntWalk.i64_in _ (by omega)
  have hw2 : IntKind.i64.wrap (t.1 * t.1) = t.1 * t.1 := IntWalk.i64_in _ (by omega)
  have hw3 : IntKind.i64.wrap (t.2 * t.2) = t.2 * t.2 := IntWalk.i64_in _ (by omega)
  have hw4 : IntKind.i64.wrap (t.1 * t.1 + t.2 * t.2) = sq t := by rw [hsq]; exact IntWalk.i64_in _ (by omega)
  have hw5 : IntKind.i64.wrap (h * h * sq t) = h * h * sq t := IntWalk.i64_in _ (by omega)
  generalize longR h t = lr at *
  generalize hS : h * h * sq t = s at *
  have hw5' : IntKind.i64.wrap (h * h * sq t) = s := by rw [hS]; exact hw5
  generalize isqrt s = r at *
  generalize hlo : r / t.2 = lo at *
  have hm0 : 0 ≤ lo * t.2 := Int.mul_nonneg hd0.1 (by omega)
  have q1 := mul_bd lo lo 30000000 30000000 (by omega) (by omega)
  have q2 := mul_bd lo (lo * t.2) 30000000 30000000 (by omega) (by omega)
  have q3 := mul_bd (lo * t.2) (lo * t.2) 30000000 30000000 (by omega) (by omega)
  have e2 : lo * lo * t.2 = lo * (lo * t.2) := Int.mul_assoc _ _ _
  have e3 : lo * lo * t.2 * t.2 = lo * t.2 * (lo * t.2) := by ac_rfl
  have hw6 : IntKind.i64.wrap (lo * lo) = lo * lo := IntWalk.i64_in _ (by omega)
  have hw7 : IntKind.i64.wrap (lo * lo * t.2) = lo * lo * t.2 := IntWalk.i64_in _ (by rw [e2]; omega)
  have hw8 : IntKind.i64.wrap (lo * lo * t.2 * t.2) = lo * lo * t.2 * t.2 := IntWalk.i64_in _ (by rw [e3]; omega)
  have hw9 : IntKind.i64.wrap (lo + 1) = lo + 1 := IntWalk.i64_in _ (by omega)
  have hw10 : IntKind.i64.wrap (r.tdiv t.2) = lo := by rw [htd]; exact IntWalk.i64_in _ (by omega)
  have hzb : (t.2 == 0) = false := by rw [beq_eq_false_iff_ne]; omega
  have hzn : t.2 ≠ 0 := by omega
  have HE := Lib.hid E
  clear E hlo htd hdiv hd0 hz r0 r1 s0 m1 m2 mx mz n1 sa hsq h62 hm0 q1 q2 q3 e2 e3 ht hh
  generalize sq t = qt at *
  obtain ⟨t1, t2⟩ := t
  simp only at *
  generalize hX : lo * lo * t2 * t2 = X at *
  have hw8' : IntKind.i64.wrap (lo * lo * t2 * t2) = X := by rw [hX]; exact hw8
  clear hX hw8 hw5 hS
  go_enter Try.func115, Try.ntmps115
  go_wp2_with fail
  obtain ⟨W0, hW0⟩ : ∃ W0, W0 = (w.alloc (.cells #[.int .i64 t1, .int .i64 t2] 23)).alloc (.cells #[.int .i64 0, .int .i64 0] 66) := ⟨_, rfl⟩
  rw [← hW0]
  have HX : Hid (∀ W, Below W0.drew.heap.size W0.drew W → At W ⟨w.heap.size, 1, none⟩ (.int .i64 t2) ∧ (At W ⟨w.heap.size + 1, 0, none⟩ (.int .i64 0) ∧ At W ⟨w.heap.size + 1, 1, none⟩ (.int .i64 0)) ∧ Below w.heap.size w W) := by
    intro W hW
    rw [hW0] at hW
    obtain ⟨bx, by'⟩ := box2 w #[.int .i64 t1, .int .i64 t2] #[.int .i64 0, .int .i64 0] 23 66
    exact ⟨(bx 1 _ rfl).drew.below hW, ⟨(by' 0 _ rfl).drew.below hW, (by' 1 _ rfl).drew.below hW⟩, below_tr (below_al (below_alloc1 _ _) _) (Below.trans (Below.drew (Below.refl _ _)) hW)⟩
  clear hW0
  refine wp_region_mono 5 [23, 24, 25, 26, 27] [[], [0], [], [2], [1, 3]] [fun v _ => v = .int .i64 s, fun v _ => v = .int .i64 r, fun v _ => v = .pointer (some ⟨w.heap.size, 1, none⟩), fun v _ => v = .int .i64 t2, fun v _ => v = .int .i64 lo] (by kernel_rfl) (by kernel_rfl) ⟨st_eq _, st_eq _, st_eq _, st_eq _, st_eq _, trivial⟩ ?_ ?_
  · simp only [List.take_succ_cons, List.take_zero, steps, and_true]
    refine ⟨?_, ?_, ?_, ?_, ?_⟩
    · intro x W hB _; simp only [putX, setX, List.foldl_cons, List.foldl_nil]; refine ⟨?_⟩; go_simp; exact ⟨rfl, Below.refl _ _⟩
    · intro x W hB hN; simp only [needs, sAt, dAt] at hN; simp only [putX, setX, List.foldl_cons, List.foldl_nil]; refine ⟨?_⟩; go_simp; refine (HR.out _).mono ?_; rintro e w' ⟨rfl, rfl⟩; exact ⟨_, rfl, rfl, Below.refl _ _⟩
    · intro x W hB _; simp only [putX, setX, List.foldl_cons, List.foldl_nil]; refine ⟨?_⟩; go_simp; exact ⟨rfl, Below.refl _ _⟩
    · intro x W hB hN; simp only [needs, sAt, dAt] at hN; simp only [putX, setX, List.foldl_cons, List.foldl_nil]; obtain ⟨⟨c0, _⟩, _⟩ := HX.out W hB; refine ⟨?_⟩; go_simp; exact ⟨rfl, Below.refl _ _⟩
    · intro x W hB hN; simp only [needs, sAt, dAt] at hN; simp only [putX, setX, List.foldl_cons, List.foldl_nil]; refine ⟨?_⟩; go_simp; exact ⟨rfl, Below.refl _ _⟩
  · intro x W hB hA
    simp only [allSp] at hA
    have q4 := hA.2.2.2.2.1
    obtain ⟨⟨c1, _⟩, HR01, HBW⟩ := HX.out W hB
    have HRR := Lib.hid HR01
    obtain ⟨⟨r0, f0⟩, ⟨r1, f1⟩⟩ := HR01
    have HBB := Lib.hid HBW
    clear hA hB HBW
    simp only [putX, setX, List.foldl_cons, List.foldl_nil, List.drop_succ_cons, List.drop_zero, q4, List.setIfInBounds_toArray, List.set_cons_succ, List.set_cons_zero]
    clear q4
    by_cases hc : X < s
    · have HE2 : Hid (lr = (lo, lo + 1)) := by have h := HE.out; rw [if_pos hc] at h; exact h
      go_wp2_with fail
      obtain ⟨W5, hW5⟩ : ∃ W5, W5 = (W.setCell ⟨w.heap.size + 1, 0, none⟩ (.int .i64 lo)).setCell ⟨w.heap.size + 1, 1, none⟩ (.int .i64 (lo + 1)) := ⟨_, rfl⟩
      rw [← hW5]
      obtain ⟨s0, _⟩ : At W5 ⟨w.heap.size + 1, 0, none⟩ (.int .i64 lo) := by rw [hW5]; exact (HRR.out.1.set).other (by simp)
      obtain ⟨s1, _⟩ : At W5 ⟨w.heap.size + 1, 1, none⟩ (.int .i64 (lo + 1)) := by rw [hW5]; exact (HRR.out.2.other (by simp)).set
      have HB5 : Below w.heap.size w W5 := by rw [hW5]; exact below_set (below_set HBB.out (by simp) _) (by simp) _
      clear hW5
      (try simp only [Exit.inBlock, Exit.then])
      refine bodyPost_ret (v := .agg #[.int .i64 lo, .int .i64 (lo + 1)]) ?_ rfl ⟨ret_range HE2.out, HB5⟩
      rw [results_cell rfl]
      go_simp
    · have HE2 : Hid (lr = (lo, lo)) := by have h := HE.out; rw [if_neg hc] at h; exact h
      go_wp2_with fail
      obtain ⟨W5, hW5⟩ : ∃ W5, W5 = (W.setCell ⟨w.heap.size + 1, 0, none⟩ (.int .i64 lo)).setCell ⟨w.heap.size + 1, 1, none⟩ (.int .i64 lo) := ⟨_, rfl⟩
      rw [← hW5]
      obtain ⟨s0, _⟩ : At W5 ⟨w.heap.size + 1, 0, none⟩ (.int .i64 lo) := by rw [hW5]; exact (HRR.out.1.set).other (by simp)
      obtain ⟨s1, _⟩ : At W5 ⟨w.heap.size + 1, 1, none⟩ (.int .i64 lo) := by rw [hW5]; exact (HRR.out.2.other (by simp)).set
      have HB5 : Below w.heap.size w W5 := by rw [hW5]; exact below_set (below_set HBB.out (by simp) _) (by simp) _
      clear hW5
      (try simp only [Exit.inBlock, Exit.then])
      refine bodyPost_ret (v := .agg #[.int .i64 lo, .int .i64 lo]) ?_ rfl ⟨ret_range HE2.out, HB5⟩
      rw [results_cell rfl]
      go_simp
end Go.Proofs.Ytghglgaimhfedaa
