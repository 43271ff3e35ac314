/-
  Walks of the rules for all chapters: the error of a range.
-/
import Derived.Test.YtegkppphaglpgaaRu
namespace Go.Proofs.Ytegkppphaglpgaa
open Go.RowKit Go.Shelf
attribute [local go_sem] monoUpon_value monoUpon_skip monoUpon_enter
set_option maxRecDepth 100000 in
set_option maxHeartbeats 400000 in
theorem RangeError_any (r : Int × Int) (m : Int) (w : World) (h0 : 0 ≤ m) (h1 : m ≤ 1000000) :
    Calls Try.prog 93 #[.agg #[.int .i64 r.1, .int .i64 r.2], .int .i64 m] w fun e w' => e = .returned (.int .i64 (rangeErr m r)) ∧ Below w.heap.size w w' := by
  have E := Lib.hid (rangeErr_first m r)
  have HO := Lib.hid (OrderError_any r)
  obtain ⟨lo, hi⟩ := r
  simp only at *
  generalize hse : szErr m [lo, hi] = se at *
  have HE := Lib.hid hse
  clear hse
  generalize (if hi < lo then (9 : Int) else 0) = oe at *
  go_enter Try.func93, Try.ntmps93
  go_wp2_with fail
  obtain ⟨W0, hW0⟩ : ∃ W0, W0 = w.alloc (.cells #[.int .i64 lo, .int .i64 hi] 66) := ⟨_, rfl⟩
  rw [← hW0]
  have HB0 : Hid (Below w.heap.size w W0) := by rw [hW0]; exact below_alloc1 _ _
  have HX : Hid (∀ W, Below W0.drew.heap.size W0.drew W → W.cell? ⟨w.heap.size, 0, none⟩ = some (.int .i64 lo) ∧ W.cell? ⟨w.heap.size, 1, none⟩ = some (.int .i64 hi)) := by
    intro W h
    rw [hW0] at h
    have bx := fun j v hv => (At.new w #[.int .i64 lo, .int .i64 hi] 66 j v hv).drew.below h
    exact ⟨(bx 0 _ rfl).1, (bx 1 _ rfl).1⟩
  clear hW0
  refine wp_region_mono 11 [5, 6, 7, 8, 9, 10, 11, 12, 13, 14, 15] [[], [], [1], [], [3], [2, 4], [0, 5], [], [7], [6, 8], [9]]
    [fun v _ => v = .int .i64 m, fun v _ => v = .pointer (some ⟨w.heap.size, 0, none⟩), fun v _ => v = .int .i64 lo, fun v _ => v = .pointer (some ⟨w.heap.size, 1, none⟩), fun v _ => v = .int .i64 hi,
      fun v w => Sl e1 1 w v [lo, hi], fun v _ => v = .int .i64 se, fun v _ => v = .agg #[.int .i64 lo, .int .i64 hi], fun v _ => v = .int .i64 oe, fun v w => Sl e1 1 w v [se, oe], fun v _ => v = .int .i64 (firstErr [se, oe])]
    (by kernel_rfl) (by kernel_rfl) ⟨st_eq _, st_eq _, st_eq _, st_eq _, st_eq _, st_sl _ _ _, st_eq _, st_eq _, st_eq _, st_sl _ _ _, st_eq _, trivial⟩ ?_ ?_
  · simp only [List.take_succ_cons, List.take_zero, steps, and_true]
    refine ⟨?_, ?_, ?_, ?_, ?_, ?_, ?_, ?_, ?_, ?_, ?_⟩
    · intro x W hB hN; simp only [needs, sAt, dAt] at hN; simp only [putX, setX, List.foldl_cons, List.foldl_nil]; refine ⟨?_⟩; go_simp; exact ⟨rfl, Below.refl _ _⟩
    · intro x W hB hN; simp only [needs, sAt, dAt] at hN; simp only [putX, setX, List.foldl_cons, List.foldl_nil]; refine ⟨?_⟩; go_simp; exact ⟨rfl, Below.refl _ _⟩
    · intro x W hB hN; simp only [needs, sAt, dAt] at hN; simp only [putX, setX, List.foldl_cons, List.foldl_nil]; obtain ⟨c0, c1⟩ := HX.out W hB; refine ⟨?_⟩; go_simp; exact ⟨rfl, Below.refl _ _⟩
    · intro x W hB hN; simp only [needs, sAt, dAt] at hN; simp only [putX, setX, List.foldl_cons, List.foldl_nil]; refine ⟨?_⟩; go_simp; exact ⟨rfl, Below.refl _ _⟩
    · intro x W hB hN; simp only [needs, sAt, dAt] at hN; simp only [putX, setX, List.foldl_cons, List.foldl_nil]; obtain ⟨c0, c1⟩ := HX.out W hB; refine ⟨?_⟩; go_simp; exact ⟨rfl, Below.refl _ _⟩
    · intro x W hB hN; simp only [needs, sAt, dAt] at hN; simp only [putX, setX, List.foldl_cons, List.foldl_nil]; refine ⟨?_⟩; go_simp; exact ⟨sl2 _ _ _ _, below_alloc1 _ _⟩
    · intro x W hB hN; simp only [needs, sAt, dAt] at hN; simp only [putX, setX, List.foldl_cons, List.foldl_nil]; refine ⟨?_⟩; go_simp; refine (SizeError_any m _ [lo, hi] _ (by omega) (by omega) hN.2.1 (by simp)).mono ?_; rintro e w' ⟨rfl, rfl⟩; exact ⟨_, rfl, by rw [HE.out]; rfl, Below.refl _ _⟩
    · intro x W hB hN; simp only [needs, sAt, dAt] at hN; simp only [putX, setX, List.foldl_cons, List.foldl_nil]; obtain ⟨c0, c1⟩ := HX.out W hB; refine ⟨?_⟩; go_simp; exact ⟨rfl, Below.refl _ _⟩
    · intro x W hB hN; simp only [needs, sAt, dAt] at hN; simp only [putX, setX, List.foldl_cons, List.foldl_nil]; refine ⟨?_⟩; go_simp; refine (HO.out _).mono ?_; rintro e w' ⟨rfl, hb⟩; exact ⟨_, rfl, rfl, hb⟩
    · intro x W hB hN; simp only [needs, sAt, dAt] at hN; simp only [putX, setX, List.foldl_cons, List.foldl_nil]; refine ⟨?_⟩; go_simp; exact ⟨sl2 _ _ _ _, below_alloc1 _ _⟩
    · intro x W hB hN; simp only [needs, sAt, dAt] at hN; simp only [putX, setX, List.foldl_cons, List.foldl_nil]; refine ⟨?_⟩; go_simp; refine (FirstError_any _ [se, oe] _ hN.1 (by simp)).mono ?_; rintro e w' ⟨rfl, rfl⟩; exact ⟨_, rfl, rfl, Below.refl _ _⟩
  · intro x W hB hA
    simp only [allSp] at hA
    have q := hA.2.2.2.2.2.2.2.2.2.2.1
    clear hA
    simp only [putX, setX, List.foldl_cons, List.foldl_nil, List.drop_succ_cons, List.drop_zero]
    go_wp2_with fail
    go_ret
    exact ⟨ret_int E.out, below_tr HB0.out (Below.trans (Below.drew (Below.refl _ _)) hB)⟩
end Go.Proofs.Ytegkppphaglpgaa

