/-
  Walks of the rules for all chapters: limits, orders, the first of errors, the error of a range.
-/
import Derived.Test.YtghglgaimhfedaaQB
import Derived.Test.YtghglgaimhfedaaQC
import Derived.Test.YtghglgaimhfedaaQA
namespace Go.Proofs.Ytghglgaimhfedaa
open Go.RowKit Go.Shelf
attribute [local go_sem] monoUpon_value monoUpon_skip monoUpon_enter

def limErr (lo hi n : Int) : Int := if lo ≤ n ∧ n ≤ hi then 0 else 2
def firstErr : List Int → Int
  | [] => 0
  | x :: r => if x = 0 then firstErr r else x
theorem firstErr_drop (xs : List Int) (k : Nat) (h : k < xs.length) : firstErr (xs.drop k) = if xs[k] = 0 then firstErr (xs.drop (k + 1)) else xs[k] := by
  rw [List.drop_eq_getElem_cons h, firstErr]
theorem LimitError_any (n lo hi : Int) (w : World) :
    Calls Try.prog 91 #[.int .i64 n, .int .i64 lo, .int .i64 hi] w fun e w' => e = .returned (.int .i64 (limErr lo hi n)) ∧ w = w' := by
  by_cases a : n < lo
  · have E : Hid (limErr lo hi n = 2) := if_neg (by omega)
    go_enter Try.func91, Try.ntmps91
    go_wp2_with fail
    go_ret
    exact ⟨ret_int E.out.symm, by trivial⟩
  · by_cases b : hi < n
    · have E : Hid (limErr lo hi n = 2) := if_neg (by omega)
      go_enter Try.func91, Try.ntmps91
      go_wp2_with fail
      go_ret
      exact ⟨ret_int E.out.symm, by trivial⟩
    · have E : Hid (limErr lo hi n = 0) := if_pos (by omega)
      go_enter Try.func91, Try.ntmps91
      go_wp2_with fail
      go_ret
      exact ⟨ret_int E.out.symm, by trivial⟩
theorem OrderError_any (r : Int × Int) (w : World) :
    Calls Try.prog 138 #[.agg #[.int .i64 r.1, .int .i64 r.2]] w fun e w' => e = .returned (.int .i64 (if r.2 < r.1 then 9 else 0)) ∧ Below w.heap.size w w' := by
  obtain ⟨lo, hi⟩ := r
  simp only
  by_cases h : hi < lo
  · rw [if_pos h]
    go_enter Try.func138, Try.ntmps138
    go_wp2_with fail
    go_ret
    exact ⟨rfl, below_alloc1 _ _⟩
  · rw [if_neg h]
    go_enter Try.func138, Try.ntmps138
    go_wp2_with fail
    go_ret
    exact ⟨rfl, below_alloc1 _ _⟩
set_option maxHeartbeats 400000 in
theorem FirstError_any (v : Value) (xs : List Int) (w : World) (hs : Sl e1 1 w v xs) (hn : xs.length ≤ 1000000) :
    Calls Try.prog 90 #[v] w fun e w' => e = .returned (.int .i64 (firstErr xs)) ∧ w = w' := by
  obtain ⟨A, c, rfl, hcap⟩ := hs.form
  have HS := Lib.hid hs
  clear hs
  go_enter Try.func90, Try.ntmps90
  go_wp2_with fail
  go_loopw [4, 7] (fun _ i wr => ∃ k : Nat, k ≤ xs.length ∧ i = .int .i64 k ∧ firstErr (xs.drop k) = firstErr xs ∧ w = wr) (fun _ i _ => xs.length - (intOf i).toNat)
  case atStart => exact ⟨0, Nat.zero_le _, rfl, rfl, by trivial⟩
  case round =>
    obtain ⟨k, hk, rfl, hfb, rfl⟩ := hrel
    have HF := Lib.hid hfb
    clear hfb
    by_cases hlt : k < xs.length
    · obtain ⟨b, off, rfl, hbl, hc0⟩ := HS.out.at1 hlt
      have HD := Lib.hid (firstErr_drop xs k hlt)
      generalize xs[k] = y at *
      by_cases hy : y = 0
      · have hy' : (y != 0) = false := by rw [bne_eq_false_iff_eq]; exact hy
        go_wp2_with fail
        go_roundw
        case rel => exact ⟨k + 1, by omega, by go_num, by rw [← HF.out, HD.out, if_pos hy], by trivial⟩
        case measure => simp [intOf]; omega
      · have hy' : (y != 0) = true := by rw [bne_iff_ne]; exact hy
        go_wp2_with fail
        go_ret
        exact ⟨ret_int (by rw [← HF.out, HD.out, if_neg hy]), by trivial⟩
    · obtain rfl : k = xs.length := by omega
      go_wp2_with fail
      go_ret
      exact ⟨ret_int (by rw [← HF.out]; simp [firstErr]), by trivial⟩
theorem rangeErr_first (m : Int) (r : Int × Int) : firstErr [szErr m [r.1, r.2], if r.2 < r.1 then 9 else 0] = rangeErr m r := by
  unfold rangeErr szErr
  cases h1 : inR m r.1 <;> cases h2 : inR m r.2 <;> by_cases h3 : r.2 < r.1 <;> simp [firstErr, h1, h2, h3]
end Go.Proofs.Ytghglgaimhfedaa

namespace Go.Proofs.Ytghglgaimhfedaa
open Go.RowKit Go.Shelf
attribute [local go_sem] monoUpon_value monoUpon_skip monoUpon_enter
set_option maxRecDepth 100000 in
set_option maxHeartbeats 400000 in
theorem RangeError_any (r : Int × Int) (m : Int) (w : World) (h0 : 0 ≤ m) (h1 : m ≤ 1000000) :
    Calls Try.prog 94 #[.agg #[.int .i64 r.1, .int .i64 r.2], .int .i64 m] w fun e w' => e = .returned (.int .i64 (rangeErr m r)) ∧ Below w.heap.size w w' := by
  have E := Lib.hid (rangeErr_first m r)
  have HO := Lib.hid (OrderError_any r)
  obtain ⟨lo, hi⟩ := r
  simp only at *
  generalize hse : szErr m [lo, hi] = se at *
  have HE := Lib.hid hse
  clear hse
  generalize (if hi < lo then (9 : Int) else 0) = oe at *
  go_enter Try.func94, Try.ntmps94
  go_wp2_with fail
  obtain ⟨W0, hW0⟩ : ∃ W0, W0 = w.alloc (.cells #[.int .i64 lo, .int .i64 hi] 66) := ⟨_, rfl⟩
  rw [← hW0]
  have HB0 : Hid (Below w.heap.size w W0) := by rw [hW0]; exact below_alloc1 _ _
  have HX : Hid (∀ W, Below W0.drew.heap.size W0.drew W → W.cell? ⟨w.heap.size, 0, none⟩ = some (.int .i64 lo) ∧ W.cell? ⟨w.heap.size, 1, none⟩ = some (.int .i64 hi)) := by
    intro W h
    rw [hW0] at h
    have bx := fun j v hv => (At.new w #[.int .i64 lo, .int .i64 hi] 66 j v hv).drew.below h
    exact ⟨(bx 0 _ rfl).1, (bx 1 _ rfl).1⟩
  clear hW0
  refine wp_region_mono 11 [5, 6, 7, 8, 9, 10, 11, 12, 13, 14, 15] [[], [], [1], [], [3], [2, 4], [0, 5], [], [7], [6, 8], [9]]
    [fun v _ => v = .int .i64 m, fun v _ => v = .pointer (some ⟨w.heap.size, 0, none⟩), fun v _ => v = .int .i64 lo, fun v _ => v = .pointer (some ⟨w.heap.size, 1, none⟩), fun v _ => v = .int .i64 hi,
      fun v w => Sl e1 1 w v [lo, hi], fun v _ => v = .int .i64 se, fun v _ => v = .agg #[.int .i64 lo, .int .i64 hi], fun v _ => v = .int .i64 oe, fun v w => Sl e1 1 w v [se, oe], fun v _ => v = .int .i64 (firstErr [se, oe])]
    (by kernel_rfl) (by kernel_rfl) ⟨st_eq _, st_eq _, st_eq _, st_eq _, st_eq _, st_sl _ _ _, st_eq _, st_eq _, st_eq _, st_sl _ _ _, st_eq _, trivial⟩ ?_ ?_
  · simp only [List.take_succ_cons, List.take_zero, steps, and_true]
    refine ⟨?_, ?_, ?_, ?_, ?_, ?_, ?_, ?_, ?_, ?_, ?_⟩
    · intro x W hB hN; simp only [needs, sAt, dAt] at hN; simp only [putX, setX, List.foldl_cons, List.foldl_nil]; refine ⟨?_⟩; go_simp; exact ⟨rfl, Below.refl _ _⟩
    · intro x W hB hN; simp only [needs, sAt, dAt] at hN; simp only [putX, setX, List.foldl_cons, List.foldl_nil]; refine ⟨?_⟩; go_simp; exact ⟨rfl, Below.refl _ _⟩
    · intro x W hB hN; simp only [needs, sAt, dAt] at hN; simp only [putX, setX, List.foldl_cons, List.foldl_nil]; obtain ⟨c0, c1⟩ := HX.out W hB; refine ⟨?_⟩; go_simp; exact ⟨rfl, Below.refl _ _⟩
    · intro x W hB hN; simp only [needs, sAt, dAt] at hN; simp only [putX, setX, List.foldl_cons, List.foldl_nil]; refine ⟨?_⟩; go_simp; exact ⟨rfl, Below.refl _ _⟩
    · intro x W hB hN; simp only [needs, sAt, dAt] at hN; simp only [putX, setX, List.foldl_cons, List.foldl_nil]; obtain ⟨c0, c1⟩ := HX.out W hB; refine ⟨?_⟩; go_simp; exact ⟨rfl, Below.refl _ _⟩
    · intro x W hB hN; simp only [needs, sAt, dAt] at hN; simp only [putX, setX, List.foldl_cons, List.foldl_nil]; refine ⟨?_⟩; go_simp; exact ⟨sl2 _ _ _ _, below_alloc1 _ _⟩
    · intro x W hB hN; simp only [needs, sAt, dAt] at hN; simp only [putX, setX, List.foldl_cons, List.foldl_nil]; refine ⟨?_⟩; go_simp; refine (SizeError_any m _ [lo, hi] _ (by omega) (by omega) hN.2.1 (by simp)).mono ?_; rintro e w' ⟨rfl, rfl⟩; exact ⟨_, rfl, by rw [HE.out]; rfl, Below.refl _ _⟩
    · intro x W hB hN; simp only [needs, sAt, dAt] at hN; simp only [putX, setX, List.foldl_cons, List.foldl_nil]; obtain ⟨c0, c1⟩ := HX.out W hB; refine ⟨?_⟩; go_simp; exact ⟨rfl, Below.refl _ _⟩
    · intro x W hB hN; simp only [needs, sAt, dAt] at hN; simp only [putX, setX, List.foldl_cons, List.foldl_nil]; refine ⟨?_⟩; go_simp; refine (HO.out _).mono ?_; rintro e w' ⟨rfl, hb⟩; exact ⟨_, rfl, rfl, hb⟩
    · intro x W hB hN; simp only [needs, sAt, dAt] at hN; simp only [putX, setX, List.foldl_cons, List.foldl_nil]; refine ⟨?_⟩; go_simp; exact ⟨sl2 _ _ _ _, below_alloc1 _ _⟩
    · intro x W hB hN; simp only [needs, sAt, dAt] at hN; simp only [putX, setX, List.foldl_cons, List.foldl_nil]; refine ⟨?_⟩; go_simp; refine (FirstError_any _ [se, oe] _ hN.1 (by simp)).mono ?_; rintro e w' ⟨rfl, rfl⟩; exact ⟨_, rfl, rfl, Below.refl _ _⟩
  · intro x W hB hA
    simp only [allSp] at hA
    have q := hA.2.2.2.2.2.2.2.2.2.2.1
    clear hA
    simp only [putX, setX, List.foldl_cons, List.foldl_nil, List.drop_succ_cons, List.drop_zero]
    go_wp2_with fail
    go_ret
    exact ⟨ret_int E.out, below_tr HB0.out (Below.trans (Below.drew (Below.refl _ _)) hB)⟩
end Go.Proofs.Ytghglgaimhfedaa
