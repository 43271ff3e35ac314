/-
  Walks of the rules for all chapters: limits, orders, the first of errors, the error of a range.
-/
import Derived.Test.YtegkppphaglpgaaKm
import Derived.Test.YtegkppphaglpgaaWt
import Derived.Test.YtegkppphaglpgaaSl
namespace Go.Proofs.Ytegkppphaglpgaa
open Go.RowKit Go.Shelf
attribute [local go_sem] monoUpon_value monoUpon_skip monoUpon_enter

def limErr (lo hi n : Int) : Int := if lo ≤ n ∧ n ≤ hi then 0 else 2
def firstErr : List Int → Int
  | [] => 0
  | x :: r => if x = 0 then firstErr r else x
theorem firstErr_drop (xs : List Int) (k : Nat) (h : k < xs.length) : firstErr (xs.drop k) = if xs[k] = 0 then firstErr (xs.drop (k + 1)) else xs[k] := by
  rw [List.drop_eq_getElem_cons h, firstErr]
theorem LimitError_any (n lo hi : Int) (w : World) :
    Calls Try.prog 90 #[.int .i64 n, .int .i64 lo, .int .i64 hi] w fun e w' => e = .returned (.int .i64 (limErr lo hi n)) ∧ w = w' := by
  by_cases a : n < lo
  · have E : Hid (limErr lo hi n = 2) := if_neg (by omega)
    go_enter Try.func90, Try.ntmps90
    go_wp2_with fail
    go_ret
    exact ⟨ret_int E.out.symm, by trivial⟩
  · by_cases b : hi < n
    · have E : Hid (limErr lo hi n = 2) := if_neg (by omega)
      go_enter Try.func90, Try.ntmps90
      go_wp2_with fail
      go_ret
      exact ⟨ret_int E.out.symm, by trivial⟩
    · have E : Hid (limErr lo hi n = 0) := if_pos (by omega)
      go_enter Try.func90, Try.ntmps90
      go_wp2_with fail
      go_ret
      exact ⟨ret_int E.out.symm, by trivial⟩
theorem OrderError_any (r : Int × Int) (w : World) :
    Calls Try.prog 136 #[.agg #[.int .i64 r.1, .int .i64 r.2]] w fun e w' => e = .returned (.int .i64 (if r.2 < r.1 then 9 else 0)) ∧ Below w.heap.size w w' := by
  obtain ⟨lo, hi⟩ := r
  simp only
  by_cases h : hi < lo
  · rw [if_pos h]
    go_enter Try.func136, Try.ntmps136
    go_wp2_with fail
    go_ret
    exact ⟨rfl, below_alloc1 _ _⟩
  · rw [if_neg h]
    go_enter Try.func136, Try.ntmps136
    go_wp2_with fail
    go_ret
    exact ⟨rfl, below_alloc1 _ _⟩
set_option maxHeartbeats 400000 in
theorem FirstError_any (v : Value) (xs : List Int) (w : World) (hs : Sl e1 1 w v xs) (hn : xs.length ≤ 1000000) :
    Calls Try.prog 89 #[v] w fun e w' => e = .returned (.int .i64 (firstErr xs)) ∧ w = w' := by
  obtain ⟨A, c, rfl, hcap⟩ := hs.form
  have HS := Lib.hid hs
  clear hs
  go_enter Try.func89, Try.ntmps89
  go_wp2_with fail
  go_loopw [4, 7] (fun _ i wr => ∃ k : Nat, k ≤ xs.length ∧ i = .int .i64 k ∧ firstErr (xs.drop k) = firstErr xs ∧ w = wr) (fun _ i _ => xs.length - (intOf i).toNat)
  case atStart => exact ⟨0, Nat.zero_le _, rfl, rfl, by trivial⟩
  case round =>
    obtain ⟨k, hk, rfl, hfb, rfl⟩ := hrel
    have HF := Lib.hid hfb
    clear hfb
    by_cases hlt : k < xs.length
    · obtain ⟨b, off, rfl, hbl, hc0⟩ := HS.out.at1 hlt
      have HD := Lib.hid (firstErr_drop xs k hlt)
      generalize xs[k] = y at *
      by_cases hy : y = 0
      · have hy' : (y != 0) = false := by rw [bne_eq_false_iff_eq]; exact hy
        go_wp2_with fail
        go_roundw
        case rel => exact ⟨k + 1, by omega, by go_num, by rw [← HF.out, HD.out, if_pos hy], by trivial⟩
        case measure => simp [intOf]; omega
      · have hy' : (y != 0) = true := by rw [bne_iff_ne]; exact hy
        go_wp2_with fail
        go_ret
        exact ⟨ret_int (by rw [← HF.out, HD.out, if_neg hy]), by trivial⟩
    · obtain rfl : k = xs.length := by omega
      go_wp2_with fail
      go_ret
      exact ⟨ret_int (by rw [← HF.out]; simp [firstErr]), by trivial⟩
theorem rangeErr_first (m : Int) (r : Int × Int) : firstErr [szErr m [r.1, r.2], if r.2 < r.1 then 9 else 0] = rangeErr m r := by
  unfold rangeErr szErr
  cases h1 : inR m r.1 <;> cases h2 : inR m r.2 <;> by_cases h3 : r.2 < r.1 <;> simp [firstErr, h1, h2, h3]
end Go.Proofs.Ytegkppphaglpgaa
