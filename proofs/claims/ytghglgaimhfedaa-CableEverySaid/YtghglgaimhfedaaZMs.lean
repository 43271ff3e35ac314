/-
  Walks of chapter 1: roots, squares and lengths of pulls, in the program.
-/
import Derived.Test.YtghglgaimhfedaaQO
import Derived.Test.YtghglgaimhfedaaQI
namespace Go.Proofs.Ytghglgaimhfedaa
open Go.RowKit Go.Shelf

set_option maxRecDepth 100000 in
set_option maxHeartbeats 1000000 in
theorem root_any (n : Int) (w : World) (h0 : 0 ≤ n) (h1 : n < 4611686018427387904) :
    Calls Try.prog 145 #[.int .i64 n] w fun e w' => e = .returned (.int .i64 (isqrt n)) ∧ w = w' := by
  go_enter Try.func145, Try.ntmps145
  go_wp2_with fail
  go_loopg [3, 4] 31 (fun g r bit wr => ∃ (j : Nat) (q : Int), g = j ∧ j ≤ 31 ∧ r = .int .i64 q ∧ bit = .int .i64 (bitJ j) ∧ rootJ n j q = isqrt n ∧ 0 ≤ q ∧ q + 2 ^ j ≤ 2147483648 ∧ w = wr)
  case atStart => exact ⟨31, 0, rfl, Nat.le_refl _, rfl, rfl, rfl, Int.le_refl _, by decide, by trivial⟩
  case round =>
    obtain ⟨j, q, hgj, hj, rfl, rfl, hroot, hq0, hq1, rfl⟩ := hrel
    have hgj' := hgj.symm
    subst hgj'
    have HR := Lib.hid hroot
    clear hroot
    cases j with
    | zero =>
      have hb : bitJ 0 = 0 := rfl
      rw [hb]
      go_wp2_with fail
      go_ret
      exact ⟨ret_int HR.out, by trivial⟩
    | succ j =>
      have hp := pow_pos2 j
      have hhalf := bitJ_half j
      have hb : bitJ (j + 1) = 2 ^ j := rfl
      have hpp : (2 : Int) ^ (j + 1) = 2 ^ j + 2 ^ j := by rw [Int.pow_succ]; omega
      rw [hpp] at hq1
      have HSTEP : Hid (rootJ n (j + 1) q = if (q + 2 ^ j) * (q + 2 ^ j) ≤ n then rootJ n j (q + 2 ^ j) else rootJ n j q) := rfl
      rw [hb] at hhalf ⊢
      clear hb hpp
      generalize hbt : (2 : Int) ^ j = bt at *
      have HBT := Lib.hid hbt
      clear hbt
      have HDV : Hid (bt / 2 = bitJ j) := by rw [← hhalf, Int.tdiv_eq_ediv_of_nonneg (by omega)]; trivial
      clear hhalf
      have hm := mul_bd (q + bt) (q + bt) 2147483648 2147483648 (by omega) (by omega)
      have hw1 : IntKind.i64.wrap (q + bt) = q + bt := IntWalk.i64_in _ (by omega)
      have hw2 : IntKind.i64.wrap ((q + bt) * (q + bt)) = (q + bt) * (q + bt) := IntWalk.i64_in _ (by omega)
      have hbn := bitJ_nn j
      have hbl := bitJ_le j (by omega)
      have hw3 : IntKind.i64.wrap (bitJ j) = bitJ j := IntWalk.i64_in _ (by omega)
      by_cases hle : (q + bt) * (q + bt) ≤ n
      · go_wp2_with fail
        go_roundg j
        case measure => omega
        case rel => exact ⟨j, q + bt, rfl, by omega, rfl, by rw [HDV.out], by rw [← HR.out, HSTEP.out, if_pos hle], by omega, by rw [HBT.out]; omega, by trivial⟩
      · go_wp2_with fail
        go_roundg j
        case measure => omega
        case rel => exact ⟨j, q, rfl, by omega, rfl, by rw [HDV.out], by rw [← HR.out, HSTEP.out, if_neg (by omega)], by omega, by rw [HBT.out]; omega, by trivial⟩
set_option maxRecDepth 100000 in
set_option maxHeartbeats 400000 in
theorem rootUp_any (n : Int) (w : World) (h0 : 0 ≤ n) (h1 : n < 4611686018427387904) :
    Calls Try.prog 146 #[.int .i64 n] w fun e w' => e = .returned (.int .i64 (isqrtUp n)) ∧ w = w' := by
  have HR := Lib.hid (fun w => root_any n w h0 h1)
  obtain ⟨a, b, _⟩ := isqrt_spec h0 (by omega)
  have hbd := isqrt_bd h0 (by omega)
  have hm := mul_bd (isqrt n) (isqrt n) 2147483648 2147483648 (by omega) (by omega)
  by_cases h : isqrt n * isqrt n < n
  · have E : Hid (isqrtUp n = isqrt n + 1) := if_pos h
    generalize isqrt n = r at *
    have hw1 : IntKind.i64.wrap (r * r) = r * r := IntWalk.i64_in _ (by omega)
    have hw2 : IntKind.i64.wrap (r + 1) = r + 1 := IntWalk.i64_in _ (by omega)
    go_enter Try.func146, Try.ntmps146
    go_wp2_with (go_at_call 145; refine (HR.out _).mono ?_; rintro e w' ⟨rfl, rfl⟩)
    go_ret
    exact ⟨ret_int E.out.symm, by trivial⟩
  · have E : Hid (isqrtUp n = isqrt n) := if_neg h
    generalize isqrt n = r at *
    have hw1 : IntKind.i64.wrap (r * r) = r * r := IntWalk.i64_in _ (by omega)
    go_enter Try.func146, Try.ntmps146
    go_wp2_with (go_at_call 145; refine (HR.out _).mono ?_; rintro e w' ⟨rfl, rfl⟩)
    go_ret
    exact ⟨ret_int E.out.symm, by trivial⟩
/-! ### squares -/
def sqR (p : Pl) : Int × Int := ((if p.lo ≤ 0 ∧ 0 ≤ p.hi then 0 else min (p.lo * p.lo) (p.hi * p.hi)) + p.z * p.z, max (p.lo * p.lo) (p.hi * p.hi) + p.z * p.z)
theorem mul_self_nn (x : Int) : 0 ≤ x * x := by
  rcases Int.le_total 0 x with h | h
  · exact Int.mul_nonneg h h
  · exact Int.mul_nonneg_of_nonpos_of_nonpos h h
theorem sqR_bd {p : Pl} (hp : PlOk p) : (0 ≤ (sqR p).1 ∧ (sqR p).1 ≤ 800000000) ∧ (0 ≤ (sqR p).2 ∧ (sqR p).2 ≤ 800000000) := by
  have m1 := mul_bd p.lo p.lo 20000 20000 ⟨hp.l0, hp.l1⟩ ⟨hp.l0, hp.l1⟩
  have m2 := mul_bd p.hi p.hi 20000 20000 ⟨hp.u0, hp.u1⟩ ⟨hp.u0, hp.u1⟩
  have m3 := mul_bd p.z p.z 20000 20000 ⟨hp.z0, hp.z1⟩ ⟨hp.z0, hp.z1⟩
  have n1 := mul_self_nn p.lo
  have n2 := mul_self_nn p.hi
  have n3 := mul_self_nn p.z
  unfold sqR
  simp only
  generalize p.lo * p.lo = a at *
  generalize p.hi * p.hi = b at *
  generalize p.z * p.z = c at *
  split <;> omega
set_option maxRecDepth 100000 in
set_option maxHeartbeats 2000000 in
theorem squares_any (p : Pl) (w : World) (hp : PlOk p) :
    Calls Try.prog 120 #[.agg #[.int .i64 p.h, .int .i64 p.wt, .int .i64 p.d, .int .i64 p.lo, .int .i64 p.hi, .int .i64 p.z]] w fun e w' => e = .returned (.agg #[.int .i64 (sqR p).1, .int .i64 (sqR p).2]) ∧ Below w.heap.size w w' := by
  have m1 := mul_bd p.lo p.lo 20000 20000 ⟨hp.l0, hp.l1⟩ ⟨hp.l0, hp.l1⟩
  have m2 := mul_bd p.hi p.hi 20000 20000 ⟨hp.u0, hp.u1⟩ ⟨hp.u0, hp.u1⟩
  have m3 := mul_bd p.z p.z 20000 20000 ⟨hp.z0, hp.z1⟩ ⟨hp.z0, hp.z1⟩
  have n1 := mul_self_nn p.lo
  have n2 := mul_self_nn p.hi
  have n3 := mul_self_nn p.z
  obtain ⟨ph, pw, pd, plo, phi, pz⟩ := p
  have S1 : Hid (sqR ⟨ph, pw, pd, plo, phi, pz⟩ = ((if plo ≤ 0 ∧ 0 ≤ phi then 0 else min (plo * plo) (phi * phi)) + pz * pz, max (plo * plo) (phi * phi) + pz * pz)) := rfl
  simp only at *
  have hw1 : IntKind.i64.wrap (plo * plo) = plo * plo := IntWalk.i64_in _ (by omega)
  have hw2 : IntKind.i64.wrap (phi * phi) = phi * phi := IntWalk.i64_in _ (by omega)
  have hw3 : IntKind.i64.wrap (pz * pz) = pz * pz := IntWalk.i64_in _ (by omega)
  generalize sqR ⟨ph, pw, pd, plo, phi, pz⟩ = sr at *
  have E1 := Lib.hid (congrArg Prod.fst S1.out)
  have E2 := Lib.hid (congrArg Prod.snd S1.out)
  clear S1
  have hw4 : IntKind.i64.wrap (0 + pz * pz) = pz * pz := by rw [Int.zero_add]; exact IntWalk.i64_in _ (by omega)
  have hw5 : IntKind.i64.wrap (plo * plo + pz * pz) = plo * plo + pz * pz := IntWalk.i64_in _ (by omega)
  have hw6 : IntKind.i64.wrap (phi * phi + pz * pz) = phi * phi + pz * pz := IntWalk.i64_in _ (by omega)
  go_enter Try.func120, Try.ntmps120
  go_wp2_with fail
  obtain ⟨W0, hW0⟩ : ∃ W0, W0 = (w.alloc (.cells #[.int .i64 ph, .int .i64 pw, .int .i64 pd, .int .i64 plo, .int .i64 phi, .int .i64 pz] 146)).alloc (.cells #[.int .i64 0, .int .i64 0] 66) := ⟨_, rfl⟩
  rw [← hW0]
  obtain ⟨bx, by'⟩ := box2 w #[.int .i64 ph, .int .i64 pw, .int .i64 pd, .int .i64 plo, .int .i64 phi, .int .i64 pz] #[.int .i64 0, .int .i64 0] 146 66
  have b3 : W0.cell? ⟨w.heap.size, 3, none⟩ = some (.int .i64 plo) := by rw [hW0]; exact (bx 3 _ rfl).1
  have b4 : W0.cell? ⟨w.heap.size, 4, none⟩ = some (.int .i64 phi) := by rw [hW0]; exact (bx 4 _ rfl).1
  have b5 : W0.cell? ⟨w.heap.size, 5, none⟩ = some (.int .i64 pz) := by rw [hW0]; exact (bx 5 _ rfl).1
  obtain ⟨d0, g0⟩ : At W0 ⟨w.heap.size + 1, 0, none⟩ (.int .i64 0) := by rw [hW0]; exact by' 0 _ rfl
  obtain ⟨d1, g1⟩ : At W0 ⟨w.heap.size + 1, 1, none⟩ (.int .i64 0) := by rw [hW0]; exact by' 1 _ rfl
  have HB : Hid (Below w.heap.size w W0) := by rw [hW0]; exact below_al (below_alloc1 _ _) _
  clear bx by' hW0
  rcases Int.lt_trichotomy (plo * plo) (phi * phi) with hab | hab | hab
  all_goals by_cases hl : plo ≤ 0
  all_goals by_cases hh : 0 ≤ phi
  all_goals go_quiet (fail)
  all_goals go_wp2_with fail
  all_goals refine bodyPost_ret (v := .agg #[.int .i64 sr.1, .int .i64 sr.2]) ?_ rfl ⟨rfl, below_set (below_set (below_drN HB.out _) (by simp) _) (by simp) _⟩
  all_goals rw [results_cell rfl, E1.out, E2.out]
  all_goals go_simp
  all_goals first
    | (constructor <;> first | omega | (split <;> omega))
    | omega
    | (split <;> omega)
end Go.Proofs.Ytghglgaimhfedaa
