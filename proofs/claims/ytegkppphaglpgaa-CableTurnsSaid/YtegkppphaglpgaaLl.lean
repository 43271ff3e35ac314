/-
  Walks of chapter 1's shapes: rounding, offsets, errors of slack.
-/
import Derived.Test.YtegkppphaglpgaaLk
import Derived.Test.YtegkppphaglpgaaLe
namespace Go.Proofs.Ytegkppphaglpgaa
open Go.RowKit Go.Shelf

theorem floor_math (n m : Int) (hm : 0 < m) : (if n.tmod m < 0 then n.tdiv m - 1 else n.tdiv m) = n / m := by
  have h1 := Int.mul_tdiv_add_tmod n m
  have h2 := Int.tmod_lt_of_pos n hm
  have h3 : -m < n.tmod m := by
    have := Int.lt_tmod_of_pos n hm
    omega
  by_cases h : n.tmod m < 0
  · rw [if_pos h]
    refine ((Int.ediv_emod_unique hm (a := n) (q := n.tdiv m - 1) (r := n.tmod m + m)).2 ⟨?_, by omega, by omega⟩).1.symm
    rw [Int.mul_sub]; omega
  · rw [if_neg h]
    exact ((Int.ediv_emod_unique hm (a := n) (q := n.tdiv m) (r := n.tmod m)).2 ⟨by omega, by omega, by omega⟩).1.symm
theorem tdiv_bd (n m B : Int) (hm : 0 < m) (h : -B ≤ n ∧ n ≤ B) : -B ≤ n.tdiv m ∧ n.tdiv m ≤ B := by
  have h1 := Int.natAbs_tdiv_le_natAbs n m
  omega
theorem floor_any (n m : Int) (w : World) (hm : 0 < m) (hm' : m ≤ 1000000000000000000) (hn : -1000000000000000000 ≤ n ∧ n ≤ 1000000000000000000) :
    Calls Try.prog 141 #[.int .i64 n, .int .i64 m] w fun e w' => e = .returned (.int .i64 (n / m)) ∧ w' = w := by
  have E := Lib.hid (floor_math n m hm)
  have hb := tdiv_bd n m _ hm hn
  obtain ⟨b1, b2⟩ := hb
  have hz : (m == 0) = false := by rw [beq_eq_false_iff_ne]; omega
  by_cases h : n.tmod m < 0
  · rw [if_pos h] at E
    have hw1 : IntKind.i64.wrap (n.tdiv m) = n.tdiv m := IntWalk.i64_in _ (by omega)
    have hw2 : IntKind.i64.wrap (n.tdiv m - 1) = n.tdiv m - 1 := IntWalk.i64_in _ (by omega)
    go_enter Try.func141, Try.ntmps141
    go_wp2
    go_ret
    exact ⟨ret_int E.out, rfl⟩
  · rw [if_neg h] at E
    have hw1 : IntKind.i64.wrap (n.tdiv m) = n.tdiv m := IntWalk.i64_in _ (by omega)
    go_enter Try.func141, Try.ntmps141
    go_wp2
    go_ret
    exact ⟨ret_int E.out, rfl⟩
theorem ceiling_any (n m : Int) (w : World) (hm : 0 < m) (hm' : m ≤ 1000000000000000000) (hn : -1000000000000000000 ≤ n ∧ n ≤ 1000000000000000000) :
    Calls Try.prog 142 #[.int .i64 n, .int .i64 m] w fun e w' => e = .returned (.int .i64 (-(-n / m))) ∧ w' = w := by
  have HF := Lib.hid (fun w => floor_any (-n) m w hm hm' ⟨by omega, by omega⟩)
  have hb := tdiv_bd (-n) m 1000000000000000000 hm ⟨by omega, by omega⟩
  have e := floor_math (-n) m hm
  have hq : -1000000000000000001 ≤ -n / m ∧ -n / m ≤ 1000000000000000000 := by rw [← e]; split <;> omega
  obtain ⟨b1, b2⟩ := hq
  have hw0 : IntKind.i64.wrap (-n) = -n := IntWalk.i64_in _ (by omega)
  clear hb e
  generalize hq : -n / m = q at *
  have hw1 : IntKind.i64.wrap (-q) = -q := IntWalk.i64_in _ (by omega)
  go_enter Try.func142, Try.ntmps142
  go_wp2_with (go_at_call 141; refine (HF.out _).mono ?_; rintro e w' ⟨rfl, rfl⟩)
  go_ret
  exact ⟨rfl, rfl⟩

def offR (p : Pl) : Int × Int := (p.h * p.lo / p.z, -(-(p.h * p.hi) / p.z))
set_option maxRecDepth 100000 in
set_option maxHeartbeats 1000000 in
theorem offsets_any (p : Pl) (w : World) (hp : PlOk p) (hz : 0 < p.z) :
    Calls Try.prog 105 #[.agg #[.int .i64 p.h, .int .i64 p.wt, .int .i64 p.d, .int .i64 p.lo, .int .i64 p.hi, .int .i64 p.z]] w fun e w' => e = .returned (.agg #[.int .i64 (offR p).1, .int .i64 (offR p).2]) ∧ Below w.heap.size w w' := by
  have hh0 := hp.h0
  have hh1 := hp.h1
  have m1 := mul_bd p.h p.lo 1000 20000 (by omega) (by have := hp.l0; have := hp.l1; omega)
  have m2 := mul_bd p.h p.hi 1000 20000 (by omega) (by have := hp.u0; have := hp.u1; omega)
  have hz1 := hp.z1
  have HF := Lib.hid (fun w => floor_any (p.h * p.lo) p.z w hz (by omega) ⟨by omega, by omega⟩)
  have HG := Lib.hid (fun w => ceiling_any (p.h * p.hi) p.z w hz (by omega) ⟨by omega, by omega⟩)
  have E : Hid (offR p = (p.h * p.lo / p.z, -(-(p.h * p.hi) / p.z))) := (rfl : offR p = _)
  obtain ⟨ph, pw, pd, plo, phi, pz⟩ := p
  simp only at *
  have hw1 : IntKind.i64.wrap (ph * plo) = ph * plo := IntWalk.i64_in _ (by omega)
  have hw2 : IntKind.i64.wrap (ph * phi) = ph * phi := IntWalk.i64_in _ (by omega)
  go_enter Try.func105, Try.ntmps105
  go_wp2_with fail
  obtain ⟨W0, hW0⟩ : ∃ W0, W0 = (w.alloc (.cells #[.int .i64 ph, .int .i64 pw, .int .i64 pd, .int .i64 plo, .int .i64 phi, .int .i64 pz] 150)).alloc (.cells #[.int .i64 0, .int .i64 0] 66) := ⟨_, rfl⟩
  rw [← hW0]
  obtain ⟨bx, by'⟩ := box2 w #[.int .i64 ph, .int .i64 pw, .int .i64 pd, .int .i64 plo, .int .i64 phi, .int .i64 pz] #[.int .i64 0, .int .i64 0] 150 66
  have b0 : W0.cell? ⟨w.heap.size, 0, none⟩ = some (.int .i64 ph) := by rw [hW0]; exact (bx 0 _ rfl).1
  have b3 : W0.cell? ⟨w.heap.size, 3, none⟩ = some (.int .i64 plo) := by rw [hW0]; exact (bx 3 _ rfl).1
  have b4 : W0.cell? ⟨w.heap.size, 4, none⟩ = some (.int .i64 phi) := by rw [hW0]; exact (bx 4 _ rfl).1
  have b5 : W0.cell? ⟨w.heap.size, 5, none⟩ = some (.int .i64 pz) := by rw [hW0]; exact (bx 5 _ rfl).1
  obtain ⟨d0, g0⟩ : At W0 ⟨w.heap.size + 1, 0, none⟩ (.int .i64 0) := by rw [hW0]; exact by' 0 _ rfl
  obtain ⟨d1, g1⟩ : At W0 ⟨w.heap.size + 1, 1, none⟩ (.int .i64 0) := by rw [hW0]; exact by' 1 _ rfl
  have HB : Hid (Below w.heap.size w W0) := by rw [hW0]; exact below_al (below_alloc1 _ _) _
  clear bx by' hW0
  refine wp_region_still_tail 21 (by kernel_rfl) (by kernel_rfl) ?_
  simp only [List.take_succ_cons, List.take_zero, List.drop_succ_cons, List.drop_zero]
  repeat still_step
  still_call (HF.out _)
  repeat still_step
  still_call (HG.out _)
  repeat still_step
  refine wpStill_nil ?_
  go_wp2_with fail
  refine bodyPost_ret (v := .agg #[.int .i64 (ph * plo / pz), .int .i64 (-(-(ph * phi) / pz))]) ?_ rfl ⟨by rw [E.out], ?_⟩
  · rw [results_cell rfl]
    go_simp
  · exact (below_set (below_set HB.out (by simp) _) (by simp) _).drew
end Go.Proofs.Ytegkppphaglpgaa
