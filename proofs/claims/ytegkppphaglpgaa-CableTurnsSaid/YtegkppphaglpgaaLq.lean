/-
  Walks of chapter 1's bends.
-/
import Derived.Test.YtegkppphaglpgaaLp
import Derived.Test.YtegkppphaglpgaaKm
namespace Go.Proofs.Ytegkppphaglpgaa
open Go.RowKit Go.Shelf
attribute [local go_sem] monoUpon_value monoUpon_skip monoUpon_enter

def across (a b : Int × Int) : Int := a.1 * b.2 - b.1 * a.2
def bend (a b : Int × Int) : Int × Int := low (across a b * across a b) (sq a * sq b)
structure Fo (t : Int × Int) : Prop where
  x : -20000 ≤ t.1 ∧ t.1 ≤ 20000
  z : 0 < t.2 ∧ t.2 ≤ 20000
theorem sq_pos {t : Int × Int} (h : Fo t) : 0 < sq t ∧ sq t ≤ 800000000 := by
  have h1 := sq_bd t 20000 h.x ⟨by have := h.z; omega, h.z.2⟩
  have n1 : 0 ≤ t.1 * t.1 := by rcases Int.le_total 0 t.1 with h | h; exact Int.mul_nonneg h h; exact Int.mul_nonneg_of_nonpos_of_nonpos h h
  have n2 : 0 < t.2 * t.2 := Int.mul_pos h.z.1 h.z.1
  unfold sq at *
  omega
set_option maxRecDepth 100000 in
set_option maxHeartbeats 4000000 in
theorem bend_any (a b : Int × Int) (w : World) (ha : Fo a) (hb : Fo b) :
    Calls Try.prog 107 #[.agg #[.int .i64 a.1, .int .i64 a.2], .agg #[.int .i64 b.1, .int .i64 b.2]] w fun e w' => e = .returned (.agg #[.int .i64 (bend a b).1, .int .i64 (bend a b).2]) ∧ Below w.heap.size w w' := by
  have m1 := mul_bd a.1 b.2 20000 20000 ha.x ⟨by have := hb.z; omega, hb.z.2⟩
  have m2 := mul_bd b.1 a.2 20000 20000 hb.x ⟨by have := ha.z; omega, ha.z.2⟩
  have m3 := mul_bd (across a b) (across a b) 800000000 800000000 (by unfold across; omega) (by unfold across; omega)
  have sa := sq_pos ha
  have sb := sq_pos hb
  have m4 : 0 < sq a * sq b := Int.mul_pos sa.1 sb.1
  have m5 := mul_bd (sq a) (sq b) 800000000 800000000 (by omega) (by omega)
  have HQ := Lib.hid (fun w => square_any a w ⟨by have := ha.x; omega, by have := ha.x; omega⟩ ⟨by have := ha.z; omega, by have := ha.z; omega⟩)
  have HR := Lib.hid (fun w => square_any b w ⟨by have := hb.x; omega, by have := hb.x; omega⟩ ⟨by have := hb.z; omega, by have := hb.z; omega⟩)
  have HLo := Lib.hid (fun w => Lowest_any (across a b * across a b) (sq a * sq b) w m4 (by omega) ⟨by omega, by omega⟩)
  have E : Hid (bend a b = low (across a b * across a b) (sq a * sq b)) := (rfl : bend a b = _)
  have E2 : Hid (across a b = a.1 * b.2 - b.1 * a.2) := (rfl : across a b = _)
  have hw4 : IntKind.i64.wrap (across a b * across a b) = across a b * across a b := IntWalk.i64_in _ (by omega)
  have hw5 : IntKind.i64.wrap (sq a * sq b) = sq a * sq b := IntWalk.i64_in _ (by omega)
  have hw1 : IntKind.i64.wrap (a.1 * b.2) = a.1 * b.2 := IntWalk.i64_in _ (by omega)
  have hw2 : IntKind.i64.wrap (b.1 * a.2) = b.1 * a.2 := IntWalk.i64_in _ (by omega)
  have hw3 : IntKind.i64.wrap (a.1 * b.2 - b.1 * a.2) = across a b := by rw [← E2.out]; exact IntWalk.i64_in _ (by unfold across; omega)
  clear m1 m2 m3 m4 m5 sa sb ha hb
  generalize across a b = ac at *
  generalize sq a = qa at *
  generalize sq b = qb at *
  obtain ⟨a1, a2⟩ := a
  obtain ⟨b1, b2⟩ := b
  simp only at *
  go_enter Try.func107, Try.ntmps107
  go_wp2_with fail
  obtain ⟨W0, hW0⟩ : ∃ W0, W0 = ((w.alloc (.cells #[.int .i64 a1, .int .i64 a2] 23)).alloc (.cells #[.int .i64 b1, .int .i64 b2] 23)).alloc (.cells #[.int .i64 0, .int .i64 0] 75) := ⟨_, rfl⟩
  rw [← hW0]
  have z0 : W0.heap.size = w.heap.size + 3 := by rw [hW0]; simp
  have HB0 : Hid (Below w.heap.size w W0) := by rw [hW0]; exact below_al (below_al (below_alloc1 _ _) _) _
  obtain ⟨bx, by'⟩ := box2 w #[.int .i64 a1, .int .i64 a2] #[.int .i64 b1, .int .i64 b2] 23 23
  have R := fun j v h => At.new ((w.alloc (.cells #[.int .i64 a1, .int .i64 a2] 23)).alloc (.cells #[.int .i64 b1, .int .i64 b2] 23)) #[.int .i64 0, .int .i64 0] 75 j v h
  have er : ((w.alloc (.cells #[.int .i64 a1, .int .i64 a2] 23)).alloc (.cells #[.int .i64 b1, .int .i64 b2] 23)).heap.size = w.heap.size + 1 + 1 := by simp
  rw [er] at R
  have HX : Hid (∀ w1, Below W0.drew.heap.size W0.drew w1 → (At w1 ⟨w.heap.size, 0, none⟩ (.int .i64 a1) ∧ At w1 ⟨w.heap.size, 1, none⟩ (.int .i64 a2) ∧ At w1 ⟨w.heap.size + 1, 0, none⟩ (.int .i64 b1) ∧ At w1 ⟨w.heap.size + 1, 1, none⟩ (.int .i64 b2) ∧
      At w1 ⟨w.heap.size + 1 + 1, 0, none⟩ (.int .i64 0) ∧ At w1 ⟨w.heap.size + 1 + 1, 1, none⟩ (.int .i64 0))) := by
    intro w1 h1
    rw [hW0] at h1
    exact ⟨((bx 0 _ rfl).al _).drew.below h1, ((bx 1 _ rfl).al _).drew.below h1, ((by' 0 _ rfl).al _).drew.below h1, ((by' 1 _ rfl).al _).drew.below h1, (R 0 _ rfl).drew.below h1, (R 1 _ rfl).drew.below h1⟩
  clear bx by' R er hW0
  generalize hlo : low (ac * ac) (qa * qb) = lo at *
  clear hlo
  have HB1 : Hid (∀ w1, Below W0.drew.heap.size W0.drew w1 → Below w.heap.size w w1) := fun w1 h1 => below_tr HB0.out (Below.trans (Below.drew (Below.refl _ _)) h1)
  obtain ⟨⟨p0, _⟩, ⟨p1, _⟩, ⟨p2, _⟩, ⟨p3, _⟩, _, _⟩ := HX.out W0.drew (Below.refl _ _)
  go_wp2_with fail
  clear p0 p1 p2 p3
  refine wp_region_mono 9 [17, 18, 19, 20, 21, 22, 23, 24, 25] [[], [], [0, 1], [], [3], [], [5], [4, 6], [2, 7]] [fun v _ => v = .int .i64 ac, fun v _ => v = .int .i64 ac, fun v _ => v = .int .i64 (ac * ac), fun v _ => v = .agg #[.int .i64 a1, .int .i64 a2], fun v _ => v = .int .i64 qa, fun v _ => v = .agg #[.int .i64 b1, .int .i64 b2], fun v _ => v = .int .i64 qb, fun v _ => v = .int .i64 (qa * qb), fun v _ => v = .agg #[.int .i64 lo.1, .int .i64 lo.2]] (by kernel_rfl) (by kernel_rfl) ⟨st_eq _, st_eq _, st_eq _, st_eq _, st_eq _, st_eq _, st_eq _, st_eq _, st_eq _, trivial⟩ ?_ ?_
  · simp only [List.take_succ_cons, List.take_zero, steps, and_true]
    refine ⟨?_, ?_, ?_, ?_, ?_, ?_, ?_, ?_, ?_⟩
    · intro x W hB hN; simp only [needs, sAt, dAt] at hN; simp only [putX, setX, List.foldl_cons, List.foldl_nil]; refine ⟨?_⟩; go_simp; exact ⟨rfl, Below.refl _ _⟩
    · intro x W hB hN; simp only [needs, sAt, dAt] at hN; simp only [putX, setX, List.foldl_cons, List.foldl_nil]; refine ⟨?_⟩; go_simp; exact ⟨rfl, Below.refl _ _⟩
    · intro x W hB hN; simp only [needs, sAt, dAt] at hN; simp only [putX, setX, List.foldl_cons, List.foldl_nil]; refine ⟨?_⟩; go_simp; exact ⟨rfl, Below.refl _ _⟩
    · intro x W hB hN; simp only [needs, sAt, dAt] at hN; simp only [putX, setX, List.foldl_cons, List.foldl_nil]; obtain ⟨⟨p0, _⟩, ⟨p1, _⟩, ⟨p2, _⟩, ⟨p3, _⟩, _, _⟩ := HX.out W hB; refine ⟨?_⟩; go_simp; exact ⟨rfl, Below.refl _ _⟩
    · intro x W hB hN; simp only [needs, sAt, dAt] at hN; simp only [putX, setX, List.foldl_cons, List.foldl_nil]; refine ⟨?_⟩; go_simp; refine (HQ.out _).mono ?_; rintro e w' ⟨rfl, hb⟩; exact ⟨_, rfl, rfl, hb⟩
    · intro x W hB hN; simp only [needs, sAt, dAt] at hN; simp only [putX, setX, List.foldl_cons, List.foldl_nil]; obtain ⟨⟨p0, _⟩, ⟨p1, _⟩, ⟨p2, _⟩, ⟨p3, _⟩, _, _⟩ := HX.out W hB; refine ⟨?_⟩; go_simp; exact ⟨rfl, Below.refl _ _⟩
    · intro x W hB hN; simp only [needs, sAt, dAt] at hN; simp only [putX, setX, List.foldl_cons, List.foldl_nil]; refine ⟨?_⟩; go_simp; refine (HR.out _).mono ?_; rintro e w' ⟨rfl, hb⟩; exact ⟨_, rfl, rfl, hb⟩
    · intro x W hB hN; simp only [needs, sAt, dAt] at hN; simp only [putX, setX, List.foldl_cons, List.foldl_nil]; refine ⟨?_⟩; go_simp; exact ⟨rfl, Below.refl _ _⟩
    · intro x W hB hN; simp only [needs, sAt, dAt] at hN; simp only [putX, setX, List.foldl_cons, List.foldl_nil]; refine ⟨?_⟩; go_simp; refine (HLo.out _).mono ?_; rintro e w' ⟨rfl, hb⟩; exact ⟨_, rfl, rfl, hb⟩
  · intro x W hB hA
    simp only [allSp] at hA
    have q := hA.2.2.2.2.2.2.2.2.1
    clear hA
    have HA := Lib.hid (HX.out W hB)
    obtain ⟨_, _, _, _, ⟨c4, f4⟩, ⟨c5, f5⟩⟩ := HX.out W hB
    have HBW := Lib.hid (HB1.out W hB)
    simp only [putX, setX, List.foldl_cons, List.foldl_nil, List.drop_succ_cons, List.drop_zero]
    go_wp2_with fail
    obtain ⟨W5, hW5⟩ : ∃ W5, W5 = ((W.setCell ⟨w.heap.size + 1 + 1, 0, none⟩ (.int .i64 lo.1)).setCell ⟨w.heap.size + 1 + 1, 1, none⟩ (.int .i64 lo.2)) := ⟨_, rfl⟩
    rw [← hW5]
    obtain ⟨s0, _⟩ : At W5 ⟨w.heap.size + 1 + 1, 0, none⟩ (.int .i64 lo.1) := by rw [hW5]; exact ((HA.out.2.2.2.2.1.set).other (by simp))
    obtain ⟨s1, _⟩ : At W5 ⟨w.heap.size + 1 + 1, 1, none⟩ (.int .i64 lo.2) := by rw [hW5]; exact ((HA.out.2.2.2.2.2.other (by simp)).set)
    have HB5 : Below w.heap.size w W5 := by rw [hW5]; exact (below_set (below_set HBW.out (by show w.heap.size ≤ w.heap.size + 1 + 1; omega) _) (by show w.heap.size ≤ w.heap.size + 1 + 1; omega) _)
    clear hW5
    (try simp only [Exit.inBlock, Exit.then])
    refine bodyPost_ret (v := .agg #[.int .i64 lo.1, .int .i64 lo.2]) ?_ rfl ⟨by rw [E.out], HB5⟩
    rw [results_cell rfl]
    go_simp
end Go.Proofs.Ytegkppphaglpgaa
