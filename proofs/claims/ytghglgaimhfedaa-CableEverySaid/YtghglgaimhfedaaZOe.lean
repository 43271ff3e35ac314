/-
  Walks of chapter 1's reference: the layback over a box; the mathematics of boxes.
-/
import Derived.Test.YtghglgaimhfedaaZOd
import Derived.Test.YtghglgaimhfedaaZOc
import Derived.Test.YtghglgaimhfedaaZNj
namespace Go.Proofs.Ytghglgaimhfedaa
open Go.RowKit Go.Shelf
attribute [local go_sem] monoUpon_value monoUpon_skip monoUpon_enter
attribute [local go_sem] run_field0 run_field1

theorem pullsF_stLo (lo hi hi' z : Int) : ∀ (ks : List Lk) (b : List (Int × Int)), (pullsF lo hi z ks b).map (fun p => (p.h, p.lo, p.z)) = (pullsF lo hi' z ks (still (b.map Prod.fst))).map (fun p => (p.h, p.lo, p.z))
  | [], [] => rfl
  | [], _ :: _ => rfl
  | _ :: _, [] => rfl
  | k :: ks, r :: b => by
    show _ :: (pullsF _ _ _ ks b).map _ = _ :: (pullsF _ _ _ ks (still (b.map Prod.fst))).map _
    rw [pullsF_stLo _ _ _ _ ks b]
theorem pullsF_stHi (lo lo' hi z : Int) : ∀ (ks : List Lk) (b : List (Int × Int)), (pullsF lo hi z ks b).map (fun p => (p.h, p.hi, p.z)) = (pullsF lo' hi z ks (still (b.map Prod.snd))).map (fun p => (p.h, p.hi, p.z))
  | [], [] => rfl
  | [], _ :: _ => rfl
  | _ :: _, [] => rfl
  | k :: ks, r :: b => by
    show _ :: (pullsF _ _ _ ks b).map _ = _ :: (pullsF _ _ _ ks (still (b.map Prod.snd))).map _
    rw [pullsF_stHi _ _ _ _ ks b]
def sumF (xs : List Int) : Int := xs.foldr (fun a s => a + s) 0
theorem totR_one (g : Pl → Int × Int) (ps : List Pl) : (totR g ps).1 = sumF (ps.map fun p => (g p).1) := by
  induction ps with
  | nil => rfl
  | cons p r ih => simp only [totR, List.map_cons, sumF, List.foldr_cons]; rw [ih]; rfl
theorem totR_two (g : Pl → Int × Int) (ps : List Pl) : (totR g ps).2 = sumF (ps.map fun p => (g p).2) := by
  induction ps with
  | nil => rfl
  | cons p r ih => simp only [totR, List.map_cons, sumF, List.foldr_cons]; rw [ih]; rfl
theorem lay_lo (l : Ln) (b : List (Int × Int)) : (totR offR (pulls l (still (b.map Prod.fst)))).1 = (totR offR (pulls l b)).1 := by
  have h : (pulls l b).map (fun p => (p.h, p.lo, p.z)) = (pulls l (still (b.map Prod.fst))).map (fun p => (p.h, p.lo, p.z)) := pullsF_stLo _ _ _ _ _ _
  have h2 := congrArg (List.map fun q : Int × Int × Int => q.1 * q.2.1 / q.2.2) h
  rw [List.map_map, List.map_map] at h2
  rw [totR_one, totR_one]
  exact congrArg sumF h2.symm
theorem lay_hi (l : Ln) (b : List (Int × Int)) : (totR offR (pulls l (still (b.map Prod.snd)))).2 = (totR offR (pulls l b)).2 := by
  have h : (pulls l b).map (fun p => (p.h, p.hi, p.z)) = (pulls l (still (b.map Prod.snd))).map (fun p => (p.h, p.hi, p.z)) := pullsF_stHi _ _ _ _ _ _
  have h2 := congrArg (List.map fun q : Int × Int × Int => -(-(q.1 * q.2.1) / q.2.2)) h
  rw [List.map_map, List.map_map] at h2
  rw [totR_two, totR_two]
  exact congrArg sumF h2.symm
theorem still_box {l : Ln} {c : List Int} (h : CuOk l c) : BoxOk l (still c) := ⟨by simp [still, h.len], fun r hr => by
  obtain ⟨n, hn, rfl⟩ := List.mem_map.1 hr
  have := h.ok n hn; exact ⟨by omega, Int.le_refl _, by omega⟩⟩
theorem tens_pos {l : Ln} {c : List Int} (h : CuOk l c) (hs : slackErr l = 0) : ∀ t ∈ tens l c, 0 < t.2 := by
  intro t ht
  rw [← tensions_eq, tensions] at ht
  obtain ⟨p, hp, rfl⟩ := List.mem_map.1 ht
  exact pulls_pos (still_box h) hs p hp
theorem rLay_still (v u : Value) (l : Ln) (cu : List Int) (w : World) (hs : Sl e3 3 w v l.ks) (hu : Sl e1 1 w u cu) (hl : LnOk l) (hc : CuOk l cu) (hz : slackErr l = 0) :
    Calls Try.prog 49 #[.agg #[.int .i64 l.x, .int .i64 l.z, v], u] w fun e w' => e = .returned (.agg #[.int .i64 (totR offR (pulls l (still cu))).1, .int .i64 (totR offR (pulls l (still cu))).2]) ∧ Below w.heap.size w w' := by
  have h := rLayback_any v u l cu w hs hu hl hc (tens_pos hc hz) (offs_ok hl (still_box hc) (pulls_pos (still_box hc) hz))
  have e : layF (offs l cu) = totR offR (pulls l (still cu)) := layF_tot _ fun p hp => ⟨pulls_one l cu p hp, pulls_pos (still_box hc) hz p hp⟩
  rwa [e] at h
set_option maxRecDepth 100000 in
set_option maxHeartbeats 2000000 in
theorem rLaybackIn_any (v u : Value) (l : Ln) (b : List (Int × Int)) (w : World) (hs : Sl e3 3 w v l.ks) (hu : Sl e2 2 w u b) (hl : LnOk l) (hbx : BoxOk l b) (hz : slackErr l = 0) :
    Calls Try.prog 65 #[.agg #[.int .i64 l.x, .int .i64 l.z, v], u] w fun e w' => e = .returned (.agg #[.int .i64 (totR offR (pulls l b)).1, .int .i64 (totR offR (pulls l b)).2]) ∧ Below w.heap.size w w' := by
  have hbig : b.length ≤ 1000 := by rw [hbx.len]; have := hl.n1; omega
  have hs0 := hs
  have hu0 := hu
  obtain ⟨A, c, rfl, hcap⟩ := hs.form
  obtain ⟨A', c', rfl, hcap'⟩ := hu.form
  have HE1 : Hid (∀ W, Below w.heap.size w W → Calls Try.prog 122 #[.slice A' b.length c', .bool false] W fun e w' => ∃ r, e = .returned r ∧ Sl e1 1 w' r (b.map Prod.fst) ∧ Below W.heap.size W w') := fun W h =>
    (rEnd_lo _ b W (hu0.below h) hbig).mono fun e w' ⟨r, a, o, d⟩ => ⟨r, a, o.sl e1_len, d⟩
  have HE2 : Hid (∀ W, Below w.heap.size w W → Calls Try.prog 122 #[.slice A' b.length c', .bool true] W fun e w' => ∃ r, e = .returned r ∧ Sl e1 1 w' r (b.map Prod.snd) ∧ Below W.heap.size W w') := fun W h =>
    (rEnd_hi _ b W (hu0.below h) hbig).mono fun e w' ⟨r, a, o, d⟩ => ⟨r, a, o.sl e1_len, d⟩
  have HL1 := Lib.hid (fun u W (h : Below w.heap.size w W) k => rLay_still _ u l (b.map Prod.fst) W (hs0.below h) k hl (box_cu1 hbx) hz)
  have HL2 := Lib.hid (fun u W (h : Below w.heap.size w W) k => rLay_still _ u l (b.map Prod.snd) W (hs0.below h) k hl (box_cu2 hbx) hz)
  have E1 := Lib.hid (lay_lo l b)
  have E2 := Lib.hid (lay_hi l b)
  clear hs hu hs0 hu0 hl hbx hz hcap hcap'
  generalize totR offR (pulls l (still (b.map Prod.fst))) = ta at *
  generalize totR offR (pulls l (still (b.map Prod.snd))) = tb' at *
  generalize totR offR (pulls l b) = tc at *
  obtain ⟨a1, a2⟩ := ta
  obtain ⟨b1, b2⟩ := tb'
  obtain ⟨d1, d2⟩ := tc
  simp only at *
  go_enter Try.func65, Try.ntmps65
  go_wp2_with fail
  obtain ⟨W0, hW0⟩ : ∃ W0, W0 = (w.alloc (.cells #[.int .i64 l.x, .int .i64 l.z, .slice A l.ks.length c] 26)).alloc (.cells #[.int .i64 0, .int .i64 0] 66) := ⟨_, rfl⟩
  rw [← hW0]
  have HX : Hid (∀ W, Below W0.drew.heap.size W0.drew W → (W.cell? ⟨w.heap.size, 0, none⟩ = some (.int .i64 l.x) ∧ W.cell? ⟨w.heap.size, 1, none⟩ = some (.int .i64 l.z) ∧ W.cell? ⟨w.heap.size, 2, none⟩ = some (.slice A l.ks.length c)) ∧ (At W ⟨w.heap.size + 1, 0, none⟩ (.int .i64 0) ∧ At W ⟨w.heap.size + 1, 1, none⟩ (.int .i64 0)) ∧ Below w.heap.size w W) := by
    intro W h
    rw [hW0] at h
    obtain ⟨bx, by'⟩ := box2 w #[.int .i64 l.x, .int .i64 l.z, .slice A l.ks.length c] #[.int .i64 0, .int .i64 0] 26 66
    exact ⟨⟨((bx 0 _ rfl).drew.below h).1, ((bx 1 _ rfl).drew.below h).1, ((bx 2 _ rfl).drew.below h).1⟩, ⟨(by' 0 _ rfl).drew.below h, (by' 1 _ rfl).drew.below h⟩, below_tr (below_al (below_alloc1 _ _) _) (Below.trans (Below.drew (Below.refl _ _)) h)⟩
  clear hW0
  refine wp_region_mono 11 [5, 6, 7, 8, 9, 10, 11, 12, 13, 14, 15] [[], [], [1], [0, 2], [3], [], [], [6], [5, 7], [8], [4, 9]] [fun v _ => v = .agg #[.int .i64 l.x, .int .i64 l.z, .slice A l.ks.length c], fun v _ => v = .slice A' b.length c', fun v w => Sl e1 1 w v (b.map Prod.fst), fun v _ => v = .agg #[.int .i64 a1, .int .i64 a2], fun v _ => v = .int .i64 a1, fun v _ => v = .agg #[.int .i64 l.x, .int .i64 l.z, .slice A l.ks.length c], fun v _ => v = .slice A' b.length c', fun v w => Sl e1 1 w v (b.map Prod.snd), fun v _ => v = .agg #[.int .i64 b1, .int .i64 b2], fun v _ => v = .int .i64 b2, fun v _ => v = .agg #[.int .i64 a1, .int .i64 b2]] (by kernel_rfl) (by kernel_rfl) ⟨st_eq _, st_eq _, st_sl _ _ _, st_eq _, st_eq _, st_eq _, st_eq _, st_sl _ _ _, st_eq _, st_eq _, st_eq _, trivial⟩ ?_ ?_
  · simp only [List.take_succ_cons, List.take_zero, steps, and_true]
    refine ⟨?_, ?_, ?_, ?_, ?_, ?_, ?_, ?_, ?_, ?_, ?_⟩
    · intro x W hB _; simp only [putX, setX, List.foldl_cons, List.foldl_nil]; obtain ⟨⟨c0, c1, c2⟩, _⟩ := HX.out W hB; refine ⟨?_⟩; go_simp; exact ⟨rfl, Below.refl _ _⟩
    · intro x W hB _; simp only [putX, setX, List.foldl_cons, List.foldl_nil]; refine ⟨?_⟩; go_simp; exact ⟨rfl, Below.refl _ _⟩
    · intro x W hB hN; simp only [needs, sAt, dAt] at hN; simp only [putX, setX, List.foldl_cons, List.foldl_nil]; refine ⟨?_⟩; go_simp; refine (HE1.out _ (HX.out W hB).2.2).mono ?_; rintro e w' ⟨r, rfl, hr, hb⟩; exact ⟨_, rfl, hr, hb⟩
    · intro x W hB hN; simp only [needs, sAt, dAt] at hN; simp only [putX, setX, List.foldl_cons, List.foldl_nil]; refine ⟨?_⟩; go_simp; refine (HL1.out _ _ (HX.out W hB).2.2 hN.2.1).mono ?_; rintro e w' ⟨rfl, hb⟩; exact ⟨_, rfl, rfl, hb⟩
    · intro x W hB hN; simp only [needs, sAt, dAt] at hN; simp only [putX, setX, List.foldl_cons, List.foldl_nil]; refine ⟨?_⟩; go_simp; exact ⟨rfl, Below.refl _ _⟩
    · intro x W hB _; simp only [putX, setX, List.foldl_cons, List.foldl_nil]; obtain ⟨⟨c0, c1, c2⟩, _⟩ := HX.out W hB; refine ⟨?_⟩; go_simp; exact ⟨rfl, Below.refl _ _⟩
    · intro x W hB _; simp only [putX, setX, List.foldl_cons, List.foldl_nil]; refine ⟨?_⟩; go_simp; exact ⟨rfl, Below.refl _ _⟩
    · intro x W hB hN; simp only [needs, sAt, dAt] at hN; simp only [putX, setX, List.foldl_cons, List.foldl_nil]; refine ⟨?_⟩; go_simp; refine (HE2.out _ (HX.out W hB).2.2).mono ?_; rintro e w' ⟨r, rfl, hr, hb⟩; exact ⟨_, rfl, hr, hb⟩
    · intro x W hB hN; simp only [needs, sAt, dAt] at hN; simp only [putX, setX, List.foldl_cons, List.foldl_nil]; refine ⟨?_⟩; go_simp; refine (HL2.out _ _ (HX.out W hB).2.2 hN.2.1).mono ?_; rintro e w' ⟨rfl, hb⟩; exact ⟨_, rfl, rfl, hb⟩
    · intro x W hB hN; simp only [needs, sAt, dAt] at hN; simp only [putX, setX, List.foldl_cons, List.foldl_nil]; refine ⟨?_⟩; go_simp; exact ⟨rfl, Below.refl _ _⟩
    · intro x W hB hN; simp only [needs, sAt, dAt] at hN; simp only [putX, setX, List.foldl_cons, List.foldl_nil]; refine ⟨?_⟩; go_simp; exact ⟨rfl, Below.refl _ _⟩
  · intro y W hB hA
    simp only [allSp] at hA
    have q1 := hA.2.2.2.2.2.2.2.2.2.2.1
    obtain ⟨_, HR01, HBW⟩ := HX.out W hB
    have HRR := Lib.hid HR01
    obtain ⟨⟨r0, f0⟩, ⟨r1, f1⟩⟩ := HR01
    have HBB := Lib.hid HBW
    clear hA hB HBW
    simp only [putX, setX, List.foldl_cons, List.foldl_nil, List.drop_succ_cons, List.drop_zero, q1, List.setIfInBounds_toArray, List.set_cons_succ, List.set_cons_zero]
    clear q1
    go_wp2_with fail
    obtain ⟨W5, hW5⟩ : ∃ W5, W5 = (W.setCell ⟨w.heap.size + 1, 0, none⟩ (.int .i64 a1)).setCell ⟨w.heap.size + 1, 1, none⟩ (.int .i64 b2) := ⟨_, rfl⟩
    rw [← hW5]
    obtain ⟨s0, _⟩ : At W5 ⟨w.heap.size + 1, 0, none⟩ (.int .i64 a1) := by rw [hW5]; exact (HRR.out.1.set).other (by simp)
    obtain ⟨s1, _⟩ : At W5 ⟨w.heap.size + 1, 1, none⟩ (.int .i64 b2) := by rw [hW5]; exact (HRR.out.2.other (by simp)).set
    have HB5 : Below w.heap.size w W5 := by rw [hW5]; exact below_set (below_set HBB.out (by simp) _) (by simp) _
    clear hW5
    (try simp only [Exit.inBlock, Exit.then])
    refine bodyPost_ret (v := .agg #[.int .i64 a1, .int .i64 b2]) ?_ rfl ⟨by rw [E1.out, E2.out], HB5⟩
    rw [results_cell rfl]
    go_simp

/-! ### the mathematics of squares and lengths over a box -/
theorem pullsF_ord {lo hi z : Int} {ks : List Lk} {b : List (Int × Int)} (h : lo ≤ hi) (hk : ∀ k ∈ ks, 0 ≤ k.2.2) (hb : ∀ r ∈ b, r.1 ≤ r.2) : ∀ p ∈ pullsF lo hi z ks b, p.lo ≤ p.hi := by
  induction ks generalizing lo hi z b with
  | nil => intro p hp; cases b <;> simp [pullsF] at hp
  | cons k r ih =>
    cases b with
    | nil => intro p hp; simp [pullsF] at hp
    | cons q b =>
      have h1 := Int.mul_le_mul_of_nonneg_left (hb q (by simp)) (hk k (by simp))
      intro p hp
      simp only [pullsF, List.mem_cons] at hp
      rcases hp with rfl | hp
      · simp only; omega
      · exact ih (by omega) (fun k' hk' => hk k' (by simp [hk'])) (fun r' hr' => hb r' (by simp [hr'])) p hp
theorem pulls_ord {l : Ln} {b : List (Int × Int)} (hl : LnOk l) (hb : BoxOk l b) : ∀ p ∈ pulls l b, p.lo ≤ p.hi :=
  pullsF_ord (Int.le_refl _) (fun k hk => (hl.ok k hk).2.2.2.2.1) (fun r hr => (hb.ok r hr).2.1)
theorem sq_abs (a : Int) : (a.natAbs : Int) * (a.natAbs : Int) = a * a := by
  rcases Int.natAbs_eq a with h | h
  · rw [← h]
  · have e : a * a = (a.natAbs : Int) * (a.natAbs : Int) := by
      generalize (a.natAbs : Int) = n at *
      rw [h, Int.neg_mul_neg]
    exact e.symm
theorem max_sq (a b : Int) : max (a * a) (b * b) = (if (a.natAbs : Int) < (b.natAbs : Int) then (b.natAbs : Int) else (a.natAbs : Int)) * (if (a.natAbs : Int) < (b.natAbs : Int) then (b.natAbs : Int) else (a.natAbs : Int)) := by
  have h1 := sq_abs a
  have h2 := sq_abs b
  rw [← h1, ← h2]
  have ha : (0 : Int) ≤ (a.natAbs : Int) := by omega
  have hb : (0 : Int) ≤ (b.natAbs : Int) := by omega
  generalize (a.natAbs : Int) = x at *
  generalize (b.natAbs : Int) = y at *
  by_cases h : x < y
  · rw [if_pos h]
    have := Int.mul_le_mul (Int.le_of_lt h) (Int.le_of_lt h) ha hb
    omega
  · rw [if_neg h]
    have := Int.mul_le_mul (show y ≤ x by omega) (show y ≤ x by omega) hb ha
    omega
def mostP (p : Pl) : Int := if (p.lo.natAbs : Int) < (p.hi.natAbs : Int) then (p.hi.natAbs : Int) else (p.lo.natAbs : Int)
def leastP (p : Pl) : Int := if p.hi < 0 then p.hi else if 0 < p.lo then p.lo else 0
theorem sqR_most (p : Pl) (ho : p.lo ≤ p.hi) : sqR p = (leastP p * leastP p + p.z * p.z, mostP p * mostP p + p.z * p.z) := by
  have hm := max_sq p.lo p.hi
  obtain ⟨ph, pw, pd, plo, phi, pz⟩ := p
  unfold sqR leastP mostP
  simp only at *
  rw [← hm]
  congr 2
  by_cases h1 : phi < 0
  · have := Int.mul_le_mul_of_nonpos_right ho (show phi ≤ 0 by omega)
    have h2 := Int.mul_le_mul_of_nonpos_left (show plo ≤ 0 by omega) ho
    rw [if_neg (by omega), if_pos h1]
    omega
  · rw [if_neg h1]
    by_cases h2 : 0 < plo
    · have := Int.mul_le_mul ho ho (by omega) (by omega)
      rw [if_neg (by omega), if_pos h2]
      omega
    · rw [if_pos (by omega), if_neg h2]; rfl
theorem long_most {p : Pl} (hp : PlOk p) (hz : 0 < p.z) : (longR p.h (mostP p, p.z)).2 = (lenR p).2 := by
  have hb : -20000 ≤ mostP p ∧ mostP p ≤ 20000 := by
    unfold mostP
    have := hp.l0; have := hp.l1; have := hp.u0; have := hp.u1
    split <;> omega
  have hp' : PlOk ⟨p.h, p.wt, p.d, mostP p, mostP p, p.z⟩ := ⟨hp.h0, hp.h1, hb.1, hb.2, hb.1, hb.2, hp.z0, hp.z1⟩
  have h := longR_lenR hp' hz rfl
  simp only at h
  rw [h]
  have hm := max_sq p.lo p.hi
  have e : (sqR ⟨p.h, p.wt, p.d, mostP p, mostP p, p.z⟩).2 = (sqR p).2 := by
    unfold sqR
    simp only [Int.max_self]
    rw [hm]
    rfl
  unfold lenR
  simp only
  rw [e]
end Go.Proofs.Ytghglgaimhfedaa
