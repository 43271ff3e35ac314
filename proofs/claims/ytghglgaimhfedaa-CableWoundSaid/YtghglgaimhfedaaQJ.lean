/-
  Walks of chapter 1's squares and fractions in lowest terms.
-/
import Derived.Test.YtghglgaimhfedaaQI
import Derived.Deep.LoopGhost
import Derived.Test.YtghglgaimhfedaaQB
import Derived.Lib.Mul64
import Derived.Laws.Bits64b
import Derived.Deep.RegionWith
namespace Go.Proofs.Ytghglgaimhfedaa
open Go.RowKit Go.Shelf

def sq (t : Int × Int) : Int := t.1 * t.1 + t.2 * t.2
theorem sq_bd (t : Int × Int) (B : Int) (h1 : -B ≤ t.1 ∧ t.1 ≤ B) (h2 : -B ≤ t.2 ∧ t.2 ≤ B) : 0 ≤ sq t ∧ sq t ≤ 2 * (B * B) := by
  have m1 := mul_bd t.1 t.1 B B h1 h1
  have m2 := mul_bd t.2 t.2 B B h2 h2
  have n1 : 0 ≤ t.1 * t.1 := by rcases Int.le_total 0 t.1 with h | h; exact Int.mul_nonneg h h; exact Int.mul_nonneg_of_nonpos_of_nonpos h h
  have n2 : 0 ≤ t.2 * t.2 := by rcases Int.le_total 0 t.2 with h | h; exact Int.mul_nonneg h h; exact Int.mul_nonneg_of_nonpos_of_nonpos h h
  unfold sq
  generalize B * B = M at *
  omega
theorem square_any (t : Int × Int) (w : World) (h1 : -1000000 ≤ t.1 ∧ t.1 ≤ 1000000) (h2 : -1000000 ≤ t.2 ∧ t.2 ≤ 1000000) :
    Calls Try.prog 102 #[.agg #[.int .i64 t.1, .int .i64 t.2]] w fun e w' => e = .returned (.int .i64 (sq t)) ∧ Below w.heap.size w w' := by
  have m1 := mul_bd t.1 t.1 1000000 1000000 h1 h1
  have m2 := mul_bd t.2 t.2 1000000 1000000 h2 h2
  have hw1 : IntKind.i64.wrap (t.1 * t.1) = t.1 * t.1 := IntWalk.i64_in _ (by omega)
  have hw2 : IntKind.i64.wrap (t.2 * t.2) = t.2 * t.2 := IntWalk.i64_in _ (by omega)
  have hw3 : IntKind.i64.wrap (t.1 * t.1 + t.2 * t.2) = t.1 * t.1 + t.2 * t.2 := IntWalk.i64_in _ (by omega)
  have E : Hid (sq t = t.1 * t.1 + t.2 * t.2) := (rfl : sq t = _)
  obtain ⟨t1, t2⟩ := t
  simp only at *
  go_enter Try.func102, Try.ntmps102
  go_wp2_with fail
  go_ret
  exact ⟨ret_int E.out.symm, below_alloc1 _ _⟩

/-- A fraction in lowest terms. -/
def low (n d : Int) : Int × Int := (n / (Int.gcd n d : Int), d / (Int.gcd n d : Int))
theorem gcd_step (a b : Int) : Int.gcd b (a.tmod b) = Int.gcd a b := by
  rw [Int.gcd_eq_natAbs_gcd_natAbs, Int.gcd_eq_natAbs_gcd_natAbs, Int.natAbs_tmod, Nat.gcd_comm b.natAbs, ← Nat.gcd_rec, Nat.gcd_comm]
theorem tmod_bd (a b : Int) (hb : b ≠ 0) : (a.tmod b).natAbs < b.natAbs := by
  rw [Int.natAbs_tmod]
  exact Nat.mod_lt _ (by omega)
theorem natAbs_zero_gcd (x : Int) : Int.gcd x 0 = x.natAbs := Int.gcd_zero_right x
def DivOk (b : Int) (xs : List Int) (G : Nat) : Prop := xs.foldl (fun g n => Nat.gcd g n.natAbs) b.natAbs = G
theorem DivOk.step {b : Int} {xs : List Int} {k : Nat} {G : Nat} (h : k < xs.length) (hd : DivOk b (xs.drop k) G) {c : Int} (hc : c.natAbs = Nat.gcd b.natAbs (xs[k]).natAbs) : DivOk c (xs.drop (k + 1)) G := by
  unfold DivOk at *
  rw [List.drop_eq_getElem_cons h, List.foldl_cons] at hd
  rw [hc]; exact hd
theorem gcd_tmod (a b : Int) : Nat.gcd b.natAbs (a.tmod b).natAbs = Nat.gcd a.natAbs b.natAbs := by
  rw [Int.natAbs_tmod, Nat.gcd_comm b.natAbs, ← Nat.gcd_rec, Nat.gcd_comm]
set_option maxRecDepth 100000 in
set_option maxHeartbeats 2000000 in
theorem Divisor_any (v : Value) (xs : List Int) (w : World) (hs : Sl e1 1 w v xs) (hn : xs.length ≤ 1000000) (hx : ∀ x ∈ xs, -4000000000000000000 ≤ x ∧ x ≤ 4000000000000000000) :
    Calls Try.prog 147 #[v] w fun e w' => e = .returned (.int .i64 (xs.foldl (fun g n => Nat.gcd g n.natAbs) 0 : Nat)) ∧ Below w.heap.size w w' := by
  obtain ⟨A, c, rfl, hcap⟩ := hs.form
  have HS := Lib.hid hs
  have HX := Lib.hid hx
  clear hs hx
  generalize hG : xs.foldl (fun g n => Nat.gcd g n.natAbs) 0 = G
  have HG : Hid (DivOk 0 xs G) := hG
  clear hG
  go_enter Try.func147, Try.ntmps147
  go_wp2_with fail
  go_loopg [3, 5, 8] xs.length (fun g b _ i wr => ∃ (k : Nat) (y : Int), k ≤ xs.length ∧ g = xs.length - k ∧ i = .int .i64 k ∧ b = .int .i64 y ∧ DivOk y (xs.drop k) G ∧ (-4000000000000000000 ≤ y ∧ y ≤ 4000000000000000000) ∧ Below w.heap.size w wr)
  case atStart => exact ⟨0, 0, Nat.zero_le _, rfl, rfl, rfl, HG.out, by omega, Below.refl _ _⟩
  case round =>
    obtain ⟨k, y, hk, rfl, rfl, rfl, hd, hy, hb⟩ := hrel
    have HD := Lib.hid hd
    have HB := Lib.hid hb
    clear hd
    by_cases hlt : k < xs.length
    · obtain ⟨b, off, rfl, hbl, hc0⟩ := (HS.out.below hb).at1 hlt
      have hm := HX.out xs[k] (List.getElem_mem _)
      have HN : Hid (∀ c : Int, c.natAbs = Nat.gcd y.natAbs (xs[k]).natAbs → DivOk c (xs.drop (k + 1)) G) := fun c hc => HD.out.step hlt hc
      generalize xs[k] = n at *
      clear hb
      go_wp2_with fail
      go_loopg [3, 5] n.natAbs (fun g u z wr' => ∃ p q : Int, u = .int .i64 p ∧ z = .int .i64 q ∧ g = q.natAbs ∧ Nat.gcd p.natAbs q.natAbs = Nat.gcd y.natAbs n.natAbs ∧ (-4000000000000000000 ≤ p ∧ p ≤ 4000000000000000000) ∧ (-4000000000000000000 ≤ q ∧ q ≤ 4000000000000000000) ∧ Below w.heap.size w wr')
      case atStart => exact ⟨y, n, rfl, rfl, rfl, rfl, hy, hm, HB.out⟩
      case round =>
        obtain ⟨p, q, rfl, rfl, rfl, hg, hp, hq, hb'⟩ := hrel
        have HB' := Lib.hid hb'
        have HG' := Lib.hid hg
        clear hb' hg hc0
        by_cases hq0 : q = 0
        · have hqb : (q != 0) = false := by rw [bne_eq_false_iff_eq]; exact hq0
          have HF : Hid (DivOk p (xs.drop (k + 1)) G) := HN.out p (by have := HG'.out; rw [hq0] at this; simpa using this)
          clear hq0
          go_wp2_with fail
          go_roundg (xs.length - (k + 1))
          case measure => omega
          case rel => exact ⟨k + 1, p, by omega, rfl, by go_num, rfl, HF.out, hp, HB'.out⟩
        · have hqb : (q != 0) = true := by rw [bne_iff_ne]; exact hq0
          have hqb' : (q == 0) = false := by rw [beq_eq_false_iff_ne]; exact hq0
          have hlt' := tmod_bd p q hq0
          have hw1 : IntKind.i64.wrap (p.tmod q) = p.tmod q := IntWalk.i64_in _ (by omega)
          have HM := Lib.hid hlt'
          have hbd : -4000000000000000000 ≤ p.tmod q ∧ p.tmod q ≤ 4000000000000000000 := by omega
          have HBD := Lib.hid hbd
          clear hlt' hbd
          go_wp2_with fail
          go_quiet (fail)
          go_wp2_with fail
          go_roundg (p.tmod q).natAbs
          case measure => exact HM.out
          case rel => exact ⟨q, p.tmod q, rfl, rfl, rfl, (gcd_tmod p q).trans HG'.out, hq, HBD.out, ⟨HB'.out.os, HB'.out.tape, HB'.out.output, HB'.out.size, HB'.out.block⟩⟩
    · clear hb
      obtain rfl : k = xs.length := by omega
      have hN : y.natAbs = G := by have := HD.out; unfold DivOk at this; simpa using this
      have hw1 : IntKind.i64.wrap (-y) = -y := IntWalk.i64_in _ (by omega)
      have HE : Hid (max y (-y) = (G : Int)) := by unfold Hid; omega
      clear hN
      go_wp2_with fail
      all_goals
        go_ret
        exact ⟨ret_int (by have := HE.out; omega), HB.out⟩
theorem fold2 (n d : Int) : ([n, d].foldl (fun g n => Nat.gcd g n.natAbs) 0) = Int.gcd n d := by
  simp only [List.foldl_cons, List.foldl_nil, Nat.gcd_zero_left]; rfl
set_option maxRecDepth 100000 in
set_option maxHeartbeats 1000000 in
theorem Lowest_any (n d : Int) (w : World) (hd : 0 < d) (hd' : d ≤ 2000000000000000000) (hn : -2000000000000000000 ≤ n ∧ n ≤ 2000000000000000000) :
    Calls Try.prog 109 #[.int .i64 n, .int .i64 d] w fun e w' => e = .returned (.agg #[.int .i64 (low n d).1, .int .i64 (low n d).2]) ∧ Below w.heap.size w w' := by
  have hgp : 0 < Int.gcd n d := Int.gcd_pos_of_ne_zero_right n (by omega)
  have hgn : (Int.gcd n d : Int) ∣ n := Int.gcd_dvd_left n d
  have hgd : (Int.gcd n d : Int) ∣ d := Int.gcd_dvd_right n d
  have HE := Lib.hid (And.intro (Int.tdiv_eq_ediv_of_dvd hgn) (Int.tdiv_eq_ediv_of_dvd hgd))
  have hgp' : (0 : Int) < (Int.gcd n d : Nat) := by omega
  have E : Hid (low n d = (n / (Int.gcd n d : Int), d / (Int.gcd n d : Int))) := (rfl : low n d = _)
  have HDv : Hid (∀ v w, Sl e1 1 w v [n, d] → Calls Try.prog 147 #[v] w fun e w' => e = .returned (.int .i64 (Int.gcd n d : Nat)) ∧ Below w.heap.size w w') := fun v w hs => by
    have := Divisor_any v [n, d] w hs (by simp) (by intro x hx; simp at hx; rcases hx with rfl | rfl <;> omega)
    rwa [fold2] at this
  have b1 := tdiv_bd n (Int.gcd n d : Int) _ (by omega) hn
  have b2 := tdiv_bd d (Int.gcd n d : Int) 2000000000000000000 (by omega) (by omega)
  obtain ⟨b1, b1'⟩ := b1
  obtain ⟨b2, b2'⟩ := b2
  clear hgp
  generalize ((Int.gcd n d : Nat) : Int) = G at *
  have hq : G ≠ 0 := by omega
  have hw1 : IntKind.i64.wrap (n.tdiv G) = n.tdiv G := IntWalk.i64_in _ (by omega)
  have hw2 : IntKind.i64.wrap (d.tdiv G) = d.tdiv G := IntWalk.i64_in _ (by omega)
  have H := Lib.hid (sl2 (w.alloc (.cells #[.int .i64 0, .int .i64 0] 75)) n d 3)
  clear hgn hgd hgp' b1 b1' b2 b2' hn
  go_enter Try.func109, Try.ntmps109
  go_wp2_with (go_at_call 147; refine (HDv.out _ _ (by simpa using H.out)).mono ?_; rintro e w1 ⟨rfl, hb1⟩)
  have R := fun j v hv => ((At.new w #[.int .i64 0, .int .i64 0] 75 j v hv).al (.cells #[.int .i64 n, .int .i64 d] 3)).below hb1
  have A0 := Lib.hid (R 0 _ rfl)
  have A1 := Lib.hid (R 1 _ rfl)
  obtain ⟨c0, f0⟩ := R 0 _ rfl
  obtain ⟨c1, f1⟩ := R 1 _ rfl
  have HB : Hid (Below w.heap.size w w1) := below_tr (below_al (below_alloc1 _ _) _) hb1
  clear R hb1
  go_still_tail 7, (by kernel_rfl)
  go_wp2_with fail
  obtain ⟨W5, hW5⟩ : ∃ W5, W5 = ((w1.setCell ⟨w.heap.size, 0, none⟩ (.int .i64 (n.tdiv G))).setCell ⟨w.heap.size, 1, none⟩ (.int .i64 (d.tdiv G))).drew := ⟨_, rfl⟩
  rw [← hW5]
  obtain ⟨s0, _⟩ : At W5 ⟨w.heap.size, 0, none⟩ (.int .i64 (n.tdiv G)) := by rw [hW5]; exact ((A0.out.set).other (by simp)).drew
  obtain ⟨s1, _⟩ : At W5 ⟨w.heap.size, 1, none⟩ (.int .i64 (d.tdiv G)) := by rw [hW5]; exact ((A1.out.other (by simp)).set).drew
  have HB5 : Below w.heap.size w W5 := by rw [hW5]; exact (below_set (below_set HB.out (by simp) _) (by simp) _).drew
  clear hW5
  (try simp only [Exit.inBlock, Exit.then])
  refine bodyPost_ret (v := .agg #[.int .i64 (n.tdiv G), .int .i64 (d.tdiv G)]) ?_ rfl ⟨by rw [HE.out.1, HE.out.2, E.out], HB5⟩
  rw [results_cell rfl]
  go_simp
end Go.Proofs.Ytghglgaimhfedaa

namespace Go.Proofs.Ytghglgaimhfedaa
open Go.RowKit Go.Shelf
attribute [local go_sem] monoUpon_value monoUpon_skip monoUpon_enter

def across (a b : Int × Int) : Int := a.1 * b.2 - b.1 * a.2
def bend (a b : Int × Int) : Int × Int := low (across a b * across a b) (sq a * sq b)
structure Fo (t : Int × Int) : Prop where
  x : -20000 ≤ t.1 ∧ t.1 ≤ 20000
  z : 0 < t.2 ∧ t.2 ≤ 20000
theorem sq_pos {t : Int × Int} (h : Fo t) : 0 < sq t ∧ sq t ≤ 800000000 := by
  have h1 := sq_bd t 20000 h.x ⟨by have := h.z; omega, h.z.2⟩
  have n1 : 0 ≤ t.1 * t.1 := by rcases Int.le_total 0 t.1 with h | h; exact Int.mul_nonneg h h; exact Int.mul_nonneg_of_nonpos_of_nonpos h h
  have n2 : 0 < t.2 * t.2 := Int.mul_pos h.z.1 h.z.1
  unfold sq at *
  omega
set_option maxRecDepth 100000 in
set_option maxHeartbeats 4000000 in
theorem bend_any (a b : Int × Int) (w : World) (ha : Fo a) (hb : Fo b) :
    Calls Try.prog 108 #[.agg #[.int .i64 a.1, .int .i64 a.2], .agg #[.int .i64 b.1, .int .i64 b.2]] w fun e w' => e = .returned (.agg #[.int .i64 (bend a b).1, .int .i64 (bend a b).2]) ∧ Below w.heap.size w w' := by
  have m1 := mul_bd a.1 b.2 20000 20000 ha.x ⟨by have := hb.z; omega, hb.z.2⟩
  have m2 := mul_bd b.1 a.2 20000 20000 hb.x ⟨by have := ha.z; omega, ha.z.2⟩
  have m3 := mul_bd (across a b) (across a b) 800000000 800000000 (by unfold across; omega) (by unfold across; omega)
  have sa := sq_pos ha
  have sb := sq_pos hb
  have m4 : 0 < sq a * sq b := Int.mul_pos sa.1 sb.1
  have m5 := mul_bd (sq a) (sq b) 800000000 800000000 (by omega) (by omega)
  have HQ := Lib.hid (fun w => square_any a w ⟨by have := ha.x; omega, by have := ha.x; omega⟩ ⟨by have := ha.z; omega, by have := ha.z; omega⟩)
  have HR := Lib.hid (fun w => square_any b w ⟨by have := hb.x; omega, by have := hb.x; omega⟩ ⟨by have := hb.z; omega, by have := hb.z; omega⟩)
  have HLo := Lib.hid (fun w => Lowest_any (across a b * across a b) (sq a * sq b) w m4 (by omega) ⟨by omega, by omega⟩)
  have E : Hid (bend a b = low (across a b * across a b) (sq a * sq b)) := (rfl : bend a b = _)
  have E2 : Hid (across a b = a.1 * b.2 - b.1 * a.2) := (rfl : across a b = _)
  have hw4 : IntKind.i64.wrap (across a b * across a b) = across a b * across a b := IntWalk.i64_in _ (by omega)
  have hw5 : IntKind.i64.wrap (sq a * sq b) = sq a * sq b := IntWalk.i64_in _ (by omega)
  have hw1 : IntKind.i64.wrap (a.1 * b.2) = a.1 * b.2 := IntWalk.i64_in _ (by omega)
  have hw2 : IntKind.i64.wrap (b.1 * a.2) = b.1 * a.2 := IntWalk.i64_in _ (by omega)
  have hw3 : IntKind.i64.wrap (a.1 * b.2 - b.1 * a.2) = across a b := by rw [← E2.out]; exact IntWalk.i64_in _ (by unfold across; omega)
  clear m1 m2 m3 m4 m5 sa sb ha hb
  generalize across a b = ac at *
  generalize sq a = qa at *
  generalize sq b = qb at *
  obtain ⟨a1, a2⟩ := a
  obtain ⟨b1, b2⟩ := b
  simp only at *
  go_enter Try.func108, Try.ntmps108
  go_wp2_with fail
  obtain ⟨W0, hW0⟩ : ∃ W0, W0 = ((w.alloc (.cells #[.int .i64 a1, .int .i64 a2] 23)).alloc (.cells #[.int .i64 b1, .int .i64 b2] 23)).alloc (.cells #[.int .i64 0, .int .i64 0] 75) := ⟨_, rfl⟩
  rw [← hW0]
  have z0 : W0.heap.size = w.heap.size + 3 := by rw [hW0]; simp
  have HB0 : Hid (Below w.heap.size w W0) := by rw [hW0]; exact below_al (below_al (below_alloc1 _ _) _) _
  obtain ⟨bx, by'⟩ := box2 w #[.int .i64 a1, .int .i64 a2] #[.int .i64 b1, .int .i64 b2] 23 23
  have R := fun j v h => At.new ((w.alloc (.cells #[.int .i64 a1, .int .i64 a2] 23)).alloc (.cells #[.int .i64 b1, .int .i64 b2] 23)) #[.int .i64 0, .int .i64 0] 75 j v h
  have er : ((w.alloc (.cells #[.int .i64 a1, .int .i64 a2] 23)).alloc (.cells #[.int .i64 b1, .int .i64 b2] 23)).heap.size = w.heap.size + 1 + 1 := by simp
  rw [er] at R
  have HX : Hid (∀ w1, Below W0.drew.heap.size W0.drew w1 → (At w1 ⟨w.heap.size, 0, none⟩ (.int .i64 a1) ∧ At w1 ⟨w.heap.size, 1, none⟩ (.int .i64 a2) ∧ At w1 ⟨w.heap.size + 1, 0, none⟩ (.int .i64 b1) ∧ At w1 ⟨w.heap.size + 1, 1, none⟩ (.int .i64 b2) ∧
      At w1 ⟨w.heap.size + 1 + 1, 0, none⟩ (.int .i64 0) ∧ At w1 ⟨w.heap.size + 1 + 1, 1, none⟩ (.int .i64 0))) := by
    intro w1 h1
    rw [hW0] at h1
    exact ⟨((bx 0 _ rfl).al _).drew.below h1, ((bx 1 _ rfl).al _).drew.below h1, ((by' 0 _ rfl).al _).drew.below h1, ((by' 1 _ rfl).al _).drew.below h1, (R 0 _ rfl).drew.below h1, (R 1 _ rfl).drew.below h1⟩
  clear bx by' R er hW0
  generalize hlo : low (ac * ac) (qa * qb) = lo at *
  clear hlo
  have HB1 : Hid (∀ w1, Below W0.drew.heap.size W0.drew w1 → Below w.heap.size w w1) := fun w1 h1 => below_tr HB0.out (Below.trans (Below.drew (Below.refl _ _)) h1)
  obtain ⟨⟨p0, _⟩, ⟨p1, _⟩, ⟨p2, _⟩, ⟨p3, _⟩, _, _⟩ := HX.out W0.drew (Below.refl _ _)
  go_wp2_with fail
  clear p0 p1 p2 p3
  refine wp_region_mono 9 [17, 18, 19, 20, 21, 22, 23, 24, 25] [[], [], [0, 1], [], [3], [], [5], [4, 6], [2, 7]] [fun v _ => v = .int .i64 ac, fun v _ => v = .int .i64 ac, fun v _ => v = .int .i64 (ac * ac), fun v _ => v = .agg #[.int .i64 a1, .int .i64 a2], fun v _ => v = .int .i64 qa, fun v _ => v = .agg #[.int .i64 b1, .int .i64 b2], fun v _ => v = .int .i64 qb, fun v _ => v = .int .i64 (qa * qb), fun v _ => v = .agg #[.int .i64 lo.1, .int .i64 lo.2]] (by kernel_rfl) (by kernel_rfl) ⟨st_eq _, st_eq _, st_eq _, st_eq _, st_eq _, st_eq _, st_eq _, st_eq _, st_eq _, trivial⟩ ?_ ?_
  · simp only [List.take_succ_cons, List.take_zero, steps, and_true]
    refine ⟨?_, ?_, ?_, ?_, ?_, ?_, ?_, ?_, ?_⟩
    · intro x W hB _; simp only [putX, setX, List.foldl_cons, List.foldl_nil]; refine ⟨?_⟩; go_simp; exact ⟨rfl, Below.refl _ _⟩
    · intro x W hB _; simp only [putX, setX, List.foldl_cons, List.foldl_nil]; refine ⟨?_⟩; go_simp; exact ⟨rfl, Below.refl _ _⟩
    · intro x W hB hN; simp only [needs, sAt, dAt] at hN; simp only [putX, setX, List.foldl_cons, List.foldl_nil]; refine ⟨?_⟩; go_simp; exact ⟨rfl, Below.refl _ _⟩
    · intro x W hB _; simp only [putX, setX, List.foldl_cons, List.foldl_nil]; obtain ⟨⟨p0, _⟩, ⟨p1, _⟩, ⟨p2, _⟩, ⟨p3, _⟩, _, _⟩ := HX.out W hB; refine ⟨?_⟩; go_simp; exact ⟨rfl, Below.refl _ _⟩
    · intro x W hB hN; simp only [needs, sAt, dAt] at hN; simp only [putX, setX, List.foldl_cons, List.foldl_nil]; refine ⟨?_⟩; go_simp; refine (HQ.out _).mono ?_; rintro e w' ⟨rfl, hb⟩; exact ⟨_, rfl, rfl, hb⟩
    · intro x W hB _; simp only [putX, setX, List.foldl_cons, List.foldl_nil]; obtain ⟨⟨p0, _⟩, ⟨p1, _⟩, ⟨p2, _⟩, ⟨p3, _⟩, _, _⟩ := HX.out W hB; refine ⟨?_⟩; go_simp; exact ⟨rfl, Below.refl _ _⟩
    · intro x W hB hN; simp only [needs, sAt, dAt] at hN; simp only [putX, setX, List.foldl_cons, List.foldl_nil]; refine ⟨?_⟩; go_simp; refine (HR.out _).mono ?_; rintro e w' ⟨rfl, hb⟩; exact ⟨_, rfl, rfl, hb⟩
    · intro x W hB hN; simp only [needs, sAt, dAt] at hN; simp only [putX, setX, List.foldl_cons, List.foldl_nil]; refine ⟨?_⟩; go_simp; exact ⟨rfl, Below.refl _ _⟩
    · intro x W hB hN; simp only [needs, sAt, dAt] at hN; simp only [putX, setX, List.foldl_cons, List.foldl_nil]; refine ⟨?_⟩; go_simp; refine (HLo.out _).mono ?_; rintro e w' ⟨rfl, hb⟩; exact ⟨_, rfl, rfl, hb⟩
  · intro x W hB hA
    simp only [allSp] at hA
    have q := hA.2.2.2.2.2.2.2.2.1
    clear hA
    have HA := Lib.hid (HX.out W hB)
    obtain ⟨_, _, _, _, ⟨c4, f4⟩, ⟨c5, f5⟩⟩ := HX.out W hB
    have HBW := Lib.hid (HB1.out W hB)
    simp only [putX, setX, List.foldl_cons, List.foldl_nil, List.drop_succ_cons, List.drop_zero]
    go_wp2_with fail
    obtain ⟨W5, hW5⟩ : ∃ W5, W5 = ((W.setCell ⟨w.heap.size + 1 + 1, 0, none⟩ (.int .i64 lo.1)).setCell ⟨w.heap.size + 1 + 1, 1, none⟩ (.int .i64 lo.2)) := ⟨_, rfl⟩
    rw [← hW5]
    obtain ⟨s0, _⟩ : At W5 ⟨w.heap.size + 1 + 1, 0, none⟩ (.int .i64 lo.1) := by rw [hW5]; exact ((HA.out.2.2.2.2.1.set).other (by simp))
    obtain ⟨s1, _⟩ : At W5 ⟨w.heap.size + 1 + 1, 1, none⟩ (.int .i64 lo.2) := by rw [hW5]; exact ((HA.out.2.2.2.2.2.other (by simp)).set)
    have HB5 : Below w.heap.size w W5 := by rw [hW5]; exact (below_set (below_set HBW.out (by show w.heap.size ≤ w.heap.size + 1 + 1; omega) _) (by show w.heap.size ≤ w.heap.size + 1 + 1; omega) _)
    clear hW5
    (try simp only [Exit.inBlock, Exit.then])
    refine bodyPost_ret (v := .agg #[.int .i64 lo.1, .int .i64 lo.2]) ?_ rfl ⟨by rw [E.out], HB5⟩
    rw [results_cell rfl]
    go_simp
end Go.Proofs.Ytghglgaimhfedaa

namespace Go.Proofs.Ytghglgaimhfedaa
open Go.RowKit Go.Shelf

namespace M64
theorem maskN (a : Nat) (ha : a < 18446744073709551616) : bits .and .u64 (a : Int) 4294967295 = ((a % 4294967296 : Nat) : Int) := by
  have h := bits_and_u64_nat a 4294967295 ha (by omega)
  have e : a &&& 4294967295 = a % 4294967296 := Nat.and_two_pow_sub_one_eq_mod a 32
  rw [e] at h
  exact h
theorem divN (a : Nat) : (a : Int) / 4294967296 = ((a / 4294967296 : Nat) : Int) := by omega
theorem mulN (a b : Nat) : (a : Int) * (b : Int) = ((a * b : Nat) : Int) := (Int.natCast_mul a b).symm
theorem addN (a b : Nat) : (a : Int) + (b : Int) = ((a + b : Nat) : Int) := (Int.natCast_add a b).symm
theorem wrapN (a : Nat) (ha : a < 18446744073709551616) : IntKind.u64.wrap (a : Int) = (a : Int) := by rw [IntKind.wrap_u64]; omega
theorem wrapM (a : Nat) : IntKind.u64.wrap (a : Int) = ((a % 18446744073709551616 : Nat) : Int) := by rw [IntKind.wrap_u64]; omega
end M64
set_option maxHeartbeats 1000000 in
theorem Mul64_any (x y : Nat) (hx : x < 18446744073709551616) (hy : y < 18446744073709551616) (w : World) :
    Calls Try.prog 148 #[.int .u64 x, .int .u64 y] w fun e w' => e = .returned (.tuple #[.int .u64 ((x * y / 18446744073709551616 : Nat) : Int), .int .u64 ((x * y % 18446744073709551616 : Nat) : Int)]) ∧ w = w' := by
  obtain ⟨bd, bt, bw, hhi⟩ := Lib.mul64_hi x y hx hy
  have ba := Lib.half_mul_le (a := x / 4294967296) (b := y / 4294967296) (by omega) (by omega)
  have bb := Lib.half_mul_le (a := x / 4294967296) (b := y % 4294967296) (by omega) (by omega)
  have bc := Lib.half_mul_le (a := x % 4294967296) (b := y / 4294967296) (by omega) (by omega)
  have ba' : x / 4294967296 * (y / 4294967296) < 18446744073709551616 := by omega
  have bb' : x / 4294967296 * (y % 4294967296) < 18446744073709551616 := by omega
  have bc' : x % 4294967296 * (y / 4294967296) < 18446744073709551616 := by omega
  have bh1 : x / 4294967296 * (y / 4294967296) + (x / 4294967296 * (y % 4294967296) + x % 4294967296 * (y % 4294967296) / 4294967296) / 4294967296 < 18446744073709551616 := by omega
  have bh : x / 4294967296 * (y / 4294967296) + (x / 4294967296 * (y % 4294967296) + x % 4294967296 * (y % 4294967296) / 4294967296) / 4294967296 + ((x / 4294967296 * (y % 4294967296) + x % 4294967296 * (y % 4294967296) / 4294967296) % 4294967296 + x % 4294967296 * (y / 4294967296)) / 4294967296 < 18446744073709551616 := by omega
  go_enter Try.func148, Try.ntmps148
  go_wp2_with fail
  simp only [M64.maskN x hx, M64.maskN y hy, M64.divN, M64.mulN, M64.addN, M64.wrapN _ bd, M64.wrapN _ bb', M64.wrapN _ bt, M64.maskN _ bt, M64.wrapN _ bc', M64.wrapN _ bw, M64.wrapN _ ba', M64.wrapN _ bh1, M64.wrapN _ bh, M64.wrapM (x * y)]
  rw [hhi]
  go_ret2
  exact ⟨rfl, by trivial⟩

end Go.Proofs.Ytghglgaimhfedaa

namespace Go.Proofs.Ytghglgaimhfedaa
open Go.RowKit Go.Shelf

/-- Is the first fraction greater? -/
def gtF (a b : Int × Int) : Bool := decide (b.1 * a.2 < a.1 * b.2)
theorem natMul_cast (x y : Int) (n m : Nat) (h1 : x = n) (h2 : y = m) : x * y = ((n * m / 18446744073709551616 : Nat) : Int) * 18446744073709551616 + ((n * m % 18446744073709551616 : Nat) : Int) ∧
    ((n * m % 18446744073709551616 : Nat) : Int) < 18446744073709551616 ∧ (0 : Int) ≤ ((n * m % 18446744073709551616 : Nat) : Int) := by
  subst h1; subst h2
  rw [← Int.natCast_mul]
  generalize n * m = k
  omega
theorem gtF_of (a1 a2 b1 b2 H1 L1 H2 L2 : Int) (e1 : a1 * b2 = H1 * 18446744073709551616 + L1) (e2 : b1 * a2 = H2 * 18446744073709551616 + L2) (l1 : L1 < 18446744073709551616 ∧ 0 ≤ L1) (l2 : L2 < 18446744073709551616 ∧ 0 ≤ L2) :
    (H2 < H1 ∨ (H1 = H2 ∧ L2 < L1) → gtF (a1, a2) (b1, b2) = true) ∧ (¬ (H2 < H1 ∨ (H1 = H2 ∧ L2 < L1)) → gtF (a1, a2) (b1, b2) = false) := by
  unfold gtF
  simp only [decide_eq_true_eq, decide_eq_false_iff_not]
  rw [e1, e2]
  omega
set_option maxRecDepth 100000 in
set_option maxHeartbeats 2000000 in
theorem greater_any (a b : Int × Int) (w : World) (h1 : 0 ≤ a.1 ∧ a.1 ≤ 4000000000000000000) (h2 : 0 ≤ a.2 ∧ a.2 ≤ 4000000000000000000) (h3 : 0 ≤ b.1 ∧ b.1 ≤ 4000000000000000000) (h4 : 0 ≤ b.2 ∧ b.2 ≤ 4000000000000000000) :
    Calls Try.prog 110 #[.agg #[.int .i64 a.1, .int .i64 a.2], .agg #[.int .i64 b.1, .int .i64 b.2]] w fun e w' => e = .returned (.bool (gtF a b)) ∧ Below w.heap.size w w' := by
  obtain ⟨a1, a2⟩ := a
  obtain ⟨b1, b2⟩ := b
  simp only at *
  obtain ⟨n1, hn1⟩ := Int.eq_ofNat_of_zero_le h1.1
  obtain ⟨n2, hn2⟩ := Int.eq_ofNat_of_zero_le h2.1
  obtain ⟨m1, hm1⟩ := Int.eq_ofNat_of_zero_le h3.1
  obtain ⟨m2, hm2⟩ := Int.eq_ofNat_of_zero_le h4.1
  have HM1 := Lib.hid (Mul64_any n1 m2 (by omega) (by omega))
  have HM2 := Lib.hid (Mul64_any m1 n2 (by omega) (by omega))
  obtain ⟨e1, l1, l1'⟩ := natMul_cast a1 b2 n1 m2 hn1 hm2
  obtain ⟨e2, l2, l2'⟩ := natMul_cast b1 a2 m1 n2 hm1 hn2
  have hw1 : IntKind.u64.wrap a1 = a1 := by rw [IntKind.wrap_u64]; omega
  have hw2 : IntKind.u64.wrap a2 = a2 := by rw [IntKind.wrap_u64]; omega
  have hw3 : IntKind.u64.wrap b1 = b1 := by rw [IntKind.wrap_u64]; omega
  have hw4 : IntKind.u64.wrap b2 = b2 := by rw [IntKind.wrap_u64]; omega
  rw [← hn1, ← hm2] at HM1
  rw [← hm1, ← hn2] at HM2
  clear hn1 hn2 hm1 hm2 h1 h2 h3 h4
  generalize ((n1 * m2 / 18446744073709551616 : Nat) : Int) = H1 at *
  generalize ((n1 * m2 % 18446744073709551616 : Nat) : Int) = L1 at *
  generalize ((m1 * n2 / 18446744073709551616 : Nat) : Int) = H2 at *
  generalize ((m1 * n2 % 18446744073709551616 : Nat) : Int) = L2 at *
  have hg := gtF_of a1 a2 b1 b2 H1 L1 H2 L2 e1 e2 ⟨l1, l1'⟩ ⟨l2, l2'⟩
  have yes := Lib.hid hg.1
  have no := Lib.hid hg.2
  clear hg e1 e2 l1 l1' l2 l2'
  have bx := Lib.hid (box2 w #[.int .i64 a1, .int .i64 a2] #[.int .i64 b1, .int .i64 b2] 75 75)
  by_cases c1 : H2 < H1
  · have E := Lib.hid (yes.out (.inl c1))
    go_enter Try.func110, Try.ntmps110
    go_wp2_with (first
      | (go_at_call_of 148 a1; refine (HM1.out _).mono ?_; rintro e w' ⟨rfl, rfl⟩)
      | (go_at_call_of 148 b1; refine (HM2.out _).mono ?_; rintro e w' ⟨rfl, rfl⟩))
    go_ret
    exact ⟨ret_bool E.out.symm, (by repeat (first | assumption | exact Below.refl _ _ | refine below_al ?_ _ | refine below_dr ?_ | refine below_tr ?_ (by assumption)))⟩
  · by_cases c2 : H1 = H2
    · by_cases c3 : L2 < L1
      · have E := Lib.hid (yes.out (.inr ⟨c2, c3⟩))
        have c2' : (H1 == H2) = true := by rw [beq_iff_eq]; exact c2
        clear c2
        go_enter Try.func110, Try.ntmps110
        go_wp2_with (first
          | (go_at_call_of 148 a1; refine (HM1.out _).mono ?_; rintro e w' ⟨rfl, rfl⟩)
          | (go_at_call_of 148 b1; refine (HM2.out _).mono ?_; rintro e w' ⟨rfl, rfl⟩))
        go_ret
        exact ⟨ret_bool E.out.symm, (by repeat (first | assumption | exact Below.refl _ _ | refine below_al ?_ _ | refine below_dr ?_ | refine below_tr ?_ (by assumption)))⟩
      · have E := Lib.hid (no.out (fun h => by omega))
        have c2' : (H1 == H2) = true := by rw [beq_iff_eq]; exact c2
        clear c2
        go_enter Try.func110, Try.ntmps110
        go_wp2_with (first
          | (go_at_call_of 148 a1; refine (HM1.out _).mono ?_; rintro e w' ⟨rfl, rfl⟩)
          | (go_at_call_of 148 b1; refine (HM2.out _).mono ?_; rintro e w' ⟨rfl, rfl⟩))
        go_ret
        exact ⟨ret_bool (by rw [E.out]; simp [c1, c3]), (by repeat (first | assumption | exact Below.refl _ _ | refine below_al ?_ _ | refine below_dr ?_ | refine below_tr ?_ (by assumption)))⟩
    · have E := Lib.hid (no.out (fun h => by omega))
      have c2' : (H1 == H2) = false := by rw [beq_eq_false_iff_ne]; exact c2
      clear c2
      go_enter Try.func110, Try.ntmps110
      go_wp2_with (first
        | (go_at_call_of 148 a1; refine (HM1.out _).mono ?_; rintro e w' ⟨rfl, rfl⟩)
        | (go_at_call_of 148 b1; refine (HM2.out _).mono ?_; rintro e w' ⟨rfl, rfl⟩))
      go_ret
      exact ⟨ret_bool (by rw [E.out]; simp [c1]), (by repeat (first | assumption | exact Below.refl _ _ | refine below_al ?_ _ | refine below_dr ?_ | refine below_tr ?_ (by assumption)))⟩
end Go.Proofs.Ytghglgaimhfedaa
