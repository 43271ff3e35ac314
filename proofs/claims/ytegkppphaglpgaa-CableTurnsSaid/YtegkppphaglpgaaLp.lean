/-
  Walks of chapter 1's squares and fractions in lowest terms.
-/
import Derived.Test.YtegkppphaglpgaaLo
import Derived.Deep.LoopGhost
namespace Go.Proofs.Ytegkppphaglpgaa
open Go.RowKit Go.Shelf

def sq (t : Int × Int) : Int := t.1 * t.1 + t.2 * t.2
theorem sq_bd (t : Int × Int) (B : Int) (h1 : -B ≤ t.1 ∧ t.1 ≤ B) (h2 : -B ≤ t.2 ∧ t.2 ≤ B) : 0 ≤ sq t ∧ sq t ≤ 2 * (B * B) := by
  have m1 := mul_bd t.1 t.1 B B h1 h1
  have m2 := mul_bd t.2 t.2 B B h2 h2
  have n1 : 0 ≤ t.1 * t.1 := by rcases Int.le_total 0 t.1 with h | h; exact Int.mul_nonneg h h; exact Int.mul_nonneg_of_nonpos_of_nonpos h h
  have n2 : 0 ≤ t.2 * t.2 := by rcases Int.le_total 0 t.2 with h | h; exact Int.mul_nonneg h h; exact Int.mul_nonneg_of_nonpos_of_nonpos h h
  unfold sq
  generalize B * B = M at *
  omega
theorem square_any (t : Int × Int) (w : World) (h1 : -1000000 ≤ t.1 ∧ t.1 ≤ 1000000) (h2 : -1000000 ≤ t.2 ∧ t.2 ≤ 1000000) :
    Calls Try.prog 101 #[.agg #[.int .i64 t.1, .int .i64 t.2]] w fun e w' => e = .returned (.int .i64 (sq t)) ∧ Below w.heap.size w w' := by
  have m1 := mul_bd t.1 t.1 1000000 1000000 h1 h1
  have m2 := mul_bd t.2 t.2 1000000 1000000 h2 h2
  have hw1 : IntKind.i64.wrap (t.1 * t.1) = t.1 * t.1 := IntWalk.i64_in _ (by omega)
  have hw2 : IntKind.i64.wrap (t.2 * t.2) = t.2 * t.2 := IntWalk.i64_in _ (by omega)
  have hw3 : IntKind.i64.wrap (t.1 * t.1 + t.2 * t.2) = t.1 * t.1 + t.2 * t.2 := IntWalk.i64_in _ (by omega)
  have E : Hid (sq t = t.1 * t.1 + t.2 * t.2) := (rfl : sq t = _)
  obtain ⟨t1, t2⟩ := t
  simp only at *
  go_enter Try.func101, Try.ntmps101
  go_wp2_with fail
  go_ret
  exact ⟨ret_int E.out.symm, below_alloc1 _ _⟩

/-- A fraction in lowest terms. -/
def low (n d : Int) : Int × Int := (n / (Int.gcd n d : Int), d / (Int.gcd n d : Int))
theorem gcd_step (a b : Int) : Int.gcd b (a.tmod b) = Int.gcd a b := by
  rw [Int.gcd_eq_natAbs_gcd_natAbs, Int.gcd_eq_natAbs_gcd_natAbs, Int.natAbs_tmod, Nat.gcd_comm b.natAbs, ← Nat.gcd_rec, Nat.gcd_comm]
theorem tmod_bd (a b : Int) (hb : b ≠ 0) : (a.tmod b).natAbs < b.natAbs := by
  rw [Int.natAbs_tmod]
  exact Nat.mod_lt _ (by omega)
theorem natAbs_zero_gcd (x : Int) : Int.gcd x 0 = x.natAbs := Int.gcd_zero_right x
def DivOk (b : Int) (xs : List Int) (G : Nat) : Prop := xs.foldl (fun g n => Nat.gcd g n.natAbs) b.natAbs = G
theorem DivOk.step {b : Int} {xs : List Int} {k : Nat} {G : Nat} (h : k < xs.length) (hd : DivOk b (xs.drop k) G) {c : Int} (hc : c.natAbs = Nat.gcd b.natAbs (xs[k]).natAbs) : DivOk c (xs.drop (k + 1)) G := by
  unfold DivOk at *
  rw [List.drop_eq_getElem_cons h, List.foldl_cons] at hd
  rw [hc]; exact hd
theorem gcd_tmod (a b : Int) : Nat.gcd b.natAbs (a.tmod b).natAbs = Nat.gcd a.natAbs b.natAbs := by
  rw [Int.natAbs_tmod, Nat.gcd_comm b.natAbs, ← Nat.gcd_rec, Nat.gcd_comm]
set_option maxRecDepth 100000 in
set_option maxHeartbeats 2000000 in
theorem Divisor_any (v : Value) (xs : List Int) (w : World) (hs : Sl e1 1 w v xs) (hn : xs.length ≤ 1000000) (hx : ∀ x ∈ xs, -4000000000000000000 ≤ x ∧ x ≤ 4000000000000000000) :
    Calls Try.prog 145 #[v] w fun e w' => e = .returned (.int .i64 (xs.foldl (fun g n => Nat.gcd g n.natAbs) 0 : Nat)) ∧ Below w.heap.size w w' := by
  obtain ⟨A, c, rfl, hcap⟩ := hs.form
  have HS := Lib.hid hs
  have HX := Lib.hid hx
  clear hs hx
  generalize hG : xs.foldl (fun g n => Nat.gcd g n.natAbs) 0 = G
  have HG : Hid (DivOk 0 xs G) := hG
  clear hG
  go_enter Try.func145, Try.ntmps145
  go_wp2_with fail
  go_loopg [3, 5, 8] xs.length (fun g b _ i wr => ∃ (k : Nat) (y : Int), k ≤ xs.length ∧ g = xs.length - k ∧ i = .int .i64 k ∧ b = .int .i64 y ∧ DivOk y (xs.drop k) G ∧ (-4000000000000000000 ≤ y ∧ y ≤ 4000000000000000000) ∧ Below w.heap.size w wr)
  case atStart => exact ⟨0, 0, Nat.zero_le _, rfl, rfl, rfl, HG.out, by omega, Below.refl _ _⟩
  case round =>
    obtain ⟨k, y, hk, rfl, rfl, rfl, hd, hy, hb⟩ := hrel
    have HD := Lib.hid hd
    have HB := Lib.hid hb
    clear hd
    by_cases hlt : k < xs.length
    · obtain ⟨b, off, rfl, hbl, hc0⟩ := (HS.out.below hb).at1 hlt
      have hm := HX.out xs[k] (List.getElem_mem _)
      have HN : Hid (∀ c : Int, c.natAbs = Nat.gcd y.natAbs (xs[k]).natAbs → DivOk c (xs.drop (k + 1)) G) := fun c hc => HD.out.step hlt hc
      generalize xs[k] = n at *
      clear hb
      go_wp2_with fail
      go_loopg [3, 5] n.natAbs (fun g u z wr' => ∃ p q : Int, u = .int .i64 p ∧ z = .int .i64 q ∧ g = q.natAbs ∧ Nat.gcd p.natAbs q.natAbs = Nat.gcd y.natAbs n.natAbs ∧ (-4000000000000000000 ≤ p ∧ p ≤ 4000000000000000000) ∧ (-4000000000000000000 ≤ q ∧ q ≤ 4000000000000000000) ∧ Below w.heap.size w wr')
      case atStart => exact ⟨y, n, rfl, rfl, rfl, rfl, hy, hm, HB.out⟩
      case round =>
        obtain ⟨p, q, rfl, rfl, rfl, hg, hp, hq, hb'⟩ := hrel
        have HB' := Lib.hid hb'
        have HG' := Lib.hid hg
        clear hb' hg hc0
        by_cases hq0 : q = 0
        · have hqb : (q != 0) = false := by rw [bne_eq_false_iff_eq]; exact hq0
          have HF : Hid (DivOk p (xs.drop (k + 1)) G) := HN.out p (by have := HG'.out; rw [hq0] at this; simpa using this)
          clear hq0
          go_wp2_with fail
          go_roundg (xs.length - (k + 1))
          case measure => omega
          case rel => exact ⟨k + 1, p, by omega, rfl, by go_num, rfl, HF.out, hp, HB'.out⟩
        · have hqb : (q != 0) = true := by rw [bne_iff_ne]; exact hq0
          have hqb' : (q == 0) = false := by rw [beq_eq_false_iff_ne]; exact hq0
          have hlt' := tmod_bd p q hq0
          have hw1 : IntKind.i64.wrap (p.tmod q) = p.tmod q := IntWalk.i64_in _ (by omega)
          have HM := Lib.hid hlt'
          have hbd : -4000000000000000000 ≤ p.tmod q ∧ p.tmod q ≤ 4000000000000000000 := by omega
          have HBD := Lib.hid hbd
          clear hlt' hbd
          go_wp2_with fail
          go_quiet (fail)
          go_wp2_with fail
          go_roundg (p.tmod q).natAbs
          case measure => exact HM.out
          case rel => exact ⟨q, p.tmod q, rfl, rfl, rfl, (gcd_tmod p q).trans HG'.out, hq, HBD.out, ⟨HB'.out.os, HB'.out.tape, HB'.out.output, HB'.out.size, HB'.out.block⟩⟩
    · clear hb
      obtain rfl : k = xs.length := by omega
      have hN : y.natAbs = G := by have := HD.out; unfold DivOk at this; simpa using this
      have hw1 : IntKind.i64.wrap (-y) = -y := IntWalk.i64_in _ (by omega)
      have HE : Hid (max y (-y) = (G : Int)) := by unfold Hid; omega
      clear hN
      go_wp2_with fail
      all_goals
        go_ret
        exact ⟨ret_int (by have := HE.out; omega), HB.out⟩
theorem fold2 (n d : Int) : ([n, d].foldl (fun g n => Nat.gcd g n.natAbs) 0) = Int.gcd n d := by
  simp only [List.foldl_cons, List.foldl_nil, Nat.gcd_zero_left]; rfl
set_option maxRecDepth 100000 in
set_option maxHeartbeats 1000000 in
theorem Lowest_any (n d : Int) (w : World) (hd : 0 < d) (hd' : d ≤ 2000000000000000000) (hn : -2000000000000000000 ≤ n ∧ n ≤ 2000000000000000000) :
    Calls Try.prog 108 #[.int .i64 n, .int .i64 d] w fun e w' => e = .returned (.agg #[.int .i64 (low n d).1, .int .i64 (low n d).2]) ∧ Below w.heap.size w w' := by
  have hgp : 0 < Int.gcd n d := Int.gcd_pos_of_ne_zero_right n (by omega)
  have hgn : (Int.gcd n d : Int) ∣ n := Int.gcd_dvd_left n d
  have hgd : (Int.gcd n d : Int) ∣ d := Int.gcd_dvd_right n d
  have HE := Lib.hid (And.intro (Int.tdiv_eq_ediv_of_dvd hgn) (Int.tdiv_eq_ediv_of_dvd hgd))
  have hgp' : (0 : Int) < (Int.gcd n d : Nat) := by omega
  have E : Hid (low n d = (n / (Int.gcd n d : Int), d / (Int.gcd n d : Int))) := (rfl : low n d = _)
  have HDv : Hid (∀ v w, Sl e1 1 w v [n, d] → Calls Try.prog 145 #[v] w fun e w' => e = .returned (.int .i64 (Int.gcd n d : Nat)) ∧ Below w.heap.size w w') := fun v w hs => by
    have := Divisor_any v [n, d] w hs (by simp) (by intro x hx; simp at hx; rcases hx with rfl | rfl <;> omega)
    rwa [fold2] at this
  have b1 := tdiv_bd n (Int.gcd n d : Int) _ (by omega) hn
  have b2 := tdiv_bd d (Int.gcd n d : Int) 2000000000000000000 (by omega) (by omega)
  obtain ⟨b1, b1'⟩ := b1
  obtain ⟨b2, b2'⟩ := b2
  clear hgp
  generalize ((Int.gcd n d : Nat) : Int) = G at *
  have hq : G ≠ 0 := by omega
  have hw1 : IntKind.i64.wrap (n.tdiv G) = n.tdiv G := IntWalk.i64_in _ (by omega)
  have hw2 : IntKind.i64.wrap (d.tdiv G) = d.tdiv G := IntWalk.i64_in _ (by omega)
  have H := Lib.hid (sl2 (w.alloc (.cells #[.int .i64 0, .int .i64 0] 75)) n d 3)
  clear hgn hgd hgp' b1 b1' b2 b2' hn
  go_enter Try.func108, Try.ntmps108
  go_wp2_with (go_at_call 145; refine (HDv.out _ _ (by simpa using H.out)).mono ?_; rintro e w1 ⟨rfl, hb1⟩)
  have R := fun j v hv => ((At.new w #[.int .i64 0, .int .i64 0] 75 j v hv).al (.cells #[.int .i64 n, .int .i64 d] 3)).below hb1
  have A0 := Lib.hid (R 0 _ rfl)
  have A1 := Lib.hid (R 1 _ rfl)
  obtain ⟨c0, f0⟩ := R 0 _ rfl
  obtain ⟨c1, f1⟩ := R 1 _ rfl
  have HB : Hid (Below w.heap.size w w1) := below_tr (below_al (below_alloc1 _ _) _) hb1
  clear R hb1
  go_still_tail 7, (by kernel_rfl)
  go_wp2_with fail
  obtain ⟨W5, hW5⟩ : ∃ W5, W5 = ((w1.setCell ⟨w.heap.size, 0, none⟩ (.int .i64 (n.tdiv G))).setCell ⟨w.heap.size, 1, none⟩ (.int .i64 (d.tdiv G))).drew := ⟨_, rfl⟩
  rw [← hW5]
  obtain ⟨s0, _⟩ : At W5 ⟨w.heap.size, 0, none⟩ (.int .i64 (n.tdiv G)) := by rw [hW5]; exact ((A0.out.set).other (by simp)).drew
  obtain ⟨s1, _⟩ : At W5 ⟨w.heap.size, 1, none⟩ (.int .i64 (d.tdiv G)) := by rw [hW5]; exact ((A1.out.other (by simp)).set).drew
  have HB5 : Below w.heap.size w W5 := by rw [hW5]; exact (below_set (below_set HB.out (by simp) _) (by simp) _).drew
  clear hW5
  (try simp only [Exit.inBlock, Exit.then])
  refine bodyPost_ret (v := .agg #[.int .i64 (n.tdiv G), .int .i64 (d.tdiv G)]) ?_ rfl ⟨by rw [HE.out.1, HE.out.2, E.out], HB5⟩
  rw [results_cell rfl]
  go_simp
end Go.Proofs.Ytegkppphaglpgaa
