/-
  Walks of chapter 1's reference: the layback.
-/
import Derived.Test.YtghglgaimhfedaaZNg
import Derived.Test.YtghglgaimhfedaaZKo
namespace Go.Proofs.Ytghglgaimhfedaa
open Go.RowKit Go.Shelf
attribute [local go_sem] monoUpon_value monoUpon_skip monoUpon_enter

/-- The sums of fractions, each rounded down, and up. -/
def layF (xs : List (Int × Int)) : Int × Int := xs.foldl (fun s q => (s.1 + q.1 / q.2, s.2 + -(-q.1 / q.2))) (0, 0)
theorem layF_snoc (xs : List (Int × Int)) (q : Int × Int) : layF (xs ++ [q]) = ((layF xs).1 + q.1 / q.2, (layF xs).2 + -(-q.1 / q.2)) := by
  unfold layF; rw [List.foldl_append]; rfl
structure OfOk (q : Int × Int) : Prop where
  n0 : -20000000 ≤ q.1
  n1 : q.1 ≤ 20000000
  d0 : 0 < q.2
  d1 : q.2 ≤ 20000
theorem div_in {n d : Int} (hd : 0 < d) (h : -20000000 ≤ n ∧ n ≤ 20000000) : -20000000 ≤ n / d ∧ n / d ≤ 20000000 := by
  have h1 := Int.ediv_le_ediv hd (show n ≤ 20000000 by omega)
  have h2 := Int.ediv_le_ediv hd (show -20000000 ≤ n by omega)
  have h5 : (20000000 : Int) / d ≤ 20000000 := Int.ediv_le_self _ (by omega)
  have h6 : (-20000000 : Int) ≤ -20000000 / d := by
    rw [Int.le_ediv_iff_mul_le hd]
    have : (-20000000 : Int) * d ≤ -20000000 * 1 := Int.mul_le_mul_of_nonpos_left (by omega) (by omega)
    omega
  omega
theorem layF_bd (os : List (Int × Int)) (h : ∀ q ∈ os, OfOk q) : ∀ k, k ≤ os.length → (-(20000000 * (k : Int)) ≤ (layF (os.take k)).1 ∧ (layF (os.take k)).1 ≤ 20000000 * (k : Int)) ∧ (-(20000000 * (k : Int)) ≤ (layF (os.take k)).2 ∧ (layF (os.take k)).2 ≤ 20000000 * (k : Int))
  | 0, _ => by simp [layF]
  | k + 1, hk => by
    have ih := layF_bd os h k (by omega)
    have hq := h os[k] (List.getElem_mem _)
    rw [List.take_succ_eq_append_getElem (by omega : k < os.length), layF_snoc]
    have d1 := div_in hq.d0 ⟨hq.n0, hq.n1⟩
    have d2 := div_in (n := -(os[k]).1) hq.d0 ⟨by have := hq.n1; omega, by have := hq.n0; omega⟩
    simp only
    generalize layF (os.take k) = s at *
    generalize (os[k]).1 / (os[k]).2 = u at *
    generalize -(os[k]).1 / (os[k]).2 = v at *
    omega
theorem offs_ok {l : Ln} {c : List Int} (hl : LnOk l) (hb : BoxOk l (still c)) (hz : ∀ p ∈ pulls l (still c), 0 < p.z) : ∀ q ∈ offs l c, OfOk q := by
  intro q hq
  unfold offs at hq
  obtain ⟨p, hp, rfl⟩ := List.mem_map.1 hq
  have hk := pulls_ok hl hb p hp
  have hz' := hz p hp
  have hm := lo_bd hk
  have hg : (0 : Int) < (Int.gcd (p.h * p.lo) p.z : Int) := by have := Int.gcd_pos_of_ne_zero_right (p.h * p.lo) (show p.z ≠ 0 by omega); omega
  have d2 : p.z / (Int.gcd (p.h * p.lo) p.z : Int) ≤ p.z := Int.ediv_le_self _ (by omega)
  have d1 := div_in hg hm
  unfold loP low
  exact ⟨d1.1, d1.2, Int.ediv_pos_of_pos_of_dvd hz' (by omega) (Int.gcd_dvd_right _ _), by have := hk.z1; show _ / _ ≤ _; omega⟩
set_option maxRecDepth 100000 in
set_option maxHeartbeats 2000000 in
theorem rLayback_any (v u : Value) (l : Ln) (cu : List Int) (w : World) (hs : Sl e3 3 w v l.ks) (hu : Sl e1 1 w u cu) (hl : LnOk l) (hc : CuOk l cu) (hz : ∀ t ∈ tens l cu, 0 < t.2) (hok : ∀ q ∈ offs l cu, OfOk q) :
    Calls Try.prog 49 #[.agg #[.int .i64 l.x, .int .i64 l.z, v], u] w fun e w' => e = .returned (.agg #[.int .i64 (layF (offs l cu)).1, .int .i64 (layF (offs l cu)).2]) ∧ Below w.heap.size w w' := by
  have HT := Lib.hid (fun w' (hw : Below w.heap.size w w') => rOffsets_any v u l cu w' (hs.below hw) (hu.below hw) hl hc hz)
  obtain ⟨A, c, rfl, hcap⟩ := hs.form
  obtain ⟨A', c', rfl, hcap'⟩ := hu.form
  have hn10 : (offs l cu).length ≤ 10 := by rw [offs_len l cu hc.len]; exact hl.n1
  have HBD := Lib.hid (layF_bd _ hok)
  have HOK := Lib.hid hok
  clear hs hu hl hc hz hok hcap hcap'
  generalize offs l cu = os at *
  obtain ⟨W0, hW0⟩ : ∃ W0, W0 = ((w.alloc (.cells #[.int .i64 l.x, .int .i64 l.z, .slice A l.ks.length c] 26)).alloc (.cells #[.int .i64 0, .int .i64 0] 66)).alloc (.cells #[.int .i64 0, .int .i64 0] 66) := ⟨_, rfl⟩
  have HB0 : Hid (Below w.heap.size w W0) := by rw [hW0]; exact below_al (below_al (below_alloc1 _ _) _) _
  have z0 : W0.heap.size = w.heap.size + 3 := by rw [hW0]; simp
  have HZ0 : Hid ((At W0 ⟨w.heap.size + 1, 0, none⟩ (.int .i64 0) ∧ At W0 ⟨w.heap.size + 1, 1, none⟩ (.int .i64 0)) ∧ At W0 ⟨w.heap.size + 1 + 1, 0, none⟩ (.int .i64 0) ∧ At W0 ⟨w.heap.size + 1 + 1, 1, none⟩ (.int .i64 0)) := by
    rw [hW0]
    have h := box2 (w.alloc (.cells #[.int .i64 l.x, .int .i64 l.z, .slice A l.ks.length c] 26)) #[Value.int .i64 0, .int .i64 0] #[Value.int .i64 0, .int .i64 0] 66 66
    have e : (w.alloc (.cells #[.int .i64 l.x, .int .i64 l.z, .slice A l.ks.length c] 26)).heap.size = w.heap.size + 1 := by simp
    rw [e] at h
    exact ⟨⟨h.1 0 _ rfl, h.1 1 _ rfl⟩, h.2 0 _ rfl, h.2 1 _ rfl⟩
  have HL0 : ∀ (j : Nat) (u : Value), #[Value.int .i64 l.x, .int .i64 l.z, .slice A l.ks.length c][j]? = some u → W0.cell? ⟨w.heap.size, j, none⟩ = some u := by
    intro j u h
    rw [hW0]; exact (((At.new w #[.int .i64 l.x, .int .i64 l.z, .slice A l.ks.length c] 26 j u h).al _).al _).1
  have p0 := HL0 0 _ rfl
  have p1 := HL0 1 _ rfl
  have p2 := HL0 2 _ rfl
  clear HL0
  go_enter Try.func49, Try.ntmps49
  go_wp2_with (first
    | (rw [← hW0]; clear hW0)
    | (go_at_call 48; refine (HT.out _ HB0.out).mono ?_; rintro e w2 ⟨r, rfl, ho, hb2⟩; obtain ⟨Ab, ct, rfl, hct⟩ := (ho.sl e2_len).form; have HO := Lib.hid ho; have HB2 := Lib.hid hb2; clear ho hb2))
  have HR2 : Hid ((At w2 ⟨w.heap.size + 1, 0, none⟩ (.int .i64 0) ∧ At w2 ⟨w.heap.size + 1, 1, none⟩ (.int .i64 0)) ∧ At w2 ⟨w.heap.size + 1 + 1, 0, none⟩ (.int .i64 0) ∧ At w2 ⟨w.heap.size + 1 + 1, 1, none⟩ (.int .i64 0)) :=
    ⟨⟨HZ0.out.1.1.below HB2.out, HZ0.out.1.2.below HB2.out⟩, HZ0.out.2.1.below HB2.out, HZ0.out.2.2.below HB2.out⟩
  go_loopw [7] (fun i wr => ∃ k : Nat, k ≤ os.length ∧ i = .int .i64 k ∧ ((At wr ⟨w.heap.size + 1 + 1, 0, none⟩ (.int .i64 (layF (os.take k)).1) ∧ At wr ⟨w.heap.size + 1 + 1, 1, none⟩ (.int .i64 (layF (os.take k)).2)) ∧ (At wr ⟨w.heap.size + 1, 0, none⟩ (.int .i64 0) ∧ At wr ⟨w.heap.size + 1, 1, none⟩ (.int .i64 0)) ∧ Ow e2 2 75 W0.heap.size wr (.slice Ab os.length ct) os ∧ Below w.heap.size w wr)) (fun i _ => os.length - (intOf i).toNat)
  case atStart => exact ⟨0, Nat.zero_le _, rfl, ⟨HR2.out.2.1, HR2.out.2.2⟩, HR2.out.1, HO.out, below_tr HB0.out HB2.out⟩
  case round =>
    obtain ⟨k, hk, rfl, hrest⟩ := hrel
    have HR := Lib.hid hrest
    clear hrest
    by_cases hlt : k < os.length
    · have hsn := layF_snoc (os.take k) os[k]
      rw [← List.take_succ_eq_append_getElem hlt] at hsn
      have HSN := Lib.hid hsn
      have hbd := HBD.out k hk
      have hq := HOK.out os[k] (List.getElem_mem _)
      have HF1 := Lib.hid (fun w => Floor_any (os[k]).1 (os[k]).2 w hq.d0 (by have := hq.d1; omega) ⟨by have := hq.n0; omega, by have := hq.n1; omega⟩)
      have HF2 := Lib.hid (fun w => Ceil_any (os[k]).1 (os[k]).2 w hq.d0 (by have := hq.d1; omega) ⟨by have := hq.n0; omega, by have := hq.n1; omega⟩)
      have d1 := div_in hq.d0 ⟨hq.n0, hq.n1⟩
      have d2 := div_in (n := -(os[k]).1) hq.d0 ⟨by have := hq.n1; omega, by have := hq.n0; omega⟩
      obtain ⟨bt, ot, rfl, _, _⟩ := (HR.out.2.2.1.sl e2_len).at2 (k := k) hlt
      have HAT := Lib.hid (fun W (h : Ow e2 2 75 W0.heap.size W (.slice (some ⟨bt, ot, none⟩) os.length ct) os) => (h.sl e2_len).at2 (k := k) hlt)
      have hkl : (k : Int) < (os.length : Int) := by omega
      have hk0 : (0 : Int) ≤ (k : Int) := by omega
      clear hsn hq
      generalize os[k] = q at *
      generalize layF (os.take k) = s at *
      obtain ⟨a1, a2⟩ := q
      obtain ⟨s1, s2⟩ := s
      simp only at *
      have hw1 : IntKind.i64.wrap (s1 + a1 / a2) = s1 + a1 / a2 := IntWalk.i64_in _ (by omega)
      have hw2 : IntKind.i64.wrap (s2 + -(-a1 / a2)) = s2 + -(-a1 / a2) := IntWalk.i64_in _ (by omega)
      clear hbd d1 d2
      generalize a1 / a2 = fl at *
      generalize -(-a1 / a2) = cl at *
      obtain ⟨I, hI0, HI0, HIX, HST, HIT⟩ : ∃ I : Bool → World → Prop, I false wr.drew ∧ Hid (∀ W, I false W → At W ⟨w.heap.size + 1 + 1, 0, none⟩ (.int .i64 s1) ∧ At W ⟨w.heap.size + 1 + 1, 1, none⟩ (.int .i64 s2)) ∧
          Hid (∀ b W, I b W → W.cell? ⟨bt, ot + k * 2, none⟩ = some (.int .i64 a1) ∧ W.cell? ⟨bt, ot + k * 2 + 1, none⟩ = some (.int .i64 a2)) ∧
          Hid (∀ W, I false W → I true (W.setCell ⟨w.heap.size + 1 + 1, 0, none⟩ (.int .i64 (s1 + fl)))) ∧
          Hid (∀ W, I true W → (At W ⟨w.heap.size + 1 + 1, 0, none⟩ (.int .i64 (s1 + fl)) ∧ At W ⟨w.heap.size + 1 + 1, 1, none⟩ (.int .i64 s2)) ∧ (At W ⟨w.heap.size + 1, 0, none⟩ (.int .i64 0) ∧ At W ⟨w.heap.size + 1, 1, none⟩ (.int .i64 0)) ∧ Ow e2 2 75 W0.heap.size W (.slice (some ⟨bt, ot, none⟩) os.length ct) os ∧ Below w.heap.size w W) := by
        refine ⟨fun b W => (At W ⟨w.heap.size + 1 + 1, 0, none⟩ (.int .i64 (cond b (s1 + fl) s1)) ∧ At W ⟨w.heap.size + 1 + 1, 1, none⟩ (.int .i64 s2)) ∧ (At W ⟨w.heap.size + 1, 0, none⟩ (.int .i64 0) ∧ At W ⟨w.heap.size + 1, 1, none⟩ (.int .i64 0)) ∧ Ow e2 2 75 W0.heap.size W (.slice (some ⟨bt, ot, none⟩) os.length ct) os ∧ Below w.heap.size w W, ?_, ?_, ?_, ?_, ?_⟩
        · obtain ⟨⟨h1, h2⟩, ⟨h3, h4⟩, h5, h6⟩ := HR.out
          exact ⟨⟨h1.drew, h2.drew⟩, ⟨h3.drew, h4.drew⟩, h5.drew, below_dr h6⟩
        · exact fun W h => h.1
        · intro b W h
          obtain ⟨b0, o0, e0, _, ca1, ca2⟩ := HAT.out W h.2.2.1
          injection e0 with e0
          injection e0 with e01 e02
          subst e01; subst e02
          exact ⟨ca1, ca2⟩
        · rintro W ⟨⟨h1, h2⟩, ⟨h3, h4⟩, h5, h6⟩
          exact ⟨⟨h1.set, h2.other (by simp)⟩, ⟨h3.other (by simp), h4.other (by simp)⟩, Ow.setFar h5 (by show w.heap.size + 1 + 1 < _; omega) _, below_set h6 (by simp; omega) _⟩
        · exact fun W h => h
      go_wp2_with fail
      refine wp_region_inv 31 29 [17, 18, 19, 20, 21, 22, 23, 24, 25, 26, 27, 28, 29, 30, 31, 32, 33, 34, 35, 36, 37, 38, 39, 40, 41, 42, 43, 44, 45, 1000000, 46] [[], [0], [], [], [2, 3], [4], [5], [], [], [7, 8], [9], [10], [6, 11], [1, 12], [], [14], [], [], [16, 17], [18], [19], [], [], [21, 22], [23], [24], [20, 25], [15, 26], [], [28, 13], []] [.any, .early, .any, .any, .any, .any, .any, .any, .any, .any, .any, .any, .any, .any, .any, .early, .any, .any, .any, .any, .any, .any, .any, .any, .any, .any, .any, .any, .any, .st, .any] [fun v => v = .pointer (some ⟨w.heap.size + 1 + 1, 0, none⟩), fun v => v = .int .i64 s1, fun v => v = .slice (some ⟨bt, ot, none⟩) os.length ct, fun v => v = .int .i64 k, fun v => v = .pointer (some ⟨bt, ot + k * 2, none⟩), fun v => v = .pointer (some ⟨bt, ot + k * 2, none⟩), fun v => v = .int .i64 a1, fun v => v = .slice (some ⟨bt, ot, none⟩) os.length ct, fun v => v = .int .i64 k, fun v => v = .pointer (some ⟨bt, ot + k * 2, none⟩), fun v => v = .pointer (some ⟨bt, ot + k * 2 + 1, none⟩), fun v => v = .int .i64 a2, fun v => v = .int .i64 fl, fun v => v = .int .i64 (s1 + fl), fun v => v = .pointer (some ⟨w.heap.size + 1 + 1, 1, none⟩), fun v => v = .int .i64 s2, fun v => v = .slice (some ⟨bt, ot, none⟩) os.length ct, fun v => v = .int .i64 k, fun v => v = .pointer (some ⟨bt, ot + k * 2, none⟩), fun v => v = .pointer (some ⟨bt, ot + k * 2, none⟩), fun v => v = .int .i64 a1, fun v => v = .slice (some ⟨bt, ot, none⟩) os.length ct, fun v => v = .int .i64 k, fun v => v = .pointer (some ⟨bt, ot + k * 2, none⟩), fun v => v = .pointer (some ⟨bt, ot + k * 2 + 1, none⟩), fun v => v = .int .i64 a2, fun v => v = .int .i64 cl, fun v => v = .int .i64 (s2 + cl), fun v => v = .pointer (some ⟨w.heap.size + 1 + 1, 0, none⟩), fun _ => True, fun v => v = .pointer (some ⟨w.heap.size + 1 + 1, 1, none⟩)] I (by kernel_rfl) (by kernel_rfl) ?_ (fun _ => trivial) hI0 ?_
      · simp only [List.take_succ_cons, List.take_zero, stepsI, stepI, and_true]
        refine ⟨?_, ?_, ?_, ?_, ?_, ?_, ?_, ?_, ?_, ?_, ?_, ?_, ?_, ?_, ?_, ?_, ?_, ?_, ?_, ?_, ?_, ?_, ?_, ?_, ?_, ?_, ?_, ?_, ?_, ?_, ?_⟩
        · intro x W b hI _; simp only [putX, setX, List.foldl_cons, List.foldl_nil]; refine ⟨?_⟩; go_simp; exact ⟨rfl, hI⟩
        · intro x W hI hN; simp only [needsV, vAt, dAt] at hN; simp only [putX, setX, List.foldl_cons, List.foldl_nil]; obtain ⟨⟨o0, g0⟩, ⟨o1, g1⟩⟩ := HI0.out _ hI; refine ⟨?_⟩; go_simp; exact ⟨rfl, hI⟩
        · intro x W b hI _; simp only [putX, setX, List.foldl_cons, List.foldl_nil]; refine ⟨?_⟩; go_simp; exact ⟨rfl, hI⟩
        · intro x W b hI _; simp only [putX, setX, List.foldl_cons, List.foldl_nil]; refine ⟨?_⟩; go_simp; exact ⟨rfl, hI⟩
        · intro x W b hI hN; simp only [needsV, vAt, dAt] at hN; simp only [putX, setX, List.foldl_cons, List.foldl_nil]; refine ⟨?_⟩; go_simp; exact ⟨rfl, hI⟩
        · intro x W b hI hN; simp only [needsV, vAt, dAt] at hN; simp only [putX, setX, List.foldl_cons, List.foldl_nil]; refine ⟨?_⟩; go_simp; exact ⟨rfl, hI⟩
        · intro x W b hI hN; simp only [needsV, vAt, dAt] at hN; simp only [putX, setX, List.foldl_cons, List.foldl_nil]; obtain ⟨x0, x1⟩ := HIX.out _ _ hI; refine ⟨?_⟩; go_simp; exact ⟨rfl, hI⟩
        · intro x W b hI _; simp only [putX, setX, List.foldl_cons, List.foldl_nil]; refine ⟨?_⟩; go_simp; exact ⟨rfl, hI⟩
        · intro x W b hI _; simp only [putX, setX, List.foldl_cons, List.foldl_nil]; refine ⟨?_⟩; go_simp; exact ⟨rfl, hI⟩
        · intro x W b hI hN; simp only [needsV, vAt, dAt] at hN; simp only [putX, setX, List.foldl_cons, List.foldl_nil]; refine ⟨?_⟩; go_simp; exact ⟨rfl, hI⟩
        · intro x W b hI hN; simp only [needsV, vAt, dAt] at hN; simp only [putX, setX, List.foldl_cons, List.foldl_nil]; refine ⟨?_⟩; go_simp; exact ⟨rfl, hI⟩
        · intro x W b hI hN; simp only [needsV, vAt, dAt] at hN; simp only [putX, setX, List.foldl_cons, List.foldl_nil]; obtain ⟨x0, x1⟩ := HIX.out _ _ hI; refine ⟨?_⟩; go_simp; exact ⟨rfl, hI⟩
        · intro x W b hI hN; simp only [needsV, vAt, dAt] at hN; simp only [putX, setX, List.foldl_cons, List.foldl_nil]; refine ⟨?_⟩; go_simp; refine (HF1.out _).mono ?_; rintro e w' ⟨rfl, rfl⟩; exact ⟨_, rfl, rfl, hI⟩
        · intro x W b hI hN; simp only [needsV, vAt, dAt] at hN; simp only [putX, setX, List.foldl_cons, List.foldl_nil]; refine ⟨?_⟩; go_simp; exact ⟨rfl, hI⟩
        · intro x W b hI _; simp only [putX, setX, List.foldl_cons, List.foldl_nil]; refine ⟨?_⟩; go_simp; exact ⟨rfl, hI⟩
        · intro x W hI hN; simp only [needsV, vAt, dAt] at hN; simp only [putX, setX, List.foldl_cons, List.foldl_nil]; obtain ⟨⟨o0, g0⟩, ⟨o1, g1⟩⟩ := HI0.out _ hI; refine ⟨?_⟩; go_simp; exact ⟨rfl, hI⟩
        · intro x W b hI _; simp only [putX, setX, List.foldl_cons, List.foldl_nil]; refine ⟨?_⟩; go_simp; exact ⟨rfl, hI⟩
        · intro x W b hI _; simp only [putX, setX, List.foldl_cons, List.foldl_nil]; refine ⟨?_⟩; go_simp; exact ⟨rfl, hI⟩
        · intro x W b hI hN; simp only [needsV, vAt, dAt] at hN; simp only [putX, setX, List.foldl_cons, List.foldl_nil]; refine ⟨?_⟩; go_simp; exact ⟨rfl, hI⟩
        · intro x W b hI hN; simp only [needsV, vAt, dAt] at hN; simp only [putX, setX, List.foldl_cons, List.foldl_nil]; refine ⟨?_⟩; go_simp; exact ⟨rfl, hI⟩
        · intro x W b hI hN; simp only [needsV, vAt, dAt] at hN; simp only [putX, setX, List.foldl_cons, List.foldl_nil]; obtain ⟨x0, x1⟩ := HIX.out _ _ hI; refine ⟨?_⟩; go_simp; exact ⟨rfl, hI⟩
        · intro x W b hI _; simp only [putX, setX, List.foldl_cons, List.foldl_nil]; refine ⟨?_⟩; go_simp; exact ⟨rfl, hI⟩
        · intro x W b hI _; simp only [putX, setX, List.foldl_cons, List.foldl_nil]; refine ⟨?_⟩; go_simp; exact ⟨rfl, hI⟩
        · intro x W b hI hN; simp only [needsV, vAt, dAt] at hN; simp only [putX, setX, List.foldl_cons, List.foldl_nil]; refine ⟨?_⟩; go_simp; exact ⟨rfl, hI⟩
        · intro x W b hI hN; simp only [needsV, vAt, dAt] at hN; simp only [putX, setX, List.foldl_cons, List.foldl_nil]; refine ⟨?_⟩; go_simp; exact ⟨rfl, hI⟩
        · intro x W b hI hN; simp only [needsV, vAt, dAt] at hN; simp only [putX, setX, List.foldl_cons, List.foldl_nil]; obtain ⟨x0, x1⟩ := HIX.out _ _ hI; refine ⟨?_⟩; go_simp; exact ⟨rfl, hI⟩
        · intro x W b hI hN; simp only [needsV, vAt, dAt] at hN; simp only [putX, setX, List.foldl_cons, List.foldl_nil]; refine ⟨?_⟩; go_simp; refine (HF2.out _).mono ?_; rintro e w' ⟨rfl, rfl⟩; exact ⟨_, rfl, rfl, hI⟩
        · intro x W b hI hN; simp only [needsV, vAt, dAt] at hN; simp only [putX, setX, List.foldl_cons, List.foldl_nil]; refine ⟨?_⟩; go_simp; exact ⟨rfl, hI⟩
        · intro x W b hI _; simp only [putX, setX, List.foldl_cons, List.foldl_nil]; refine ⟨?_⟩; go_simp; exact ⟨rfl, hI⟩
        · intro x W hI hN; simp only [needsV, vAt, dAt] at hN; simp only [putX, setX, List.foldl_cons, List.foldl_nil]; obtain ⟨⟨o0, g0⟩, ⟨o1, g1⟩⟩ := HI0.out _ hI; refine ⟨?_⟩; go_simp; exact HST.out _ hI
        · intro x W b hI _; simp only [putX, setX, List.foldl_cons, List.foldl_nil]; refine ⟨?_⟩; go_simp; exact ⟨rfl, hI⟩
      · intro x W hI hA
        simp only [allV] at hA
        have q1 := hA.2.2.2.2.2.2.2.2.2.2.2.2.2.2.2.2.2.2.2.2.2.2.2.2.2.2.2.1
        have q2 := hA.2.2.2.2.2.2.2.2.2.2.2.2.2.2.2.2.2.2.2.2.2.2.2.2.2.2.2.2.2.2.1
        have HW := Lib.hid (HIT.out W hI)
        obtain ⟨⟨_, ⟨o1, g1⟩⟩, _⟩ := HIT.out W hI
        clear hA hI hI0
        simp only [putX, setX, List.foldl_cons, List.foldl_nil, List.drop_succ_cons, List.drop_zero, q1, q2, List.setIfInBounds_toArray, List.set_cons_succ, List.set_cons_zero]
        clear q1 q2
        go_wp2_with fail
        go_roundw
        case rel =>
          obtain ⟨⟨h1, h2⟩, ⟨h3, h4⟩, h5, h6⟩ := HW.out
          refine ⟨k + 1, by omega, by go_num, ?_⟩
          rw [HSN.out]
          exact ⟨⟨h1.other (by simp), h2.set⟩, ⟨h3.other (by simp), h4.other (by simp)⟩, Ow.setFar h5 (by show w.heap.size + 1 + 1 < _; omega) _, below_set h6 (by simp; omega) _⟩
        case measure => simp [intOf]; omega
    · obtain rfl : k = os.length := by omega
      rw [List.take_length] at HR
      obtain ⟨⟨s1, s2⟩, hsd⟩ : ∃ s, layF os = s := ⟨_, rfl⟩
      rw [hsd] at HR
      have HSD := Lib.hid hsd
      clear hsd
      simp only at HR
      obtain ⟨⟨⟨o0, g0⟩, ⟨o1, g1⟩⟩, ⟨⟨r0, f0⟩, ⟨r1, f1⟩⟩, _⟩ := HR.out
      go_wp2_with fail
      obtain ⟨W5, hW5⟩ : ∃ W5, W5 = (wr.setCell ⟨w.heap.size + 1, 0, none⟩ (.int .i64 s1)).setCell ⟨w.heap.size + 1, 1, none⟩ (.int .i64 s2) := ⟨_, rfl⟩
      rw [← hW5]
      obtain ⟨t0, _⟩ : At W5 ⟨w.heap.size + 1, 0, none⟩ (.int .i64 s1) := by rw [hW5]; exact (HR.out.2.1.1.set).other (by simp)
      obtain ⟨t1, _⟩ : At W5 ⟨w.heap.size + 1, 1, none⟩ (.int .i64 s2) := by rw [hW5]; exact (HR.out.2.1.2.other (by simp)).set
      have HB5 : Below w.heap.size w W5 := by rw [hW5]; exact below_set (below_set HR.out.2.2.2 (by simp) _) (by simp) _
      clear hW5
      (try simp only [Exit.inBlock, Exit.then])
      refine bodyPost_ret (v := .agg #[.int .i64 s1, .int .i64 s2]) ?_ rfl ⟨ret_range HSD.out, HB5⟩
      rw [results_cell rfl]
      go_simp
end Go.Proofs.Ytghglgaimhfedaa
