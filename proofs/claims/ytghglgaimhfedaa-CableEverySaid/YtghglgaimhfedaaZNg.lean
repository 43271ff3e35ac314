/-
  Walks of chapter 1's reference: the sharpest bend.
-/
import Derived.Test.YtghglgaimhfedaaZNf
import Derived.Test.YtghglgaimhfedaaQK
namespace Go.Proofs.Ytghglgaimhfedaa
open Go.RowKit Go.Shelf
attribute [local go_sem] monoUpon_value monoUpon_skip monoUpon_enter

theorem gtF_cmp (a b : Int × Int) : gtF a b = decide (0 < cmpF a.1 a.2 b.1 b.2) := by
  unfold gtF cmpF
  by_cases h1 : a.1 * b.2 < b.1 * a.2
  · rw [if_pos h1]
    simp
    omega
  · rw [if_neg h1]
    by_cases h2 : b.1 * a.2 < a.1 * b.2
    · rw [if_pos h2]; simp [h2]
    · rw [if_neg h2]; simp; omega
/-- What a reference's fraction gives. -/
structure FrOk (q : Int × Int) : Prop where
  n0 : 0 ≤ q.1
  n1 : q.1 ≤ 1000000000000000000
  d0 : 0 < q.2
  d1 : q.2 ≤ 1000000000000000000
theorem bend_ok {a b : Int × Int} (ha : Fo a) (hb : Fo b) : FrOk (bend a b) := by
  have m1 := mul_bd a.1 b.2 20000 20000 ha.x ⟨by have := hb.z; omega, hb.z.2⟩
  have m2 := mul_bd b.1 a.2 20000 20000 hb.x ⟨by have := ha.z; omega, ha.z.2⟩
  have m3 := mul_bd (across a b) (across a b) 800000000 800000000 (by unfold across; omega) (by unfold across; omega)
  have n3 := mul_self_nn (across a b)
  have sa := sq_pos ha
  have sb := sq_pos hb
  have m4 : 0 < sq a * sq b := Int.mul_pos sa.1 sb.1
  have m5 := mul_bd (sq a) (sq b) 800000000 800000000 (by omega) (by omega)
  obtain ⟨⟨x0, x1⟩, y0, y1⟩ := low_bd (across a b * across a b) (sq a * sq b) 1000000000000000000 ⟨n3, by omega⟩ ⟨m4, by omega⟩
  exact ⟨x0, x1, Int.ediv_pos_of_pos_of_dvd m4 (by omega) (Int.gcd_dvd_right _ _), y1⟩
theorem bendsF_ok : ∀ {ts : List (Int × Int)}, (∀ t ∈ ts, Fo t) → ∀ q ∈ bendsF ts, FrOk q
  | [], _, q, h => by simp [bendsF] at h
  | [_], _, q, h => by simp [bendsF] at h
  | a :: b :: r, hf, q, h => by
    simp only [bendsF, List.mem_cons] at h
    rcases h with rfl | h
    · exact bend_ok (hf a (by simp)) (hf b (by simp))
    · exact bendsF_ok (ts := b :: r) (fun t ht => hf t (List.mem_cons_of_mem _ ht)) q h
/-- The index of the sharpest bend, and whether there is one. -/
def sharpR (bs : List (Int × Int)) : Int × Bool := if bs.length = 0 then (0, false) else ((sharpK bs bs.length : Int), true)
theorem ret_ok {q : Int × Bool} {a : Int} {b : Bool} (h : q = (a, b)) : Ending.returned (.tuple #[.int .i64 a, .bool b]) = .returned (.tuple #[.int .i64 q.1, .bool q.2]) := by subst h; rfl
set_option maxRecDepth 100000 in
set_option maxHeartbeats 2000000 in
theorem rSharpest_any (v u : Value) (l : Ln) (cu : List Int) (w : World) (hs : Sl e3 3 w v l.ks) (hu : Sl e1 1 w u cu) (hl : LnOk l) (hc : CuOk l cu) (hz : ∀ t ∈ tens l cu, 0 < t.2) :
    Calls Try.prog 51 #[.agg #[.int .i64 l.x, .int .i64 l.z, v], u] w fun e w' => e = .returned (.tuple #[.int .i64 (sharpR (bendsF (tens l cu))).1, .bool (sharpR (bendsF (tens l cu))).2]) ∧ Below w.heap.size w w' := by
  have HT := Lib.hid (rBends_any v u l cu _ (hs.alloc (.cells #[.int .i64 l.x, .int .i64 l.z, v] 26)) (hu.alloc (.cells #[.int .i64 l.x, .int .i64 l.z, v] 26)) hl hc hz)
  obtain ⟨A, c, rfl, hcap⟩ := hs.form
  obtain ⟨A', c', rfl, hcap'⟩ := hu.form
  have HOK := Lib.hid (bendsF_ok (tens_fo hl hc hz))
  have hn2 : (bendsF (tens l cu)).length ≤ 10 := by rw [bendsF_len, tens_len l cu hc.len]; have := hl.n1; omega
  clear hs hu hl hc hz hcap hcap'
  generalize bendsF (tens l cu) = bs at *
  have E0 : sharpR bs = if bs.length = 0 then (0, false) else ((sharpK bs bs.length : Int), true) := rfl
  by_cases h0 : bs.length = 0
  · rw [if_pos h0] at E0
    have E := Lib.hid E0
    have h0' : ((bs.length : Int) == 0) = true := eq0 (by omega)
    clear E0 h0
    go_enter Try.func51, Try.ntmps51
    go_wp2_with (go_at_call 47; refine HT.out.mono ?_; rintro e w2 ⟨r, rfl, ho, hb2⟩; obtain ⟨Ab, ct, rfl, hct⟩ := (ho.sl e2_len).form; have HB2 := Lib.hid (below_tr (below_alloc1 _ _) hb2); clear hb2 ho)
    go_ret2
    exact ⟨ret_ok E.out, HB2.out⟩
  · rw [if_neg h0] at E0
    have E := Lib.hid E0
    have h0' : ((bs.length : Int) == 0) = false := eq1 (by omega)
    clear E0
    go_enter Try.func51, Try.ntmps51
    go_wp2_with (go_at_call 47; refine HT.out.mono ?_; rintro e w2 ⟨r, rfl, ho, hb2⟩; have HSB := Lib.hid (ho.sl e2_len); obtain ⟨Ab, ct, rfl, hct⟩ := HSB.out.form; have HB2 := Lib.hid (below_tr (below_alloc1 _ _) hb2); clear hb2 ho)
    go_loopw [7, 8] (fun sh i wr => ∃ k : Nat, k ≤ bs.length ∧ i = .int .i64 k ∧ sh = .int .i64 (sharpK bs k) ∧ sharpK bs k < bs.length ∧ Below w2.heap.size w2 wr) (fun _ i _ => bs.length - (intOf i).toNat)
    case atStart => exact ⟨0, Nat.zero_le _, rfl, rfl, by show 0 < _; omega, Below.refl _ _⟩
    case round =>
      obtain ⟨k, hk, rfl, rfl, hm, hb⟩ := hrel
      have HB := Lib.hid hb
      by_cases hlt : k < bs.length
      · obtain ⟨bt, ot, rfl, hbl', _⟩ := (HSB.out.below hb).at2 (k := k) hlt
        have HSA := Lib.hid (fun W (h : Below w2.heap.size w2 W) => (HSB.out.below h).at2 (k := k) hlt)
        have HSC := Lib.hid (fun W (h : Below w2.heap.size w2 W) => (HSB.out.below h).at2 (k := sharpK bs k) hm)
        have hsc := sharpK_succ bs k
        rw [getD_eq _ _ _ hlt, getD_eq _ _ _ hm] at hsc
        have hq1 := HOK.out bs[k] (List.getElem_mem _)
        have hq2 := HOK.out bs[sharpK bs k] (List.getElem_mem _)
        have HG := Lib.hid (fun w => Compare_any bs[k].1 bs[k].2 bs[sharpK bs k].1 bs[sharpK bs k].2 w ⟨hq1.n0, hq1.n1⟩ ⟨hq1.d0, hq1.d1⟩ ⟨hq2.n0, hq2.n1⟩ ⟨hq2.d0, hq2.d1⟩)
        rw [gtF_cmp] at hsc
        have HSK := Lib.hid hsc
        have hmz : (sharpK bs k : Int) < (bs.length : Int) := by omega
        have hm0 : (0 : Int) ≤ (sharpK bs k : Int) := by omega
        have hkz : (k : Int) < (bs.length : Int) := by omega
        have hk0 : (0 : Int) ≤ (k : Int) := by omega
        clear hsc hq1 hq2 hb
        generalize bs[k] = qa at *
        generalize bs[sharpK bs k] = qb at *
        obtain ⟨a1, a2⟩ := qa
        obtain ⟨b1, b2⟩ := qb
        simp only at *
        generalize cmpF a1 a2 b1 b2 = C at *
        generalize hmm : sharpK bs k = m at *
        have HMM := Lib.hid hmm
        clear hmm
        have HX : Hid (∀ W, Below wr.drew.heap.size wr.drew W → (W.cell? ⟨bt, ot + k * 2, none⟩ = some (.int .i64 a1) ∧ W.cell? ⟨bt, ot + k * 2 + 1, none⟩ = some (.int .i64 a2)) ∧ (W.cell? ⟨bt, ot + m * 2, none⟩ = some (.int .i64 b1) ∧ W.cell? ⟨bt, ot + m * 2 + 1, none⟩ = some (.int .i64 b2)) ∧ Below w2.heap.size w2 W) := by
          intro W hW
          have hb' : Below w2.heap.size w2 W := below_tr HB.out (Below.trans (Below.drew (Below.refl _ _)) hW)
          obtain ⟨b0, o0, e0, _, ca1, ca2⟩ := HSA.out W hb'
          injection e0 with e0
          injection e0 with e01 e02
          subst e01; subst e02
          obtain ⟨b0, o0, e0, _, cb1, cb2⟩ := HSC.out W hb'
          injection e0 with e0
          injection e0 with e01 e02
          subst e01; subst e02
          exact ⟨⟨ca1, ca2⟩, ⟨cb1, cb2⟩, hb'⟩
        go_wp2_with fail
        refine wp_region_mono 21 [21, 22, 23, 24, 25, 26, 27, 28, 29, 30, 31, 32, 33, 34, 35, 36, 37, 38, 39, 40, 41] [[], [], [0, 1], [2], [3], [], [], [5, 6], [7], [8], [], [], [10, 11], [12], [13], [], [], [15, 16], [17], [18], [4, 9, 14, 19]] [fun v _ => v = .slice (some ⟨bt, ot, none⟩) bs.length ct, fun v _ => v = .int .i64 k, fun v _ => v = .pointer (some ⟨bt, ot + k * 2, none⟩), fun v _ => v = .pointer (some ⟨bt, ot + k * 2, none⟩), fun v _ => v = .int .i64 a1, fun v _ => v = .slice (some ⟨bt, ot, none⟩) bs.length ct, fun v _ => v = .int .i64 k, fun v _ => v = .pointer (some ⟨bt, ot + k * 2, none⟩), fun v _ => v = .pointer (some ⟨bt, ot + k * 2 + 1, none⟩), fun v _ => v = .int .i64 a2, fun v _ => v = .slice (some ⟨bt, ot, none⟩) bs.length ct, fun v _ => v = .int .i64 m, fun v _ => v = .pointer (some ⟨bt, ot + m * 2, none⟩), fun v _ => v = .pointer (some ⟨bt, ot + m * 2, none⟩), fun v _ => v = .int .i64 b1, fun v _ => v = .slice (some ⟨bt, ot, none⟩) bs.length ct, fun v _ => v = .int .i64 m, fun v _ => v = .pointer (some ⟨bt, ot + m * 2, none⟩), fun v _ => v = .pointer (some ⟨bt, ot + m * 2 + 1, none⟩), fun v _ => v = .int .i64 b2, fun v _ => v = .int .i64 C] (by kernel_rfl) (by kernel_rfl) ⟨st_eq _, st_eq _, st_eq _, st_eq _, st_eq _, st_eq _, st_eq _, st_eq _, st_eq _, st_eq _, st_eq _, st_eq _, st_eq _, st_eq _, st_eq _, st_eq _, st_eq _, st_eq _, st_eq _, st_eq _, st_eq _, trivial⟩ ?_ ?_
        · simp only [List.take_succ_cons, List.take_zero, steps, and_true]
          refine ⟨?_, ?_, ?_, ?_, ?_, ?_, ?_, ?_, ?_, ?_, ?_, ?_, ?_, ?_, ?_, ?_, ?_, ?_, ?_, ?_, ?_⟩
          · intro x W hB _; simp only [putX, setX, List.foldl_cons, List.foldl_nil]; refine ⟨?_⟩; go_simp; exact ⟨rfl, Below.refl _ _⟩
          · intro x W hB _; simp only [putX, setX, List.foldl_cons, List.foldl_nil]; refine ⟨?_⟩; go_simp; exact ⟨rfl, Below.refl _ _⟩
          · intro x W hB hN; simp only [needs, sAt, dAt] at hN; simp only [putX, setX, List.foldl_cons, List.foldl_nil]; refine ⟨?_⟩; go_simp; exact ⟨rfl, Below.refl _ _⟩
          · intro x W hB hN; simp only [needs, sAt, dAt] at hN; simp only [putX, setX, List.foldl_cons, List.foldl_nil]; refine ⟨?_⟩; go_simp; exact ⟨rfl, Below.refl _ _⟩
          · intro x W hB hN; simp only [needs, sAt, dAt] at hN; simp only [putX, setX, List.foldl_cons, List.foldl_nil]; obtain ⟨⟨x0, x1⟩, ⟨x2, x3⟩, _⟩ := HX.out W hB; refine ⟨?_⟩; go_simp; exact ⟨rfl, Below.refl _ _⟩
          · intro x W hB _; simp only [putX, setX, List.foldl_cons, List.foldl_nil]; refine ⟨?_⟩; go_simp; exact ⟨rfl, Below.refl _ _⟩
          · intro x W hB _; simp only [putX, setX, List.foldl_cons, List.foldl_nil]; refine ⟨?_⟩; go_simp; exact ⟨rfl, Below.refl _ _⟩
          · intro x W hB hN; simp only [needs, sAt, dAt] at hN; simp only [putX, setX, List.foldl_cons, List.foldl_nil]; refine ⟨?_⟩; go_simp; exact ⟨rfl, Below.refl _ _⟩
          · intro x W hB hN; simp only [needs, sAt, dAt] at hN; simp only [putX, setX, List.foldl_cons, List.foldl_nil]; refine ⟨?_⟩; go_simp; exact ⟨rfl, Below.refl _ _⟩
          · intro x W hB hN; simp only [needs, sAt, dAt] at hN; simp only [putX, setX, List.foldl_cons, List.foldl_nil]; obtain ⟨⟨x0, x1⟩, ⟨x2, x3⟩, _⟩ := HX.out W hB; refine ⟨?_⟩; go_simp; exact ⟨rfl, Below.refl _ _⟩
          · intro x W hB _; simp only [putX, setX, List.foldl_cons, List.foldl_nil]; refine ⟨?_⟩; go_simp; exact ⟨rfl, Below.refl _ _⟩
          · intro x W hB _; simp only [putX, setX, List.foldl_cons, List.foldl_nil]; refine ⟨?_⟩; go_simp; exact ⟨rfl, Below.refl _ _⟩
          · intro x W hB hN; simp only [needs, sAt, dAt] at hN; simp only [putX, setX, List.foldl_cons, List.foldl_nil]; refine ⟨?_⟩; go_simp; exact ⟨rfl, Below.refl _ _⟩
          · intro x W hB hN; simp only [needs, sAt, dAt] at hN; simp only [putX, setX, List.foldl_cons, List.foldl_nil]; refine ⟨?_⟩; go_simp; exact ⟨rfl, Below.refl _ _⟩
          · intro x W hB hN; simp only [needs, sAt, dAt] at hN; simp only [putX, setX, List.foldl_cons, List.foldl_nil]; obtain ⟨⟨x0, x1⟩, ⟨x2, x3⟩, _⟩ := HX.out W hB; refine ⟨?_⟩; go_simp; exact ⟨rfl, Below.refl _ _⟩
          · intro x W hB _; simp only [putX, setX, List.foldl_cons, List.foldl_nil]; refine ⟨?_⟩; go_simp; exact ⟨rfl, Below.refl _ _⟩
          · intro x W hB _; simp only [putX, setX, List.foldl_cons, List.foldl_nil]; refine ⟨?_⟩; go_simp; exact ⟨rfl, Below.refl _ _⟩
          · intro x W hB hN; simp only [needs, sAt, dAt] at hN; simp only [putX, setX, List.foldl_cons, List.foldl_nil]; refine ⟨?_⟩; go_simp; exact ⟨rfl, Below.refl _ _⟩
          · intro x W hB hN; simp only [needs, sAt, dAt] at hN; simp only [putX, setX, List.foldl_cons, List.foldl_nil]; refine ⟨?_⟩; go_simp; exact ⟨rfl, Below.refl _ _⟩
          · intro x W hB hN; simp only [needs, sAt, dAt] at hN; simp only [putX, setX, List.foldl_cons, List.foldl_nil]; obtain ⟨⟨x0, x1⟩, ⟨x2, x3⟩, _⟩ := HX.out W hB; refine ⟨?_⟩; go_simp; exact ⟨rfl, Below.refl _ _⟩
          · intro x W hB hN; simp only [needs, sAt, dAt] at hN; simp only [putX, setX, List.foldl_cons, List.foldl_nil]; refine ⟨?_⟩; go_simp; refine (HG.out _).mono ?_; rintro e w' ⟨rfl, hb⟩; exact ⟨_, rfl, rfl, hb⟩
        · intro x W hB hA
          simp only [allSp] at hA
          have q0 := hA.2.2.2.2.2.2.2.2.2.2.2.2.2.2.2.2.2.2.2.2.1
          have HBW := Lib.hid (HX.out W hB).2.2
          clear hA hB
          simp only [putX, setX, List.foldl_cons, List.foldl_nil, List.drop_succ_cons, List.drop_zero, q0, List.setIfInBounds_toArray, List.set_cons_succ, List.set_cons_zero]
          clear q0
          by_cases hcm : 0 < C
          · have HS2 : Hid (sharpK bs (k + 1) = k) := HSK.out.trans (if_pos (decide_eq_true hcm))
            go_wp2_with fail
            go_roundw
            case rel => exact ⟨k + 1, by omega, by go_num, by rw [HS2.out], by rw [HS2.out]; exact hlt, HBW.out⟩
            case measure => simp [intOf]; omega
          · have HS2 : Hid (sharpK bs (k + 1) = m) := HSK.out.trans (if_neg (by simpa using hcm))
            go_wp2_with fail
            go_roundw
            case rel => exact ⟨k + 1, by omega, by go_num, by rw [HS2.out], by rw [HS2.out]; exact hm, HBW.out⟩
            case measure => simp [intOf]; omega
      · obtain rfl : k = bs.length := by omega
        clear hb
        go_wp2_with fail
        go_ret2
        exact ⟨ret_ok E.out, below_tr HB2.out HB.out⟩
end Go.Proofs.Ytghglgaimhfedaa
