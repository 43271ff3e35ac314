/-
  Walks of chapter 1's reference: the bends of a line.
-/
import Derived.Test.YtghglgaimhfedaaZNc
namespace Go.Proofs.Ytghglgaimhfedaa
open Go.RowKit Go.Shelf
attribute [local go_sem] monoUpon_value monoUpon_skip monoUpon_enter

theorem tens_fo {l : Ln} {c : List Int} (hl : LnOk l) (hc : CuOk l c) (hz : ∀ t ∈ tens l c, 0 < t.2) : ∀ t ∈ tens l c, Fo t := fun t ht =>
  ⟨(tens_bd hl hc t ht).1, ⟨hz t ht, (tens_bd hl hc t ht).2.2⟩⟩
set_option maxRecDepth 100000 in
set_option maxHeartbeats 2000000 in
theorem rBends_any (v u : Value) (l : Ln) (cu : List Int) (w : World) (hs : Sl e3 3 w v l.ks) (hu : Sl e1 1 w u cu) (hl : LnOk l) (hc : CuOk l cu) (hz : ∀ t ∈ tens l cu, 0 < t.2) :
    Calls Try.prog 47 #[.agg #[.int .i64 l.x, .int .i64 l.z, v], u] w fun e w' => ∃ r, e = .returned r ∧ Ow e2 2 75 w.heap.size w' r (bendsF (tens l cu)) ∧ Below w.heap.size w w' := by
  obtain ⟨i0, hi, hz0, hz1, hz2⟩ := info_parts fracinfo
  have HT := Lib.hid (Tensions_any v u l cu _ (hs.alloc (.cells #[.int .i64 l.x, .int .i64 l.z, v] 26)) (hu.alloc (.cells #[.int .i64 l.x, .int .i64 l.z, v] 26)) hl hc)
  obtain ⟨A, c, rfl, hcap⟩ := hs.form
  obtain ⟨A', c', rfl, hcap'⟩ := hu.form
  have HF := Lib.hid (tens_fo hl hc hz)
  have hn0 : 0 < (tens l cu).length := by rw [tens_len l cu hc.len]; exact hl.n0
  have hn2 : (tens l cu).length ≤ 10 := by rw [tens_len l cu hc.len]; exact hl.n1
  clear hs hu hl hc hz hcap hcap'
  generalize tens l cu = ts at *
  go_enter Try.func47, Try.ntmps47
  go_wp2_with (go_at_call 38; refine HT.out.mono ?_; rintro e w2 ⟨r, rfl, ho, hb2⟩; have HSB := Lib.hid (ho.sl e2_len); obtain ⟨Ab, ct, rfl, hct⟩ := HSB.out.form; obtain ⟨bt, ot, rfl, hbt, _⟩ := HSB.out.raw (k := 0) hn0; have HB2 := Lib.hid (below_tr (below_alloc1 _ _) hb2); clear hb2 ho)
  go_loopw [5, 7, 8] (fun r i _ wr => ∃ j : Nat, 1 ≤ j ∧ j ≤ ts.length ∧ i = .int .i64 j ∧ Ow e2 2 75 w2.heap.size wr r ((bendsF ts).take (j - 1)) ∧ Below w2.heap.size w2 wr) (fun _ i _ _ => ts.length - (intOf i).toNat)
  case atStart => exact ⟨1, Nat.le_refl _, hn0, rfl, by simpa using Ow.nil _ _ _ _ _, Below.refl _ _⟩
  case round =>
    obtain ⟨j, hj1, hj, rfl, hown, hb⟩ := hrel
    have HO := Lib.hid hown
    have HB := Lib.hid hb
    clear hown
    by_cases hlt : j < ts.length
    · obtain ⟨k, hk⟩ : ∃ k, j = k + 1 := ⟨j - 1, by omega⟩
      have hlk : k < ts.length := by omega
      have HSA := Lib.hid (fun W (h : Below w2.heap.size w2 W) => (HSB.out.below h).at2 (k := k) hlk)
      have HSC := Lib.hid (fun W (h : Below w2.heap.size w2 W) => (HSB.out.below h).at2 (k := j) hlt)
      have htk : (bendsF ts).take j = (bendsF ts).take k ++ [bend ts[k] ts[j]] := by subst hk; exact bendsF_take ts k hlt
      have hfa := HF.out ts[k] (List.getElem_mem _)
      have hfb := HF.out ts[j] (List.getElem_mem _)
      have hjk : j - 1 = k := by omega
      rw [hjk] at HO
      have hacc : ((bendsF ts).take k).length ≤ 10 := by rw [List.length_take]; omega
      have hwk : IntKind.i64.wrap ((j : Int) - 1) = (k : Int) := by rw [IntWalk.i64_in _ (by omega)]; omega
      have hjl : (j : Int) < (ts.length : Int) := by omega
      have hkl : (k : Int) < (ts.length : Int) := by omega
      have hj0 : (0 : Int) ≤ (j : Int) := by omega
      have hk0 : (0 : Int) ≤ (k : Int) := by omega
      have HJ := Lib.hid hk
      clear hjk hk hb
      generalize ts[k] = ta at *
      generalize ts[j] = tb at *
      have m1 := mul_bd ta.1 tb.2 20000 20000 hfa.x ⟨by have := hfb.z; omega, hfb.z.2⟩
      have m2 := mul_bd tb.1 ta.2 20000 20000 hfb.x ⟨by have := hfa.z; omega, hfa.z.2⟩
      have m3 := mul_bd (across ta tb) (across ta tb) 800000000 800000000 (by unfold across; omega) (by unfold across; omega)
      have sa := sq_pos hfa
      have sb := sq_pos hfb
      have m4 : 0 < sq ta * sq tb := Int.mul_pos sa.1 sb.1
      have m5 := mul_bd (sq ta) (sq tb) 800000000 800000000 (by omega) (by omega)
      have HQA := Lib.hid (fun w => rSquare_any ta w ⟨by have := hfa.x; omega, by have := hfa.x; omega⟩ ⟨by have := hfa.z; omega, by have := hfa.z; omega⟩)
      have HQB := Lib.hid (fun w => rSquare_any tb w ⟨by have := hfb.x; omega, by have := hfb.x; omega⟩ ⟨by have := hfb.z; omega, by have := hfb.z; omega⟩)
      have HLo := Lib.hid (fun w => rLowest_any (across ta tb * across ta tb) (sq ta * sq tb) w m4 (by omega) ⟨by omega, by omega⟩)
      have E : bend ta tb = low (across ta tb * across ta tb) (sq ta * sq tb) := rfl
      have E2 : Hid (across ta tb = ta.1 * tb.2 - tb.1 * ta.2) := (rfl : across ta tb = _)
      have hw4 : IntKind.i64.wrap (across ta tb * across ta tb) = across ta tb * across ta tb := IntWalk.i64_in _ (by omega)
      have hw5 : IntKind.i64.wrap (sq ta * sq tb) = sq ta * sq tb := IntWalk.i64_in _ (by omega)
      have hw1 : IntKind.i64.wrap (ta.1 * tb.2) = ta.1 * tb.2 := IntWalk.i64_in _ (by omega)
      have hw2 : IntKind.i64.wrap (tb.1 * ta.2) = tb.1 * ta.2 := IntWalk.i64_in _ (by omega)
      have hw3 : IntKind.i64.wrap (ta.1 * tb.2 - tb.1 * ta.2) = across ta tb := by rw [← E2.out]; exact IntWalk.i64_in _ (by unfold across; omega)
      rw [E] at htk
      clear m1 m2 m3 m4 m5 sa sb hfa hfb E
      generalize low (across ta tb * across ta tb) (sq ta * sq tb) = be at *
      generalize across ta tb = ac at *
      generalize sq ta = qa at *
      generalize sq tb = qb at *
      obtain ⟨a1, a2⟩ := ta
      obtain ⟨b1, b2⟩ := tb
      obtain ⟨be1, be2⟩ := be
      simp only at *
      have HTK := Lib.hid htk
      clear htk
      generalize (bendsF ts).take k = acc at *
      have HX : Hid (∀ W, Below wr.heap.size wr W → (W.cell? ⟨bt, ot + k * 2, none⟩ = some (.int .i64 a1) ∧ W.cell? ⟨bt, ot + k * 2 + 1, none⟩ = some (.int .i64 a2)) ∧ (W.cell? ⟨bt, ot + j * 2, none⟩ = some (.int .i64 b1) ∧ W.cell? ⟨bt, ot + j * 2 + 1, none⟩ = some (.int .i64 b2)) ∧ Ow e2 2 75 w2.heap.size W u5 acc ∧ Below w2.heap.size w2 W) := by
        intro W hb0
        have hb' : Below w2.heap.size w2 W := below_tr HB.out hb0
        obtain ⟨b0, o0, e0, _, ca1, ca2⟩ := HSA.out W hb'
        injection e0 with e0
        injection e0 with e01 e02
        subst e01; subst e02
        obtain ⟨b0, o0, e0, _, cb1, cb2⟩ := HSC.out W hb'
        injection e0 with e0
        injection e0 with e01 e02
        subst e01; subst e02
        exact ⟨⟨ca1, ca2⟩, ⟨cb1, cb2⟩, HO.out.below hb0, hb'⟩
      obtain ⟨⟨x0, x1⟩, ⟨x2, x3⟩, _⟩ := HX.out wr (Below.refl _ _)
      go_wp2_with fail
      go_quiet (fail)
      go_wp2_with fail
      clear x0 x1 x2 x3
      have HY : Hid (∀ n W, Below (wr.drewN n).drew.heap.size (wr.drewN n).drew W → Below wr.heap.size wr W) := fun n W hW => below_tr (below_dr (below_drN (Below.refl _ _) n)) hW
      refine wp_region_mono 18 [43, 44, 45, 46, 47, 48, 49, 50, 51, 52, 53, 54, 55, 56, 57, 58, 59, 60] [[], [], [], [1, 2], [], [], [5], [4, 6], [7], [8], [], [], [10, 11], [12], [13], [9, 14], [3, 15], [16]] [fun v _ => v = u5, fun v _ => v = .int .i64 ac, fun v _ => v = .int .i64 ac, fun v _ => v = .int .i64 (ac * ac), fun v _ => v = .slice (some ⟨bt, ot, none⟩) ts.length ct, fun v _ => v = .int .i64 j, fun v _ => v = .int .i64 k, fun v _ => v = .pointer (some ⟨bt, ot + k * 2, none⟩), fun v _ => v = .agg #[.int .i64 a1, .int .i64 a2], fun v _ => v = .int .i64 qa, fun v _ => v = .slice (some ⟨bt, ot, none⟩) ts.length ct, fun v _ => v = .int .i64 j, fun v _ => v = .pointer (some ⟨bt, ot + j * 2, none⟩), fun v _ => v = .agg #[.int .i64 b1, .int .i64 b2], fun v _ => v = .int .i64 qb, fun v _ => v = .int .i64 (qa * qb), fun v _ => v = .agg #[.int .i64 be1, .int .i64 be2], fun v w => Sl e2 2 w v [(be1, be2)]] (by kernel_rfl) (by kernel_rfl) ⟨st_eq _, st_eq _, st_eq _, st_eq _, st_eq _, st_eq _, st_eq _, st_eq _, st_eq _, st_eq _, st_eq _, st_eq _, st_eq _, st_eq _, st_eq _, st_eq _, st_eq _, st_sl _ _ _, trivial⟩ ?_ ?_
      · simp only [List.take_succ_cons, List.take_zero, steps, and_true]
        refine ⟨?_, ?_, ?_, ?_, ?_, ?_, ?_, ?_, ?_, ?_, ?_, ?_, ?_, ?_, ?_, ?_, ?_, ?_⟩
        · intro x W hB _; simp only [putX, setX, List.foldl_cons, List.foldl_nil]; refine ⟨?_⟩; go_simp; exact ⟨rfl, Below.refl _ _⟩
        · intro x W hB _; simp only [putX, setX, List.foldl_cons, List.foldl_nil]; refine ⟨?_⟩; go_simp; exact ⟨rfl, Below.refl _ _⟩
        · intro x W hB _; simp only [putX, setX, List.foldl_cons, List.foldl_nil]; refine ⟨?_⟩; go_simp; exact ⟨rfl, Below.refl _ _⟩
        · intro x W hB hN; simp only [needs, sAt, dAt] at hN; simp only [putX, setX, List.foldl_cons, List.foldl_nil]; refine ⟨?_⟩; go_simp; exact ⟨rfl, Below.refl _ _⟩
        · intro x W hB _; simp only [putX, setX, List.foldl_cons, List.foldl_nil]; refine ⟨?_⟩; go_simp; exact ⟨rfl, Below.refl _ _⟩
        · intro x W hB _; simp only [putX, setX, List.foldl_cons, List.foldl_nil]; refine ⟨?_⟩; go_simp; exact ⟨rfl, Below.refl _ _⟩
        · intro x W hB hN; simp only [needs, sAt, dAt] at hN; simp only [putX, setX, List.foldl_cons, List.foldl_nil]; refine ⟨?_⟩; go_simp; exact ⟨rfl, Below.refl _ _⟩
        · intro x W hB hN; simp only [needs, sAt, dAt] at hN; simp only [putX, setX, List.foldl_cons, List.foldl_nil]; refine ⟨?_⟩; go_simp; exact ⟨rfl, Below.refl _ _⟩
        · intro x W hB hN; simp only [needs, sAt, dAt] at hN; simp only [putX, setX, List.foldl_cons, List.foldl_nil]; obtain ⟨⟨x0, x1⟩, ⟨x2, x3⟩, _⟩ := HX.out W (HY.out _ W hB); refine ⟨?_⟩; go_simp; exact ⟨rfl, Below.refl _ _⟩
        · intro x W hB hN; simp only [needs, sAt, dAt] at hN; simp only [putX, setX, List.foldl_cons, List.foldl_nil]; refine ⟨?_⟩; go_simp; refine (HQA.out _).mono ?_; rintro e w' ⟨rfl, hb⟩; exact ⟨_, rfl, rfl, hb⟩
        · intro x W hB _; simp only [putX, setX, List.foldl_cons, List.foldl_nil]; refine ⟨?_⟩; go_simp; exact ⟨rfl, Below.refl _ _⟩
        · intro x W hB _; simp only [putX, setX, List.foldl_cons, List.foldl_nil]; refine ⟨?_⟩; go_simp; exact ⟨rfl, Below.refl _ _⟩
        · intro x W hB hN; simp only [needs, sAt, dAt] at hN; simp only [putX, setX, List.foldl_cons, List.foldl_nil]; refine ⟨?_⟩; go_simp; exact ⟨rfl, Below.refl _ _⟩
        · intro x W hB hN; simp only [needs, sAt, dAt] at hN; simp only [putX, setX, List.foldl_cons, List.foldl_nil]; obtain ⟨⟨x0, x1⟩, ⟨x2, x3⟩, _⟩ := HX.out W (HY.out _ W hB); refine ⟨?_⟩; go_simp; exact ⟨rfl, Below.refl _ _⟩
        · intro x W hB hN; simp only [needs, sAt, dAt] at hN; simp only [putX, setX, List.foldl_cons, List.foldl_nil]; refine ⟨?_⟩; go_simp; refine (HQB.out _).mono ?_; rintro e w' ⟨rfl, hb⟩; exact ⟨_, rfl, rfl, hb⟩
        · intro x W hB hN; simp only [needs, sAt, dAt] at hN; simp only [putX, setX, List.foldl_cons, List.foldl_nil]; refine ⟨?_⟩; go_simp; exact ⟨rfl, Below.refl _ _⟩
        · intro x W hB hN; simp only [needs, sAt, dAt] at hN; simp only [putX, setX, List.foldl_cons, List.foldl_nil]; refine ⟨?_⟩; go_simp; refine (HLo.out _).mono ?_; rintro e w' ⟨rfl, hb⟩; exact ⟨_, rfl, rfl, hb⟩
        · intro x W hB hN; simp only [needs, sAt, dAt] at hN; simp only [putX, setX, List.foldl_cons, List.foldl_nil]; refine ⟨?_⟩; go_simp; exact ⟨slp _ _ _, below_alloc1 _ _⟩
      · intro x W hB hA
        simp only [allSp] at hA
        have q0 := hA.1
        have q1 := hA.2.2.2.2.2.2.2.2.2.2.2.2.2.2.2.2.2.1
        obtain ⟨A1, c1, e1', _⟩ := q1.form
        rw [e1'] at q1
        obtain ⟨_, _, ho, hbW⟩ := HX.out W (HY.out _ W hB)
        clear hA
        simp only [putX, setX, List.foldl_cons, List.foldl_nil, List.drop_succ_cons, List.drop_zero, q0, e1', List.setIfInBounds_toArray, List.set_cons_succ, List.set_cons_zero]
        go_wp2_with (at_builtin; refine wpList_append_sl _ rfl _ _ 69 rfl w2.heap.size 75 i0 _ 2 16 Try.underlying69 hi hz0 hz1 hz2 rfl (by decide) e2_len e2_one _ acc rfl ho A1 1 c1 [(be1, be2)] rfl q1 (by simp; omega) (by decide) hbW.size ?_; intro v1 w4 ho4 hg4)
        have HO4 := Lib.hid ho4
        have HB4 := Lib.hid (ho.grown hg4 hbW (Nat.le_refl _))
        clear ho4 hg4 ho hbW
        go_roundw
        case rel => exact ⟨j + 1, by omega, by omega, by go_num, by rw [Nat.add_sub_cancel, HTK.out]; exact HO4.out, HB4.out⟩
        case measure => simp [intOf]; omega
    · obtain rfl : j = ts.length := by omega
      have hfin : (bendsF ts).take (ts.length - 1) = bendsF ts := List.take_of_length_le (by rw [bendsF_len]; exact Nat.le_refl _)
      rw [hfin] at HO
      clear hb hfin
      go_wp2_with fail
      go_ret
      exact ⟨_, rfl, HO.out.less HB2.out.size, below_tr HB2.out HB.out⟩
end Go.Proofs.Ytghglgaimhfedaa
