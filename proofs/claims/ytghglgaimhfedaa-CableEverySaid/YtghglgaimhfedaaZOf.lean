/-
  Walks of chapter 1's reference: the squares over a box.
-/
import Derived.Test.YtghglgaimhfedaaZOe
namespace Go.Proofs.Ytghglgaimhfedaa
open Go.RowKit Go.Shelf
attribute [local go_sem] monoUpon_value monoUpon_skip monoUpon_enter

set_option maxRecDepth 100000 in
set_option maxHeartbeats 8000000 in
theorem rSquares_any (v u : Value) (l : Ln) (b : List (Int × Int)) (w : World) (hs : Sl e3 3 w v l.ks) (hu : Sl e2 2 w u b) (hl : LnOk l) (hbx : BoxOk l b) :
    Calls Try.prog 64 #[.agg #[.int .i64 l.x, .int .i64 l.z, v], u] w fun e w' => ∃ r, e = .returned r ∧ Ow e2 2 66 w.heap.size w' r ((pulls l b).map sqR) ∧ Below w.heap.size w w' := by
  obtain ⟨i0, hi0, hz0, hz1, hz2⟩ := info_parts rangeinfo2
  have hs0 := hs
  have hu0 := hu
  have HS := Lib.hid hs
  obtain ⟨A, c, rfl, hcap⟩ := hs.form
  obtain ⟨A', c', rfl, hcap'⟩ := hu.form
  have hlp : (loHi l b).length = l.ks.length := by unfold loHi; rw [List.length_map]; exact pulls_len hbx
  have hlq : (pulls l b).length = l.ks.length := pulls_len hbx
  have hlz : (zs l).length = l.ks.length := zs_len l
  have HP : Hid (∀ W, Below w.heap.size w W → Calls Try.prog 63 #[.agg #[.int .i64 l.x, .int .i64 l.z, .slice A l.ks.length c], .slice A' b.length c'] W fun e w' => ∃ r, e = .returned r ∧ Sl e2 2 w' r (loHi l b) ∧ Below W.heap.size W w') := fun W h =>
    (rPulls_any _ _ l b W (hs0.below h) (hu0.below h) hl hbx).mono fun e w' ⟨r, a, o, d⟩ => ⟨r, a, o.sl e2_len, d⟩
  have HH : Hid (∀ W, Below w.heap.size w W → Calls Try.prog 98 #[.agg #[.int .i64 l.x, .int .i64 l.z, .slice A l.ks.length c]] W fun e w' => ∃ r, e = .returned r ∧ Sl e1 1 w' r (zs l) ∧ Below W.heap.size W w') := fun W h =>
    (heights_any _ l W (hs0.below h) hl).mono fun e w' ⟨r, a, o, d⟩ => ⟨r, a, o.sl e1_len, d⟩
  have HAT : Hid (∀ k (h : k < (loHi l b).length) (hz : k < (zs l).length) (hp : k < (pulls l b).length), (loHi l b)[k] = ((pulls l b)[k].lo, (pulls l b)[k].hi) ∧ (zs l)[k] = (pulls l b)[k].z) := fun k h hz hp => by
    refine ⟨List.getElem_map (fun p : Pl => (p.lo, p.hi)), ?_⟩
    have e : (pulls l b).map (·.z) = zs l := pullsF_zs _ _ _ _ _ hbx.len
    have e2' : (zs l)[k]? = ((pulls l b).map (·.z))[k]? := by rw [e]
    rw [List.getElem?_eq_getElem hz, List.getElem?_map, List.getElem?_eq_getElem hp] at e2'
    exact Option.some.inj e2'
  have HOK := Lib.hid (fun p (hp : p ∈ pulls l b) => And.intro (pulls_ok hl hbx p hp) (pulls_ord hl hbx p hp))
  have hn1 := hl.n1
  have hn0 := hl.n0
  clear hs hu hs0 hu0 hl hbx hcap hcap'
  generalize pulls l b = qs at *
  generalize loHi l b = ps at *
  generalize zs l = zz at *
  have HLN := Lib.hid (And.intro hlp (And.intro hlq hlz))
  have hp10 : ps.length ≤ 10 := by omega
  have hp0 : 0 < ps.length := by omega
  have hzz0 : 0 < zz.length := by omega
  clear hlp hlq hlz
  go_enter Try.func64, Try.ntmps64
  go_wp2_with fail
  obtain ⟨W0, hW0⟩ : ∃ W0, W0 = w.alloc (.cells #[.int .i64 l.x, .int .i64 l.z, .slice A l.ks.length c] 26) := ⟨_, rfl⟩
  rw [← hW0]
  have HX : Hid (∀ W, Below W0.drew.heap.size W0.drew W → (W.cell? ⟨w.heap.size, 0, none⟩ = some (.int .i64 l.x) ∧ W.cell? ⟨w.heap.size, 1, none⟩ = some (.int .i64 l.z) ∧ W.cell? ⟨w.heap.size, 2, none⟩ = some (.slice A l.ks.length c)) ∧ Below w.heap.size w W) := by
    intro W h
    rw [hW0] at h
    have bx := fun j v hv => (At.new w #[.int .i64 l.x, .int .i64 l.z, .slice A l.ks.length c] 26 j v hv).drew.below h
    exact ⟨⟨(bx 0 _ rfl).1, (bx 1 _ rfl).1, (bx 2 _ rfl).1⟩, below_tr (below_alloc1 _ _) (Below.trans (Below.drew (Below.refl _ _)) h)⟩
  clear hW0
  refine wp_region_mono 5 [11, 12, 13, 14, 15] [[], [], [0, 1], [], [3]] [fun v _ => v = .agg #[.int .i64 l.x, .int .i64 l.z, .slice A l.ks.length c], fun v _ => v = .slice A' b.length c', fun v w => Sl e2 2 w v ps, fun v _ => v = .agg #[.int .i64 l.x, .int .i64 l.z, .slice A l.ks.length c], fun v w => Sl e1 1 w v zz] (by kernel_rfl) (by kernel_rfl) ⟨st_eq _, st_eq _, st_sl _ _ _, st_eq _, st_sl _ _ _, trivial⟩ ?_ ?_
  · simp only [List.take_succ_cons, List.take_zero, steps, and_true]
    refine ⟨?_, ?_, ?_, ?_, ?_⟩
    · intro x W hB _; simp only [putX, setX, List.foldl_cons, List.foldl_nil]; obtain ⟨⟨c0, c1, c2⟩, _⟩ := HX.out W hB; refine ⟨?_⟩; go_simp; exact ⟨rfl, Below.refl _ _⟩
    · intro x W hB _; simp only [putX, setX, List.foldl_cons, List.foldl_nil]; refine ⟨?_⟩; go_simp; exact ⟨rfl, Below.refl _ _⟩
    · intro x W hB hN; simp only [needs, sAt, dAt] at hN; simp only [putX, setX, List.foldl_cons, List.foldl_nil]; refine ⟨?_⟩; go_simp; refine (HP.out _ (HX.out W hB).2).mono ?_; rintro e w' ⟨r, rfl, hr, hb⟩; exact ⟨_, rfl, hr, hb⟩
    · intro x W hB _; simp only [putX, setX, List.foldl_cons, List.foldl_nil]; obtain ⟨⟨c0, c1, c2⟩, _⟩ := HX.out W hB; refine ⟨?_⟩; go_simp; exact ⟨rfl, Below.refl _ _⟩
    · intro x W hB hN; simp only [needs, sAt, dAt] at hN; simp only [putX, setX, List.foldl_cons, List.foldl_nil]; refine ⟨?_⟩; go_simp; refine (HH.out _ (HX.out W hB).2).mono ?_; rintro e w' ⟨r, rfl, hr, hb⟩; exact ⟨_, rfl, hr, hb⟩
  · intro y W1 hB hA
    simp only [allSp] at hA
    have q1 := hA.2.2.1
    have q2 := hA.2.2.2.2.1
    obtain ⟨A1, cp, f1, _⟩ := q1.form
    rw [f1] at q1
    obtain ⟨bp, op, rfl, _, _⟩ := q1.at2 (k := 0) hp0
    obtain ⟨A2, cz, f2, _⟩ := q2.form
    rw [f2] at q2
    obtain ⟨bz, oz, rfl, _, _⟩ := q2.at1 (k := 0) hzz0
    have HS1 := Lib.hid q1
    have HS2 := Lib.hid q2
    have HB1 := Lib.hid (HX.out W1 hB).2
    have HC1 := Lib.hid (HX.out W1 hB).1.2.2
    clear hA hB q1 q2 HX HP HH
    simp only [putX, setX, List.foldl_cons, List.foldl_nil, List.drop_succ_cons, List.drop_zero, f1, f2, List.setIfInBounds_toArray, List.set_cons_succ, List.set_cons_zero]
    clear f1 f2
    go_wp2_with fail
    go_loopw [7, 8, 9, 10] (fun r i _ _ wr => ∃ k : Nat, k ≤ ps.length ∧ i = .int .i64 k ∧ Ow e2 2 66 W1.heap.size wr r ((qs.map sqR).take k) ∧ Below W1.heap.size W1 wr) (fun _ i _ _ _ => ps.length - (intOf i).toNat)
    case atStart => exact ⟨0, Nat.zero_le _, rfl, Ow.nil _ _ _ _ _, Below.refl _ _⟩
    case round =>
      obtain ⟨k, hk, rfl, hown, hb⟩ := hrel
      have HO := Lib.hid hown
      have HB := Lib.hid hb
      clear hown hb
      by_cases hlt : k < ps.length
      · have hltz : k < zz.length := by rw [HLN.out.2.2, ← HLN.out.1]; exact hlt
        have hltq : k < qs.length := by rw [HLN.out.2.1, ← HLN.out.1]; exact hlt
        have hat := HAT.out k hlt hltz hltq
        have hok := HOK.out qs[k] (List.getElem_mem _)
        have HA1 := Lib.hid (fun W (h : Below W1.heap.size W1 W) => (HS1.out.below h).at2 (k := k) hlt)
        have HA2 := Lib.hid (fun W (h : Below W1.heap.size W1 W) => (HS2.out.below h).at1 (k := k) hltz)
        rw [hat.1] at HA1
        rw [hat.2] at HA2
        have hk1 : (k : Int) < (ps.length : Int) := by omega
        have hk2 : (k : Int) < (zz.length : Int) := by omega
        have hk0 : (0 : Int) ≤ (k : Int) := by omega
        have hmq : k < (qs.map sqR).length := by simpa using hltq
        have htk := List.take_succ_eq_append_getElem (l := qs.map sqR) (i := k) hmq
        rw [List.getElem_map, sqR_most _ hok.2] at htk
        have hacc : ((qs.map sqR).take k).length ≤ 10 := Nat.le_trans (List.length_take_le _ _) (by omega)
        generalize (qs.map sqR).take k = acc at *
        clear hat
        generalize qs[k] = q at *
        have hbd := sqR_bd hok.1
        rw [sqR_most _ hok.2] at hbd
        have hzn := mul_self_nn q.z
        have hln := mul_self_nn (leastP q)
        have hmn := mul_self_nn (mostP q)
        have HTK := Lib.hid htk
        obtain ⟨⟨p1, p2, p3, p4, p5, p6, p7, p8⟩, p9⟩ := hok
        obtain ⟨ph, pw, pd, lo, hi, z⟩ := q
        have hm0 : mostP ⟨ph, pw, pd, lo, hi, z⟩ = if (lo.natAbs : Int) < (hi.natAbs : Int) then (hi.natAbs : Int) else (lo.natAbs : Int) := rfl
        have hl0 : leastP ⟨ph, pw, pd, lo, hi, z⟩ = if hi < 0 then hi else if 0 < lo then lo else 0 := rfl
        rw [hm0] at HTK hbd hmn
        rw [hl0] at HTK hbd hln
        have HSA := Lib.hid (fun w => Size_any lo w (by simp only at p3 p4; omega))
        have HSB := Lib.hid (fun w => Size_any hi w (by simp only at p5 p6; omega))
        simp only at *
        generalize (lo.natAbs : Int) = sa at *
        generalize (hi.natAbs : Int) = sb at *
        obtain ⟨z2, hz2'⟩ : ∃ z2, z2 = z * z := ⟨_, rfl⟩
        obtain ⟨ls2, hls⟩ : ∃ ls2, ls2 = (if hi < 0 then hi else if 0 < lo then lo else 0) * (if hi < 0 then hi else if 0 < lo then lo else 0) := ⟨_, rfl⟩
        obtain ⟨ms2, hms⟩ : ∃ ms2, ms2 = (if sa < sb then sb else sa) * (if sa < sb then sb else sa) := ⟨_, rfl⟩
        obtain ⟨q1, hq1⟩ : ∃ q1, q1 = ls2 + z2 := ⟨_, rfl⟩
        obtain ⟨q2, hq2⟩ : ∃ q2, q2 = ms2 + z2 := ⟨_, rfl⟩
        rw [← hls, ← hms, ← hz2', ← hq1, ← hq2] at HTK
        rw [← hls, ← hms, ← hz2', ← hq1, ← hq2] at hbd
        rw [← hz2'] at hzn
        rw [← hls] at hln
        rw [← hms] at hmn
        have HL2 := Lib.hid hls.symm
        obtain ⟨mx, hmx⟩ : ∃ mx, mx = if sa < sb then sb else sa := ⟨_, rfl⟩
        rw [← hmx] at hms
        have HM2 := Lib.hid hms.symm
        have HMX := Lib.hid hmx.symm
        have hw2 : IntKind.i64.wrap (mx * mx) = ms2 := by rw [HM2.out]; exact IntWalk.i64_in _ (by omega)
        have hwz : IntKind.i64.wrap (z * z) = z2 := by rw [← hz2']; exact IntWalk.i64_in _ (by omega)
        have hwq1 : IntKind.i64.wrap (ls2 + z2) = q1 := by rw [← hq1]; exact IntWalk.i64_in _ (by omega)
        have hwq2 : IntKind.i64.wrap (ms2 + z2) = q2 := by rw [← hq2]; exact IntWalk.i64_in _ (by omega)
        have hA1' : ls2 ≤ 800000000 := by omega
        have hA2' : ms2 ≤ 800000000 := by omega
        clear hq1 hq2 hls hms hmx hz2' hm0 hl0 hbd hzn p1 p2 p3 p4 p5 p6 p7 p8
        have HXC : Hid (∀ W, Below wr.heap.size wr W → W.cell? ⟨bp, op + k * 2, none⟩ = some (.int .i64 lo) ∧ W.cell? ⟨bp, op + k * 2 + 1, none⟩ = some (.int .i64 hi) ∧ W.cell? ⟨bz, oz + k, none⟩ = some (.int .i64 z) ∧ Ow e2 2 66 W1.heap.size W u7 acc ∧ Below W1.heap.size W1 W) := by
          intro W hb0
          have hb' : Below W1.heap.size W1 W := below_tr HB.out hb0
          obtain ⟨b0, o0, e0, _, ca1, ca2⟩ := HA1.out W hb'
          injection e0 with e0
          injection e0 with e01 e02
          subst e01; subst e02
          obtain ⟨b0, o0, e0, _, cb1⟩ := HA2.out W hb'
          injection e0 with e0
          injection e0 with e01 e02
          subst e01; subst e02
          exact ⟨ca1, ca2, cb1, HO.out.below hb0, hb'⟩
        obtain ⟨d0, d1, d2, _⟩ := HXC.out wr (Below.refl _ _)
        by_cases h1 : hi < 0
        · have h2 : ¬ 0 < lo := by omega
          rw [if_pos h1] at HL2
          have hw1 : IntKind.i64.wrap (hi * hi) = ls2 := by rw [← HL2.out]; exact IntWalk.i64_in _ (by rw [HL2.out]; omega)
          go_wp2_with fail
          refine wp_region_mono 13 [44, 45, 46, 47, 48, 49, 50, 51, 52, 53, 54, 55, 56] [[], [], [0, 1], [2], [3], [4], [], [], [6, 7], [8], [9], [10], [5, 11]] [fun v _ => v = .slice (some ⟨bp, op, none⟩) ps.length cp, fun v _ => v = .int .i64 k, fun v _ => v = .pointer (some ⟨bp, op + k * 2, none⟩), fun v _ => v = .pointer (some ⟨bp, op + k * 2, none⟩), fun v _ => v = .int .i64 lo, fun v _ => v = .int .i64 sa, fun v _ => v = .slice (some ⟨bp, op, none⟩) ps.length cp, fun v _ => v = .int .i64 k, fun v _ => v = .pointer (some ⟨bp, op + k * 2, none⟩), fun v _ => v = .pointer (some ⟨bp, op + k * 2 + 1, none⟩), fun v _ => v = .int .i64 hi, fun v _ => v = .int .i64 sb, fun v _ => v = .int .i64 (if sa < sb then sb else sa)] (by kernel_rfl) (by kernel_rfl) ⟨st_eq _, st_eq _, st_eq _, st_eq _, st_eq _, st_eq _, st_eq _, st_eq _, st_eq _, st_eq _, st_eq _, st_eq _, st_eq _, trivial⟩ ?_ ?_
          · simp only [List.take_succ_cons, List.take_zero, steps, and_true]
            refine ⟨?_, ?_, ?_, ?_, ?_, ?_, ?_, ?_, ?_, ?_, ?_, ?_, ?_⟩
            · intro x W hB _; simp only [putX, setX, List.foldl_cons, List.foldl_nil]; refine ⟨?_⟩; go_simp; exact ⟨rfl, Below.refl _ _⟩
            · intro x W hB _; simp only [putX, setX, List.foldl_cons, List.foldl_nil]; refine ⟨?_⟩; go_simp; exact ⟨rfl, Below.refl _ _⟩
            · intro x W hB hN; simp only [needs, sAt, dAt] at hN; simp only [putX, setX, List.foldl_cons, List.foldl_nil]; refine ⟨?_⟩; go_simp; exact ⟨rfl, Below.refl _ _⟩
            · intro x W hB hN; simp only [needs, sAt, dAt] at hN; simp only [putX, setX, List.foldl_cons, List.foldl_nil]; refine ⟨?_⟩; go_simp; exact ⟨rfl, Below.refl _ _⟩
            · intro x W hB hN; simp only [needs, sAt, dAt] at hN; simp only [putX, setX, List.foldl_cons, List.foldl_nil]; obtain ⟨d0, d1, d2, _⟩ := HXC.out W (Below.trans (Below.drew (Below.refl _ _)) hB); refine ⟨?_⟩; go_simp; exact ⟨rfl, Below.refl _ _⟩
            · intro x W hB hN; simp only [needs, sAt, dAt] at hN; simp only [putX, setX, List.foldl_cons, List.foldl_nil]; refine ⟨?_⟩; go_simp; refine (HSA.out _).mono ?_; rintro e w' ⟨rfl, rfl⟩; exact ⟨_, rfl, rfl, Below.refl _ _⟩
            · intro x W hB _; simp only [putX, setX, List.foldl_cons, List.foldl_nil]; refine ⟨?_⟩; go_simp; exact ⟨rfl, Below.refl _ _⟩
            · intro x W hB _; simp only [putX, setX, List.foldl_cons, List.foldl_nil]; refine ⟨?_⟩; go_simp; exact ⟨rfl, Below.refl _ _⟩
            · intro x W hB hN; simp only [needs, sAt, dAt] at hN; simp only [putX, setX, List.foldl_cons, List.foldl_nil]; refine ⟨?_⟩; go_simp; exact ⟨rfl, Below.refl _ _⟩
            · intro x W hB hN; simp only [needs, sAt, dAt] at hN; simp only [putX, setX, List.foldl_cons, List.foldl_nil]; refine ⟨?_⟩; go_simp; exact ⟨rfl, Below.refl _ _⟩
            · intro x W hB hN; simp only [needs, sAt, dAt] at hN; simp only [putX, setX, List.foldl_cons, List.foldl_nil]; obtain ⟨d0, d1, d2, _⟩ := HXC.out W (Below.trans (Below.drew (Below.refl _ _)) hB); refine ⟨?_⟩; go_simp; exact ⟨rfl, Below.refl _ _⟩
            · intro x W hB hN; simp only [needs, sAt, dAt] at hN; simp only [putX, setX, List.foldl_cons, List.foldl_nil]; refine ⟨?_⟩; go_simp; refine (HSB.out _).mono ?_; rintro e w' ⟨rfl, rfl⟩; exact ⟨_, rfl, rfl, Below.refl _ _⟩
            · intro x W hB hN; simp only [needs, sAt, dAt] at hN; simp only [putX, setX, List.foldl_cons, List.foldl_nil]; refine ⟨?_⟩; go_simp; exact ⟨rfl, Below.refl _ _⟩
          · intro x W11 hB hA
            simp only [allSp] at hA
            have s1 := hA.2.2.2.2.2.2.2.2.2.2.2.2.1
            rw [HMX.out] at s1
            have HW11 : Hid (Below wr.heap.size wr W11) := Below.trans (Below.drew (Below.refl _ _)) hB
            clear hA hB
            simp only [putX, setX, List.foldl_cons, List.foldl_nil, List.drop_succ_cons, List.drop_zero, s1, List.setIfInBounds_toArray, List.set_cons_succ, List.set_cons_zero]
            clear s1
            go_wp2_with fail
            refine wp_region_mono 29 [57, 58, 59, 60, 61, 62, 63, 64, 65, 66, 67, 68, 69, 70, 71, 72, 73, 74, 75, 76, 77, 78, 79, 80, 81, 82, 83, 84, 85] [[], [], [], [1, 2], [], [], [4, 5], [6], [], [], [8, 9], [10], [7, 11], [3, 12], [], [], [14, 15], [], [], [17, 18], [19], [], [], [21, 22], [23], [20, 24], [16, 25], [13, 26], [27]] [fun v _ => v = u7, fun v _ => v = .int .i64 hi, fun v _ => v = .int .i64 hi, fun v _ => v = .int .i64 ls2, fun v _ => v = .slice (some ⟨bz, oz, none⟩) zz.length cz, fun v _ => v = .int .i64 k, fun v _ => v = .pointer (some ⟨bz, oz + k, none⟩), fun v _ => v = .int .i64 z, fun v _ => v = .slice (some ⟨bz, oz, none⟩) zz.length cz, fun v _ => v = .int .i64 k, fun v _ => v = .pointer (some ⟨bz, oz + k, none⟩), fun v _ => v = .int .i64 z, fun v _ => v = .int .i64 z2, fun v _ => v = .int .i64 q1, fun v _ => v = .int .i64 mx, fun v _ => v = .int .i64 mx, fun v _ => v = .int .i64 ms2, fun v _ => v = .slice (some ⟨bz, oz, none⟩) zz.length cz, fun v _ => v = .int .i64 k, fun v _ => v = .pointer (some ⟨bz, oz + k, none⟩), fun v _ => v = .int .i64 z, fun v _ => v = .slice (some ⟨bz, oz, none⟩) zz.length cz, fun v _ => v = .int .i64 k, fun v _ => v = .pointer (some ⟨bz, oz + k, none⟩), fun v _ => v = .int .i64 z, fun v _ => v = .int .i64 z2, fun v _ => v = .int .i64 q2, fun v _ => v = .agg #[.int .i64 q1, .int .i64 q2], fun v w => Sl e2 2 w v [(q1, q2)]] (by kernel_rfl) (by kernel_rfl) ⟨st_eq _, st_eq _, st_eq _, st_eq _, st_eq _, st_eq _, st_eq _, st_eq _, st_eq _, st_eq _, st_eq _, st_eq _, st_eq _, st_eq _, st_eq _, st_eq _, st_eq _, st_eq _, st_eq _, st_eq _, st_eq _, st_eq _, st_eq _, st_eq _, st_eq _, st_eq _, st_eq _, st_eq _, st_sl _ _ _, trivial⟩ ?_ ?_
            · simp only [List.take_succ_cons, List.take_zero, steps, and_true]
              refine ⟨?_, ?_, ?_, ?_, ?_, ?_, ?_, ?_, ?_, ?_, ?_, ?_, ?_, ?_, ?_, ?_, ?_, ?_, ?_, ?_, ?_, ?_, ?_, ?_, ?_, ?_, ?_, ?_, ?_⟩
              · intro x W hB _; simp only [putX, setX, List.foldl_cons, List.foldl_nil]; refine ⟨?_⟩; go_simp; exact ⟨rfl, Below.refl _ _⟩
              · intro x W hB _; simp only [putX, setX, List.foldl_cons, List.foldl_nil]; refine ⟨?_⟩; go_simp; exact ⟨rfl, Below.refl _ _⟩
              · intro x W hB _; simp only [putX, setX, List.foldl_cons, List.foldl_nil]; refine ⟨?_⟩; go_simp; exact ⟨rfl, Below.refl _ _⟩
              · intro x W hB hN; simp only [needs, sAt, dAt] at hN; simp only [putX, setX, List.foldl_cons, List.foldl_nil]; refine ⟨?_⟩; go_simp; exact ⟨rfl, Below.refl _ _⟩
              · intro x W hB _; simp only [putX, setX, List.foldl_cons, List.foldl_nil]; refine ⟨?_⟩; go_simp; exact ⟨rfl, Below.refl _ _⟩
              · intro x W hB _; simp only [putX, setX, List.foldl_cons, List.foldl_nil]; refine ⟨?_⟩; go_simp; exact ⟨rfl, Below.refl _ _⟩
              · intro x W hB hN; simp only [needs, sAt, dAt] at hN; simp only [putX, setX, List.foldl_cons, List.foldl_nil]; refine ⟨?_⟩; go_simp; exact ⟨rfl, Below.refl _ _⟩
              · intro x W hB hN; simp only [needs, sAt, dAt] at hN; simp only [putX, setX, List.foldl_cons, List.foldl_nil]; obtain ⟨d0, d1, d2, _⟩ := HXC.out W (below_tr HW11.out (Below.trans (Below.drew (Below.refl _ _)) hB)); refine ⟨?_⟩; go_simp; exact ⟨rfl, Below.refl _ _⟩
              · intro x W hB _; simp only [putX, setX, List.foldl_cons, List.foldl_nil]; refine ⟨?_⟩; go_simp; exact ⟨rfl, Below.refl _ _⟩
              · intro x W hB _; simp only [putX, setX, List.foldl_cons, List.foldl_nil]; refine ⟨?_⟩; go_simp; exact ⟨rfl, Below.refl _ _⟩
              · intro x W hB hN; simp only [needs, sAt, dAt] at hN; simp only [putX, setX, List.foldl_cons, List.foldl_nil]; refine ⟨?_⟩; go_simp; exact ⟨rfl, Below.refl _ _⟩
              · intro x W hB hN; simp only [needs, sAt, dAt] at hN; simp only [putX, setX, List.foldl_cons, List.foldl_nil]; obtain ⟨d0, d1, d2, _⟩ := HXC.out W (below_tr HW11.out (Below.trans (Below.drew (Below.refl _ _)) hB)); refine ⟨?_⟩; go_simp; exact ⟨rfl, Below.refl _ _⟩
              · intro x W hB hN; simp only [needs, sAt, dAt] at hN; simp only [putX, setX, List.foldl_cons, List.foldl_nil]; refine ⟨?_⟩; go_simp; exact ⟨rfl, Below.refl _ _⟩
              · intro x W hB hN; simp only [needs, sAt, dAt] at hN; simp only [putX, setX, List.foldl_cons, List.foldl_nil]; refine ⟨?_⟩; go_simp; exact ⟨rfl, Below.refl _ _⟩
              · intro x W hB _; simp only [putX, setX, List.foldl_cons, List.foldl_nil]; refine ⟨?_⟩; go_simp; exact ⟨rfl, Below.refl _ _⟩
              · intro x W hB _; simp only [putX, setX, List.foldl_cons, List.foldl_nil]; refine ⟨?_⟩; go_simp; exact ⟨rfl, Below.refl _ _⟩
              · intro x W hB hN; simp only [needs, sAt, dAt] at hN; simp only [putX, setX, List.foldl_cons, List.foldl_nil]; refine ⟨?_⟩; go_simp; exact ⟨rfl, Below.refl _ _⟩
              · intro x W hB _; simp only [putX, setX, List.foldl_cons, List.foldl_nil]; refine ⟨?_⟩; go_simp; exact ⟨rfl, Below.refl _ _⟩
              · intro x W hB _; simp only [putX, setX, List.foldl_cons, List.foldl_nil]; refine ⟨?_⟩; go_simp; exact ⟨rfl, Below.refl _ _⟩
              · intro x W hB hN; simp only [needs, sAt, dAt] at hN; simp only [putX, setX, List.foldl_cons, List.foldl_nil]; refine ⟨?_⟩; go_simp; exact ⟨rfl, Below.refl _ _⟩
              · intro x W hB hN; simp only [needs, sAt, dAt] at hN; simp only [putX, setX, List.foldl_cons, List.foldl_nil]; obtain ⟨d0, d1, d2, _⟩ := HXC.out W (below_tr HW11.out (Below.trans (Below.drew (Below.refl _ _)) hB)); refine ⟨?_⟩; go_simp; exact ⟨rfl, Below.refl _ _⟩
              · intro x W hB _; simp only [putX, setX, List.foldl_cons, List.foldl_nil]; refine ⟨?_⟩; go_simp; exact ⟨rfl, Below.refl _ _⟩
              · intro x W hB _; simp only [putX, setX, List.foldl_cons, List.foldl_nil]; refine ⟨?_⟩; go_simp; exact ⟨rfl, Below.refl _ _⟩
              · intro x W hB hN; simp only [needs, sAt, dAt] at hN; simp only [putX, setX, List.foldl_cons, List.foldl_nil]; refine ⟨?_⟩; go_simp; exact ⟨rfl, Below.refl _ _⟩
              · intro x W hB hN; simp only [needs, sAt, dAt] at hN; simp only [putX, setX, List.foldl_cons, List.foldl_nil]; obtain ⟨d0, d1, d2, _⟩ := HXC.out W (below_tr HW11.out (Below.trans (Below.drew (Below.refl _ _)) hB)); refine ⟨?_⟩; go_simp; exact ⟨rfl, Below.refl _ _⟩
              · intro x W hB hN; simp only [needs, sAt, dAt] at hN; simp only [putX, setX, List.foldl_cons, List.foldl_nil]; refine ⟨?_⟩; go_simp; exact ⟨rfl, Below.refl _ _⟩
              · intro x W hB hN; simp only [needs, sAt, dAt] at hN; simp only [putX, setX, List.foldl_cons, List.foldl_nil]; refine ⟨?_⟩; go_simp; exact ⟨rfl, Below.refl _ _⟩
              · intro x W hB hN; simp only [needs, sAt, dAt] at hN; simp only [putX, setX, List.foldl_cons, List.foldl_nil]; refine ⟨?_⟩; go_simp; exact ⟨rfl, Below.refl _ _⟩
              · intro x W hB hN; simp only [needs, sAt, dAt] at hN; simp only [putX, setX, List.foldl_cons, List.foldl_nil]; refine ⟨?_⟩; go_simp; exact ⟨slp _ _ _, below_alloc1 _ _⟩
            · intro x W hB hA
              simp only [allSp] at hA
              have q0 := hA.1
              have q1' := hA.2.2.2.2.2.2.2.2.2.2.2.2.2.2.2.2.2.2.2.2.2.2.2.2.2.2.2.2.1
              obtain ⟨A1, c1, e1', _⟩ := q1'.form
              rw [e1'] at q1'
              obtain ⟨_, _, _, ho, hbW⟩ := HXC.out W (below_tr HW11.out (Below.trans (Below.drew (Below.refl _ _)) hB))
              clear hA
              simp only [putX, setX, List.foldl_cons, List.foldl_nil, List.drop_succ_cons, List.drop_zero, q0, e1', List.setIfInBounds_toArray, List.set_cons_succ, List.set_cons_zero]
              go_wp2_with (at_builtin; refine wpList_append_sl _ rfl _ _ 27 rfl W1.heap.size 66 i0 _ 2 16 Try.underlying27 hi0 hz0 hz1 hz2 rfl (by decide) e2_len e2_one _ acc rfl ho A1 1 c1 [(q1, q2)] rfl q1' (by simp; omega) (by decide) hbW.size ?_; intro v1 w4 ho4 hg4)
              have HO4 := Lib.hid ho4
              have HB4 := Lib.hid (ho.grown hg4 hbW (Nat.le_refl _))
              clear ho4 hg4 ho hbW
              go_roundw
              case rel => exact ⟨k + 1, by omega, by go_num, by rw [HTK.out]; exact HO4.out, HB4.out⟩
              case measure => simp [intOf]; omega
        · rw [if_neg h1] at HL2
          by_cases h2 : 0 < lo
          · rw [if_pos h2] at HL2
            have hw1 : IntKind.i64.wrap (lo * lo) = ls2 := by rw [← HL2.out]; exact IntWalk.i64_in _ (by rw [HL2.out]; omega)
            go_wp2_with fail
            refine wp_region_mono 13 [44, 45, 46, 47, 48, 49, 50, 51, 52, 53, 54, 55, 56] [[], [], [0, 1], [2], [3], [4], [], [], [6, 7], [8], [9], [10], [5, 11]] [fun v _ => v = .slice (some ⟨bp, op, none⟩) ps.length cp, fun v _ => v = .int .i64 k, fun v _ => v = .pointer (some ⟨bp, op + k * 2, none⟩), fun v _ => v = .pointer (some ⟨bp, op + k * 2, none⟩), fun v _ => v = .int .i64 lo, fun v _ => v = .int .i64 sa, fun v _ => v = .slice (some ⟨bp, op, none⟩) ps.length cp, fun v _ => v = .int .i64 k, fun v _ => v = .pointer (some ⟨bp, op + k * 2, none⟩), fun v _ => v = .pointer (some ⟨bp, op + k * 2 + 1, none⟩), fun v _ => v = .int .i64 hi, fun v _ => v = .int .i64 sb, fun v _ => v = .int .i64 (if sa < sb then sb else sa)] (by kernel_rfl) (by kernel_rfl) ⟨st_eq _, st_eq _, st_eq _, st_eq _, st_eq _, st_eq _, st_eq _, st_eq _, st_eq _, st_eq _, st_eq _, st_eq _, st_eq _, trivial⟩ ?_ ?_
            · simp only [List.take_succ_cons, List.take_zero, steps, and_true]
              refine ⟨?_, ?_, ?_, ?_, ?_, ?_, ?_, ?_, ?_, ?_, ?_, ?_, ?_⟩
              · intro x W hB _; simp only [putX, setX, List.foldl_cons, List.foldl_nil]; refine ⟨?_⟩; go_simp; exact ⟨rfl, Below.refl _ _⟩
              · intro x W hB _; simp only [putX, setX, List.foldl_cons, List.foldl_nil]; refine ⟨?_⟩; go_simp; exact ⟨rfl, Below.refl _ _⟩
              · intro x W hB hN; simp only [needs, sAt, dAt] at hN; simp only [putX, setX, List.foldl_cons, List.foldl_nil]; refine ⟨?_⟩; go_simp; exact ⟨rfl, Below.refl _ _⟩
              · intro x W hB hN; simp only [needs, sAt, dAt] at hN; simp only [putX, setX, List.foldl_cons, List.foldl_nil]; refine ⟨?_⟩; go_simp; exact ⟨rfl, Below.refl _ _⟩
              · intro x W hB hN; simp only [needs, sAt, dAt] at hN; simp only [putX, setX, List.foldl_cons, List.foldl_nil]; obtain ⟨d0, d1, d2, _⟩ := HXC.out W (Below.trans (Below.drew (Below.refl _ _)) hB); refine ⟨?_⟩; go_simp; exact ⟨rfl, Below.refl _ _⟩
              · intro x W hB hN; simp only [needs, sAt, dAt] at hN; simp only [putX, setX, List.foldl_cons, List.foldl_nil]; refine ⟨?_⟩; go_simp; refine (HSA.out _).mono ?_; rintro e w' ⟨rfl, rfl⟩; exact ⟨_, rfl, rfl, Below.refl _ _⟩
              · intro x W hB _; simp only [putX, setX, List.foldl_cons, List.foldl_nil]; refine ⟨?_⟩; go_simp; exact ⟨rfl, Below.refl _ _⟩
              · intro x W hB _; simp only [putX, setX, List.foldl_cons, List.foldl_nil]; refine ⟨?_⟩; go_simp; exact ⟨rfl, Below.refl _ _⟩
              · intro x W hB hN; simp only [needs, sAt, dAt] at hN; simp only [putX, setX, List.foldl_cons, List.foldl_nil]; refine ⟨?_⟩; go_simp; exact ⟨rfl, Below.refl _ _⟩
              · intro x W hB hN; simp only [needs, sAt, dAt] at hN; simp only [putX, setX, List.foldl_cons, List.foldl_nil]; refine ⟨?_⟩; go_simp; exact ⟨rfl, Below.refl _ _⟩
              · intro x W hB hN; simp only [needs, sAt, dAt] at hN; simp only [putX, setX, List.foldl_cons, List.foldl_nil]; obtain ⟨d0, d1, d2, _⟩ := HXC.out W (Below.trans (Below.drew (Below.refl _ _)) hB); refine ⟨?_⟩; go_simp; exact ⟨rfl, Below.refl _ _⟩
              · intro x W hB hN; simp only [needs, sAt, dAt] at hN; simp only [putX, setX, List.foldl_cons, List.foldl_nil]; refine ⟨?_⟩; go_simp; refine (HSB.out _).mono ?_; rintro e w' ⟨rfl, rfl⟩; exact ⟨_, rfl, rfl, Below.refl _ _⟩
              · intro x W hB hN; simp only [needs, sAt, dAt] at hN; simp only [putX, setX, List.foldl_cons, List.foldl_nil]; refine ⟨?_⟩; go_simp; exact ⟨rfl, Below.refl _ _⟩
            · intro x W11 hB hA
              simp only [allSp] at hA
              have s1 := hA.2.2.2.2.2.2.2.2.2.2.2.2.1
              rw [HMX.out] at s1
              have HW11 : Hid (Below wr.heap.size wr W11) := Below.trans (Below.drew (Below.refl _ _)) hB
              clear hA hB
              simp only [putX, setX, List.foldl_cons, List.foldl_nil, List.drop_succ_cons, List.drop_zero, s1, List.setIfInBounds_toArray, List.set_cons_succ, List.set_cons_zero]
              clear s1
              go_wp2_with fail
              refine wp_region_mono 29 [57, 58, 59, 60, 61, 62, 63, 64, 65, 66, 67, 68, 69, 70, 71, 72, 73, 74, 75, 76, 77, 78, 79, 80, 81, 82, 83, 84, 85] [[], [], [], [1, 2], [], [], [4, 5], [6], [], [], [8, 9], [10], [7, 11], [3, 12], [], [], [14, 15], [], [], [17, 18], [19], [], [], [21, 22], [23], [20, 24], [16, 25], [13, 26], [27]] [fun v _ => v = u7, fun v _ => v = .int .i64 lo, fun v _ => v = .int .i64 lo, fun v _ => v = .int .i64 ls2, fun v _ => v = .slice (some ⟨bz, oz, none⟩) zz.length cz, fun v _ => v = .int .i64 k, fun v _ => v = .pointer (some ⟨bz, oz + k, none⟩), fun v _ => v = .int .i64 z, fun v _ => v = .slice (some ⟨bz, oz, none⟩) zz.length cz, fun v _ => v = .int .i64 k, fun v _ => v = .pointer (some ⟨bz, oz + k, none⟩), fun v _ => v = .int .i64 z, fun v _ => v = .int .i64 z2, fun v _ => v = .int .i64 q1, fun v _ => v = .int .i64 mx, fun v _ => v = .int .i64 mx, fun v _ => v = .int .i64 ms2, fun v _ => v = .slice (some ⟨bz, oz, none⟩) zz.length cz, fun v _ => v = .int .i64 k, fun v _ => v = .pointer (some ⟨bz, oz + k, none⟩), fun v _ => v = .int .i64 z, fun v _ => v = .slice (some ⟨bz, oz, none⟩) zz.length cz, fun v _ => v = .int .i64 k, fun v _ => v = .pointer (some ⟨bz, oz + k, none⟩), fun v _ => v = .int .i64 z, fun v _ => v = .int .i64 z2, fun v _ => v = .int .i64 q2, fun v _ => v = .agg #[.int .i64 q1, .int .i64 q2], fun v w => Sl e2 2 w v [(q1, q2)]] (by kernel_rfl) (by kernel_rfl) ⟨st_eq _, st_eq _, st_eq _, st_eq _, st_eq _, st_eq _, st_eq _, st_eq _, st_eq _, st_eq _, st_eq _, st_eq _, st_eq _, st_eq _, st_eq _, st_eq _, st_eq _, st_eq _, st_eq _, st_eq _, st_eq _, st_eq _, st_eq _, st_eq _, st_eq _, st_eq _, st_eq _, st_eq _, st_sl _ _ _, trivial⟩ ?_ ?_
              · simp only [List.take_succ_cons, List.take_zero, steps, and_true]
                refine ⟨?_, ?_, ?_, ?_, ?_, ?_, ?_, ?_, ?_, ?_, ?_, ?_, ?_, ?_, ?_, ?_, ?_, ?_, ?_, ?_, ?_, ?_, ?_, ?_, ?_, ?_, ?_, ?_, ?_⟩
                · intro x W hB _; simp only [putX, setX, List.foldl_cons, List.foldl_nil]; refine ⟨?_⟩; go_simp; exact ⟨rfl, Below.refl _ _⟩
                · intro x W hB _; simp only [putX, setX, List.foldl_cons, List.foldl_nil]; refine ⟨?_⟩; go_simp; exact ⟨rfl, Below.refl _ _⟩
                · intro x W hB _; simp only [putX, setX, List.foldl_cons, List.foldl_nil]; refine ⟨?_⟩; go_simp; exact ⟨rfl, Below.refl _ _⟩
                · intro x W hB hN; simp only [needs, sAt, dAt] at hN; simp only [putX, setX, List.foldl_cons, List.foldl_nil]; refine ⟨?_⟩; go_simp; exact ⟨rfl, Below.refl _ _⟩
                · intro x W hB _; simp only [putX, setX, List.foldl_cons, List.foldl_nil]; refine ⟨?_⟩; go_simp; exact ⟨rfl, Below.refl _ _⟩
                · intro x W hB _; simp only [putX, setX, List.foldl_cons, List.foldl_nil]; refine ⟨?_⟩; go_simp; exact ⟨rfl, Below.refl _ _⟩
                · intro x W hB hN; simp only [needs, sAt, dAt] at hN; simp only [putX, setX, List.foldl_cons, List.foldl_nil]; refine ⟨?_⟩; go_simp; exact ⟨rfl, Below.refl _ _⟩
                · intro x W hB hN; simp only [needs, sAt, dAt] at hN; simp only [putX, setX, List.foldl_cons, List.foldl_nil]; obtain ⟨d0, d1, d2, _⟩ := HXC.out W (below_tr HW11.out (Below.trans (Below.drew (Below.refl _ _)) hB)); refine ⟨?_⟩; go_simp; exact ⟨rfl, Below.refl _ _⟩
                · intro x W hB _; simp only [putX, setX, List.foldl_cons, List.foldl_nil]; refine ⟨?_⟩; go_simp; exact ⟨rfl, Below.refl _ _⟩
                · intro x W hB _; simp only [putX, setX, List.foldl_cons, List.foldl_nil]; refine ⟨?_⟩; go_simp; exact ⟨rfl, Below.refl _ _⟩
                · intro x W hB hN; simp only [needs, sAt, dAt] at hN; simp only [putX, setX, List.foldl_cons, List.foldl_nil]; refine ⟨?_⟩; go_simp; exact ⟨rfl, Below.refl _ _⟩
                · intro x W hB hN; simp only [needs, sAt, dAt] at hN; simp only [putX, setX, List.foldl_cons, List.foldl_nil]; obtain ⟨d0, d1, d2, _⟩ := HXC.out W (below_tr HW11.out (Below.trans (Below.drew (Below.refl _ _)) hB)); refine ⟨?_⟩; go_simp; exact ⟨rfl, Below.refl _ _⟩
                · intro x W hB hN; simp only [needs, sAt, dAt] at hN; simp only [putX, setX, List.foldl_cons, List.foldl_nil]; refine ⟨?_⟩; go_simp; exact ⟨rfl, Below.refl _ _⟩
                · intro x W hB hN; simp only [needs, sAt, dAt] at hN; simp only [putX, setX, List.foldl_cons, List.foldl_nil]; refine ⟨?_⟩; go_simp; exact ⟨rfl, Below.refl _ _⟩
                · intro x W hB _; simp only [putX, setX, List.foldl_cons, List.foldl_nil]; refine ⟨?_⟩; go_simp; exact ⟨rfl, Below.refl _ _⟩
                · intro x W hB _; simp only [putX, setX, List.foldl_cons, List.foldl_nil]; refine ⟨?_⟩; go_simp; exact ⟨rfl, Below.refl _ _⟩
                · intro x W hB hN; simp only [needs, sAt, dAt] at hN; simp only [putX, setX, List.foldl_cons, List.foldl_nil]; refine ⟨?_⟩; go_simp; exact ⟨rfl, Below.refl _ _⟩
                · intro x W hB _; simp only [putX, setX, List.foldl_cons, List.foldl_nil]; refine ⟨?_⟩; go_simp; exact ⟨rfl, Below.refl _ _⟩
                · intro x W hB _; simp only [putX, setX, List.foldl_cons, List.foldl_nil]; refine ⟨?_⟩; go_simp; exact ⟨rfl, Below.refl _ _⟩
                · intro x W hB hN; simp only [needs, sAt, dAt] at hN; simp only [putX, setX, List.foldl_cons, List.foldl_nil]; refine ⟨?_⟩; go_simp; exact ⟨rfl, Below.refl _ _⟩
                · intro x W hB hN; simp only [needs, sAt, dAt] at hN; simp only [putX, setX, List.foldl_cons, List.foldl_nil]; obtain ⟨d0, d1, d2, _⟩ := HXC.out W (below_tr HW11.out (Below.trans (Below.drew (Below.refl _ _)) hB)); refine ⟨?_⟩; go_simp; exact ⟨rfl, Below.refl _ _⟩
                · intro x W hB _; simp only [putX, setX, List.foldl_cons, List.foldl_nil]; refine ⟨?_⟩; go_simp; exact ⟨rfl, Below.refl _ _⟩
                · intro x W hB _; simp only [putX, setX, List.foldl_cons, List.foldl_nil]; refine ⟨?_⟩; go_simp; exact ⟨rfl, Below.refl _ _⟩
                · intro x W hB hN; simp only [needs, sAt, dAt] at hN; simp only [putX, setX, List.foldl_cons, List.foldl_nil]; refine ⟨?_⟩; go_simp; exact ⟨rfl, Below.refl _ _⟩
                · intro x W hB hN; simp only [needs, sAt, dAt] at hN; simp only [putX, setX, List.foldl_cons, List.foldl_nil]; obtain ⟨d0, d1, d2, _⟩ := HXC.out W (below_tr HW11.out (Below.trans (Below.drew (Below.refl _ _)) hB)); refine ⟨?_⟩; go_simp; exact ⟨rfl, Below.refl _ _⟩
                · intro x W hB hN; simp only [needs, sAt, dAt] at hN; simp only [putX, setX, List.foldl_cons, List.foldl_nil]; refine ⟨?_⟩; go_simp; exact ⟨rfl, Below.refl _ _⟩
                · intro x W hB hN; simp only [needs, sAt, dAt] at hN; simp only [putX, setX, List.foldl_cons, List.foldl_nil]; refine ⟨?_⟩; go_simp; exact ⟨rfl, Below.refl _ _⟩
                · intro x W hB hN; simp only [needs, sAt, dAt] at hN; simp only [putX, setX, List.foldl_cons, List.foldl_nil]; refine ⟨?_⟩; go_simp; exact ⟨rfl, Below.refl _ _⟩
                · intro x W hB hN; simp only [needs, sAt, dAt] at hN; simp only [putX, setX, List.foldl_cons, List.foldl_nil]; refine ⟨?_⟩; go_simp; exact ⟨slp _ _ _, below_alloc1 _ _⟩
              · intro x W hB hA
                simp only [allSp] at hA
                have q0 := hA.1
                have q1' := hA.2.2.2.2.2.2.2.2.2.2.2.2.2.2.2.2.2.2.2.2.2.2.2.2.2.2.2.2.1
                obtain ⟨A1, c1, e1', _⟩ := q1'.form
                rw [e1'] at q1'
                obtain ⟨_, _, _, ho, hbW⟩ := HXC.out W (below_tr HW11.out (Below.trans (Below.drew (Below.refl _ _)) hB))
                clear hA
                simp only [putX, setX, List.foldl_cons, List.foldl_nil, List.drop_succ_cons, List.drop_zero, q0, e1', List.setIfInBounds_toArray, List.set_cons_succ, List.set_cons_zero]
                go_wp2_with (at_builtin; refine wpList_append_sl _ rfl _ _ 27 rfl W1.heap.size 66 i0 _ 2 16 Try.underlying27 hi0 hz0 hz1 hz2 rfl (by decide) e2_len e2_one _ acc rfl ho A1 1 c1 [(q1, q2)] rfl q1' (by simp; omega) (by decide) hbW.size ?_; intro v1 w4 ho4 hg4)
                have HO4 := Lib.hid ho4
                have HB4 := Lib.hid (ho.grown hg4 hbW (Nat.le_refl _))
                clear ho4 hg4 ho hbW
                go_roundw
                case rel => exact ⟨k + 1, by omega, by go_num, by rw [HTK.out]; exact HO4.out, HB4.out⟩
                case measure => simp [intOf]; omega
          · rw [if_neg h2] at HL2
            have hw0 : IntKind.i64.wrap 0 = ls2 := by have h := HL2.out; simp only [Int.mul_zero] at h; rw [← h]; rfl
            have hw1 : IntKind.i64.wrap (0 * 0) = ls2 := by rw [← HL2.out]; exact IntWalk.i64_in _ (by rw [HL2.out]; omega)
            go_wp2_with fail
            refine wp_region_mono 13 [44, 45, 46, 47, 48, 49, 50, 51, 52, 53, 54, 55, 56] [[], [], [0, 1], [2], [3], [4], [], [], [6, 7], [8], [9], [10], [5, 11]] [fun v _ => v = .slice (some ⟨bp, op, none⟩) ps.length cp, fun v _ => v = .int .i64 k, fun v _ => v = .pointer (some ⟨bp, op + k * 2, none⟩), fun v _ => v = .pointer (some ⟨bp, op + k * 2, none⟩), fun v _ => v = .int .i64 lo, fun v _ => v = .int .i64 sa, fun v _ => v = .slice (some ⟨bp, op, none⟩) ps.length cp, fun v _ => v = .int .i64 k, fun v _ => v = .pointer (some ⟨bp, op + k * 2, none⟩), fun v _ => v = .pointer (some ⟨bp, op + k * 2 + 1, none⟩), fun v _ => v = .int .i64 hi, fun v _ => v = .int .i64 sb, fun v _ => v = .int .i64 (if sa < sb then sb else sa)] (by kernel_rfl) (by kernel_rfl) ⟨st_eq _, st_eq _, st_eq _, st_eq _, st_eq _, st_eq _, st_eq _, st_eq _, st_eq _, st_eq _, st_eq _, st_eq _, st_eq _, trivial⟩ ?_ ?_
            · simp only [List.take_succ_cons, List.take_zero, steps, and_true]
              refine ⟨?_, ?_, ?_, ?_, ?_, ?_, ?_, ?_, ?_, ?_, ?_, ?_, ?_⟩
              · intro x W hB _; simp only [putX, setX, List.foldl_cons, List.foldl_nil]; refine ⟨?_⟩; go_simp; exact ⟨rfl, Below.refl _ _⟩
              · intro x W hB _; simp only [putX, setX, List.foldl_cons, List.foldl_nil]; refine ⟨?_⟩; go_simp; exact ⟨rfl, Below.refl _ _⟩
              · intro x W hB hN; simp only [needs, sAt, dAt] at hN; simp only [putX, setX, List.foldl_cons, List.foldl_nil]; refine ⟨?_⟩; go_simp; exact ⟨rfl, Below.refl _ _⟩
              · intro x W hB hN; simp only [needs, sAt, dAt] at hN; simp only [putX, setX, List.foldl_cons, List.foldl_nil]; refine ⟨?_⟩; go_simp; exact ⟨rfl, Below.refl _ _⟩
              · intro x W hB hN; simp only [needs, sAt, dAt] at hN; simp only [putX, setX, List.foldl_cons, List.foldl_nil]; obtain ⟨d0, d1, d2, _⟩ := HXC.out W (Below.trans (Below.drew (Below.refl _ _)) hB); refine ⟨?_⟩; go_simp; exact ⟨rfl, Below.refl _ _⟩
              · intro x W hB hN; simp only [needs, sAt, dAt] at hN; simp only [putX, setX, List.foldl_cons, List.foldl_nil]; refine ⟨?_⟩; go_simp; refine (HSA.out _).mono ?_; rintro e w' ⟨rfl, rfl⟩; exact ⟨_, rfl, rfl, Below.refl _ _⟩
              · intro x W hB _; simp only [putX, setX, List.foldl_cons, List.foldl_nil]; refine ⟨?_⟩; go_simp; exact ⟨rfl, Below.refl _ _⟩
              · intro x W hB _; simp only [putX, setX, List.foldl_cons, List.foldl_nil]; refine ⟨?_⟩; go_simp; exact ⟨rfl, Below.refl _ _⟩
              · intro x W hB hN; simp only [needs, sAt, dAt] at hN; simp only [putX, setX, List.foldl_cons, List.foldl_nil]; refine ⟨?_⟩; go_simp; exact ⟨rfl, Below.refl _ _⟩
              · intro x W hB hN; simp only [needs, sAt, dAt] at hN; simp only [putX, setX, List.foldl_cons, List.foldl_nil]; refine ⟨?_⟩; go_simp; exact ⟨rfl, Below.refl _ _⟩
              · intro x W hB hN; simp only [needs, sAt, dAt] at hN; simp only [putX, setX, List.foldl_cons, List.foldl_nil]; obtain ⟨d0, d1, d2, _⟩ := HXC.out W (Below.trans (Below.drew (Below.refl _ _)) hB); refine ⟨?_⟩; go_simp; exact ⟨rfl, Below.refl _ _⟩
              · intro x W hB hN; simp only [needs, sAt, dAt] at hN; simp only [putX, setX, List.foldl_cons, List.foldl_nil]; refine ⟨?_⟩; go_simp; refine (HSB.out _).mono ?_; rintro e w' ⟨rfl, rfl⟩; exact ⟨_, rfl, rfl, Below.refl _ _⟩
              · intro x W hB hN; simp only [needs, sAt, dAt] at hN; simp only [putX, setX, List.foldl_cons, List.foldl_nil]; refine ⟨?_⟩; go_simp; exact ⟨rfl, Below.refl _ _⟩
            · intro x W11 hB hA
              simp only [allSp] at hA
              have s1 := hA.2.2.2.2.2.2.2.2.2.2.2.2.1
              rw [HMX.out] at s1
              have HW11 : Hid (Below wr.heap.size wr W11) := Below.trans (Below.drew (Below.refl _ _)) hB
              clear hA hB
              simp only [putX, setX, List.foldl_cons, List.foldl_nil, List.drop_succ_cons, List.drop_zero, s1, List.setIfInBounds_toArray, List.set_cons_succ, List.set_cons_zero]
              clear s1
              go_wp2_with fail
              refine wp_region_mono 29 [57, 58, 59, 60, 61, 62, 63, 64, 65, 66, 67, 68, 69, 70, 71, 72, 73, 74, 75, 76, 77, 78, 79, 80, 81, 82, 83, 84, 85] [[], [], [], [1, 2], [], [], [4, 5], [6], [], [], [8, 9], [10], [7, 11], [3, 12], [], [], [14, 15], [], [], [17, 18], [19], [], [], [21, 22], [23], [20, 24], [16, 25], [13, 26], [27]] [fun v _ => v = u7, fun v _ => v = .int .i64 0, fun v _ => v = .int .i64 0, fun v _ => v = .int .i64 ls2, fun v _ => v = .slice (some ⟨bz, oz, none⟩) zz.length cz, fun v _ => v = .int .i64 k, fun v _ => v = .pointer (some ⟨bz, oz + k, none⟩), fun v _ => v = .int .i64 z, fun v _ => v = .slice (some ⟨bz, oz, none⟩) zz.length cz, fun v _ => v = .int .i64 k, fun v _ => v = .pointer (some ⟨bz, oz + k, none⟩), fun v _ => v = .int .i64 z, fun v _ => v = .int .i64 z2, fun v _ => v = .int .i64 q1, fun v _ => v = .int .i64 mx, fun v _ => v = .int .i64 mx, fun v _ => v = .int .i64 ms2, fun v _ => v = .slice (some ⟨bz, oz, none⟩) zz.length cz, fun v _ => v = .int .i64 k, fun v _ => v = .pointer (some ⟨bz, oz + k, none⟩), fun v _ => v = .int .i64 z, fun v _ => v = .slice (some ⟨bz, oz, none⟩) zz.length cz, fun v _ => v = .int .i64 k, fun v _ => v = .pointer (some ⟨bz, oz + k, none⟩), fun v _ => v = .int .i64 z, fun v _ => v = .int .i64 z2, fun v _ => v = .int .i64 q2, fun v _ => v = .agg #[.int .i64 q1, .int .i64 q2], fun v w => Sl e2 2 w v [(q1, q2)]] (by kernel_rfl) (by kernel_rfl) ⟨st_eq _, st_eq _, st_eq _, st_eq _, st_eq _, st_eq _, st_eq _, st_eq _, st_eq _, st_eq _, st_eq _, st_eq _, st_eq _, st_eq _, st_eq _, st_eq _, st_eq _, st_eq _, st_eq _, st_eq _, st_eq _, st_eq _, st_eq _, st_eq _, st_eq _, st_eq _, st_eq _, st_eq _, st_sl _ _ _, trivial⟩ ?_ ?_
              · simp only [List.take_succ_cons, List.take_zero, steps, and_true]
                refine ⟨?_, ?_, ?_, ?_, ?_, ?_, ?_, ?_, ?_, ?_, ?_, ?_, ?_, ?_, ?_, ?_, ?_, ?_, ?_, ?_, ?_, ?_, ?_, ?_, ?_, ?_, ?_, ?_, ?_⟩
                · intro x W hB _; simp only [putX, setX, List.foldl_cons, List.foldl_nil]; refine ⟨?_⟩; go_simp; exact ⟨rfl, Below.refl _ _⟩
                · intro x W hB _; simp only [putX, setX, List.foldl_cons, List.foldl_nil]; refine ⟨?_⟩; go_simp; exact ⟨rfl, Below.refl _ _⟩
                · intro x W hB _; simp only [putX, setX, List.foldl_cons, List.foldl_nil]; refine ⟨?_⟩; go_simp; exact ⟨rfl, Below.refl _ _⟩
                · intro x W hB hN; simp only [needs, sAt, dAt] at hN; simp only [putX, setX, List.foldl_cons, List.foldl_nil]; refine ⟨?_⟩; go_simp; exact ⟨rfl, Below.refl _ _⟩
                · intro x W hB _; simp only [putX, setX, List.foldl_cons, List.foldl_nil]; refine ⟨?_⟩; go_simp; exact ⟨rfl, Below.refl _ _⟩
                · intro x W hB _; simp only [putX, setX, List.foldl_cons, List.foldl_nil]; refine ⟨?_⟩; go_simp; exact ⟨rfl, Below.refl _ _⟩
                · intro x W hB hN; simp only [needs, sAt, dAt] at hN; simp only [putX, setX, List.foldl_cons, List.foldl_nil]; refine ⟨?_⟩; go_simp; exact ⟨rfl, Below.refl _ _⟩
                · intro x W hB hN; simp only [needs, sAt, dAt] at hN; simp only [putX, setX, List.foldl_cons, List.foldl_nil]; obtain ⟨d0, d1, d2, _⟩ := HXC.out W (below_tr HW11.out (Below.trans (Below.drew (Below.refl _ _)) hB)); refine ⟨?_⟩; go_simp; exact ⟨rfl, Below.refl _ _⟩
                · intro x W hB _; simp only [putX, setX, List.foldl_cons, List.foldl_nil]; refine ⟨?_⟩; go_simp; exact ⟨rfl, Below.refl _ _⟩
                · intro x W hB _; simp only [putX, setX, List.foldl_cons, List.foldl_nil]; refine ⟨?_⟩; go_simp; exact ⟨rfl, Below.refl _ _⟩
                · intro x W hB hN; simp only [needs, sAt, dAt] at hN; simp only [putX, setX, List.foldl_cons, List.foldl_nil]; refine ⟨?_⟩; go_simp; exact ⟨rfl, Below.refl _ _⟩
                · intro x W hB hN; simp only [needs, sAt, dAt] at hN; simp only [putX, setX, List.foldl_cons, List.foldl_nil]; obtain ⟨d0, d1, d2, _⟩ := HXC.out W (below_tr HW11.out (Below.trans (Below.drew (Below.refl _ _)) hB)); refine ⟨?_⟩; go_simp; exact ⟨rfl, Below.refl _ _⟩
                · intro x W hB hN; simp only [needs, sAt, dAt] at hN; simp only [putX, setX, List.foldl_cons, List.foldl_nil]; refine ⟨?_⟩; go_simp; exact ⟨rfl, Below.refl _ _⟩
                · intro x W hB hN; simp only [needs, sAt, dAt] at hN; simp only [putX, setX, List.foldl_cons, List.foldl_nil]; refine ⟨?_⟩; go_simp; exact ⟨rfl, Below.refl _ _⟩
                · intro x W hB _; simp only [putX, setX, List.foldl_cons, List.foldl_nil]; refine ⟨?_⟩; go_simp; exact ⟨rfl, Below.refl _ _⟩
                · intro x W hB _; simp only [putX, setX, List.foldl_cons, List.foldl_nil]; refine ⟨?_⟩; go_simp; exact ⟨rfl, Below.refl _ _⟩
                · intro x W hB hN; simp only [needs, sAt, dAt] at hN; simp only [putX, setX, List.foldl_cons, List.foldl_nil]; refine ⟨?_⟩; go_simp; exact ⟨rfl, Below.refl _ _⟩
                · intro x W hB _; simp only [putX, setX, List.foldl_cons, List.foldl_nil]; refine ⟨?_⟩; go_simp; exact ⟨rfl, Below.refl _ _⟩
                · intro x W hB _; simp only [putX, setX, List.foldl_cons, List.foldl_nil]; refine ⟨?_⟩; go_simp; exact ⟨rfl, Below.refl _ _⟩
                · intro x W hB hN; simp only [needs, sAt, dAt] at hN; simp only [putX, setX, List.foldl_cons, List.foldl_nil]; refine ⟨?_⟩; go_simp; exact ⟨rfl, Below.refl _ _⟩
                · intro x W hB hN; simp only [needs, sAt, dAt] at hN; simp only [putX, setX, List.foldl_cons, List.foldl_nil]; obtain ⟨d0, d1, d2, _⟩ := HXC.out W (below_tr HW11.out (Below.trans (Below.drew (Below.refl _ _)) hB)); refine ⟨?_⟩; go_simp; exact ⟨rfl, Below.refl _ _⟩
                · intro x W hB _; simp only [putX, setX, List.foldl_cons, List.foldl_nil]; refine ⟨?_⟩; go_simp; exact ⟨rfl, Below.refl _ _⟩
                · intro x W hB _; simp only [putX, setX, List.foldl_cons, List.foldl_nil]; refine ⟨?_⟩; go_simp; exact ⟨rfl, Below.refl _ _⟩
                · intro x W hB hN; simp only [needs, sAt, dAt] at hN; simp only [putX, setX, List.foldl_cons, List.foldl_nil]; refine ⟨?_⟩; go_simp; exact ⟨rfl, Below.refl _ _⟩
                · intro x W hB hN; simp only [needs, sAt, dAt] at hN; simp only [putX, setX, List.foldl_cons, List.foldl_nil]; obtain ⟨d0, d1, d2, _⟩ := HXC.out W (below_tr HW11.out (Below.trans (Below.drew (Below.refl _ _)) hB)); refine ⟨?_⟩; go_simp; exact ⟨rfl, Below.refl _ _⟩
                · intro x W hB hN; simp only [needs, sAt, dAt] at hN; simp only [putX, setX, List.foldl_cons, List.foldl_nil]; refine ⟨?_⟩; go_simp; exact ⟨rfl, Below.refl _ _⟩
                · intro x W hB hN; simp only [needs, sAt, dAt] at hN; simp only [putX, setX, List.foldl_cons, List.foldl_nil]; refine ⟨?_⟩; go_simp; exact ⟨rfl, Below.refl _ _⟩
                · intro x W hB hN; simp only [needs, sAt, dAt] at hN; simp only [putX, setX, List.foldl_cons, List.foldl_nil]; refine ⟨?_⟩; go_simp; exact ⟨rfl, Below.refl _ _⟩
                · intro x W hB hN; simp only [needs, sAt, dAt] at hN; simp only [putX, setX, List.foldl_cons, List.foldl_nil]; refine ⟨?_⟩; go_simp; exact ⟨slp _ _ _, below_alloc1 _ _⟩
              · intro x W hB hA
                simp only [allSp] at hA
                have q0 := hA.1
                have q1' := hA.2.2.2.2.2.2.2.2.2.2.2.2.2.2.2.2.2.2.2.2.2.2.2.2.2.2.2.2.1
                obtain ⟨A1, c1, e1', _⟩ := q1'.form
                rw [e1'] at q1'
                obtain ⟨_, _, _, ho, hbW⟩ := HXC.out W (below_tr HW11.out (Below.trans (Below.drew (Below.refl _ _)) hB))
                clear hA
                simp only [putX, setX, List.foldl_cons, List.foldl_nil, List.drop_succ_cons, List.drop_zero, q0, e1', List.setIfInBounds_toArray, List.set_cons_succ, List.set_cons_zero]
                go_wp2_with (at_builtin; refine wpList_append_sl _ rfl _ _ 27 rfl W1.heap.size 66 i0 _ 2 16 Try.underlying27 hi0 hz0 hz1 hz2 rfl (by decide) e2_len e2_one _ acc rfl ho A1 1 c1 [(q1, q2)] rfl q1' (by simp; omega) (by decide) hbW.size ?_; intro v1 w4 ho4 hg4)
                have HO4 := Lib.hid ho4
                have HB4 := Lib.hid (ho.grown hg4 hbW (Nat.le_refl _))
                clear ho4 hg4 ho hbW
                go_roundw
                case rel => exact ⟨k + 1, by omega, by go_num, by rw [HTK.out]; exact HO4.out, HB4.out⟩
                case measure => simp [intOf]; omega
      · obtain rfl : k = ps.length := by omega
        rw [show (qs.map sqR).take ps.length = qs.map sqR from List.take_of_length_le (by rw [List.length_map, HLN.out.1, HLN.out.2.1]; exact Nat.le_refl _)] at HO
        go_wp2_with fail
        go_ret
        exact ⟨_, rfl, HO.out.less HB1.out.size, below_tr HB1.out HB.out⟩
end Go.Proofs.Ytghglgaimhfedaa
