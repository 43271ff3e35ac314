/-
  Walks of chapter 1's reference: the length that is enough for a box.
-/
import Derived.Test.YtghglgaimhfedaaZOe
namespace Go.Proofs.Ytghglgaimhfedaa
open Go.RowKit Go.Shelf
attribute [local go_sem] monoUpon_value monoUpon_skip monoUpon_enter
attribute [local go_sem] run_field0 run_field1

set_option maxRecDepth 100000 in
set_option maxHeartbeats 8000000 in
theorem rEnough_any (v u : Value) (l : Ln) (b : List (Int × Int)) (w : World) (hs : Sl e3 3 w v l.ks) (hu : Sl e2 2 w u b) (hl : LnOk l) (hbx : BoxOk l b) (hz : slackErr l = 0) :
    Calls Try.prog 66 #[.agg #[.int .i64 l.x, .int .i64 l.z, v], u] w fun e w' => e = .returned (.int .i64 (totR lenR (pulls l b)).2) ∧ Below w.heap.size w w' := by
  obtain ⟨i0, hi0, hz0, hz1, hz2⟩ := info_parts rangeinfo2
  have hs0 := hs
  have hu0 := hu
  have HS := Lib.hid hs
  obtain ⟨A, c, rfl, hcap⟩ := hs.form
  obtain ⟨A', c', rfl, hcap'⟩ := hu.form
  have hlp : (loHi l b).length = l.ks.length := by unfold loHi; rw [List.length_map]; exact pulls_len hbx
  have hlq : (pulls l b).length = l.ks.length := pulls_len hbx
  have hlz : (zs l).length = l.ks.length := zs_len l
  have HP : Hid (∀ W, Below w.heap.size w W → Calls Try.prog 63 #[.agg #[.int .i64 l.x, .int .i64 l.z, .slice A l.ks.length c], .slice A' b.length c'] W fun e w' => ∃ r, e = .returned r ∧ Sl e2 2 w' r (loHi l b) ∧ Below W.heap.size W w') := fun W h =>
    (rPulls_any _ _ l b W (hs0.below h) (hu0.below h) hl hbx).mono fun e w' ⟨r, a, o, d⟩ => ⟨r, a, o.sl e2_len, d⟩
  have HH : Hid (∀ W, Below w.heap.size w W → Calls Try.prog 98 #[.agg #[.int .i64 l.x, .int .i64 l.z, .slice A l.ks.length c]] W fun e w' => ∃ r, e = .returned r ∧ Sl e1 1 w' r (zs l) ∧ Below W.heap.size W w') := fun W h =>
    (heights_any _ l W (hs0.below h) hl).mono fun e w' ⟨r, a, o, d⟩ => ⟨r, a, o.sl e1_len, d⟩
  have HAT : Hid (∀ k (h : k < (loHi l b).length) (hz : k < (zs l).length) (hp : k < (pulls l b).length), (loHi l b)[k] = ((pulls l b)[k].lo, (pulls l b)[k].hi) ∧ (zs l)[k] = (pulls l b)[k].z) := fun k h hz hp => by
    refine ⟨List.getElem_map (fun p : Pl => (p.lo, p.hi)), ?_⟩
    have e : (pulls l b).map (·.z) = zs l := pullsF_zs _ _ _ _ _ hbx.len
    have e2' : (zs l)[k]? = ((pulls l b).map (·.z))[k]? := by rw [e]
    rw [List.getElem?_eq_getElem hz, List.getElem?_map, List.getElem?_eq_getElem hp] at e2'
    exact Option.some.inj e2'
  have HOK := Lib.hid (fun p (hp : p ∈ pulls l b) => And.intro (pulls_ok hl hbx p hp) (pulls_ord hl hbx p hp))
  have hpz := pulls_pos hbx hz
  have HKH : Hid (∀ k (h : k < l.ks.length) (hp : k < (pulls l b).length), l.ks[k].1 = (pulls l b)[k].h) := fun k h hp => by
    have h2 : (pulls l b)[k]? = some _ := pullsF_at l.x l.x l.z l.ks b hbx.len k h
    rw [List.getElem?_eq_getElem hp] at h2
    rw [Option.some.inj h2]
  have HLG : Hid (∀ p ∈ pulls l b, (longR p.h (mostP p, p.z)).2 = (lenR p).2 ∧ Fo (mostP p, p.z) ∧ (1 ≤ p.h ∧ p.h ≤ 1000) ∧ 0 ≤ (lenR p).2 ∧ (lenR p).2 ≤ 40000000) := fun p hp => by
    have hk := pulls_ok hl hbx p hp
    have hz' := hpz p hp
    refine ⟨long_most hk hz', ⟨?_, hz', hk.z1⟩, ⟨hk.h0, hk.h1⟩, (lenR_bd hk hz').2⟩
    show -20000 ≤ mostP p ∧ mostP p ≤ 20000
    unfold mostP
    have := hk.l0; have := hk.l1; have := hk.u0; have := hk.u1
    split <;> omega
  obtain ⟨bl, ol, rfl, hbl1, hbl2⟩ := HS.out.at3 (k := 0) hl.n0
  clear hbl1 hbl2 hpz hz
  have hn1 := hl.n1
  have hn0 := hl.n0
  clear hs hu hs0 hu0 hl hbx hcap hcap'
  generalize pulls l b = qs at *
  generalize loHi l b = ps at *
  generalize zs l = zz at *
  have HLN := Lib.hid (And.intro hlp (And.intro hlq hlz))
  have hp10 : ps.length ≤ 10 := by omega
  have hp0 : 0 < ps.length := by omega
  have hzz0 : 0 < zz.length := by omega
  clear hlp hlq hlz
  go_enter Try.func66, Try.ntmps66
  go_wp2_with fail
  obtain ⟨W0, hW0⟩ : ∃ W0, W0 = w.alloc (.cells #[.int .i64 l.x, .int .i64 l.z, .slice (some ⟨bl, ol, none⟩) l.ks.length c] 26) := ⟨_, rfl⟩
  rw [← hW0]
  have HX : Hid (∀ W, Below W0.drew.heap.size W0.drew W → (W.cell? ⟨w.heap.size, 0, none⟩ = some (.int .i64 l.x) ∧ W.cell? ⟨w.heap.size, 1, none⟩ = some (.int .i64 l.z) ∧ W.cell? ⟨w.heap.size, 2, none⟩ = some (.slice (some ⟨bl, ol, none⟩) l.ks.length c)) ∧ Below w.heap.size w W) := by
    intro W h
    rw [hW0] at h
    have bx := fun j v hv => (At.new w #[.int .i64 l.x, .int .i64 l.z, .slice (some ⟨bl, ol, none⟩) l.ks.length c] 26 j v hv).drew.below h
    exact ⟨⟨(bx 0 _ rfl).1, (bx 1 _ rfl).1, (bx 2 _ rfl).1⟩, below_tr (below_alloc1 _ _) (Below.trans (Below.drew (Below.refl _ _)) h)⟩
  clear hW0
  refine wp_region_mono 5 [10, 11, 12, 13, 14] [[], [], [0, 1], [], [3]] [fun v _ => v = .agg #[.int .i64 l.x, .int .i64 l.z, .slice (some ⟨bl, ol, none⟩) l.ks.length c], fun v _ => v = .slice A' b.length c', fun v w => Sl e2 2 w v ps, fun v _ => v = .agg #[.int .i64 l.x, .int .i64 l.z, .slice (some ⟨bl, ol, none⟩) l.ks.length c], fun v w => Sl e1 1 w v zz] (by kernel_rfl) (by kernel_rfl) ⟨st_eq _, st_eq _, st_sl _ _ _, st_eq _, st_sl _ _ _, trivial⟩ ?_ ?_
  · simp only [List.take_succ_cons, List.take_zero, steps, and_true]
    refine ⟨?_, ?_, ?_, ?_, ?_⟩
    · intro x W hB _; simp only [putX, setX, List.foldl_cons, List.foldl_nil]; obtain ⟨⟨c0, c1, c2⟩, _⟩ := HX.out W hB; refine ⟨?_⟩; go_simp; exact ⟨rfl, Below.refl _ _⟩
    · intro x W hB _; simp only [putX, setX, List.foldl_cons, List.foldl_nil]; refine ⟨?_⟩; go_simp; exact ⟨rfl, Below.refl _ _⟩
    · intro x W hB hN; simp only [needs, sAt, dAt] at hN; simp only [putX, setX, List.foldl_cons, List.foldl_nil]; refine ⟨?_⟩; go_simp; refine (HP.out _ (HX.out W hB).2).mono ?_; rintro e w' ⟨r, rfl, hr, hb⟩; exact ⟨_, rfl, hr, hb⟩
    · intro x W hB _; simp only [putX, setX, List.foldl_cons, List.foldl_nil]; obtain ⟨⟨c0, c1, c2⟩, _⟩ := HX.out W hB; refine ⟨?_⟩; go_simp; exact ⟨rfl, Below.refl _ _⟩
    · intro x W hB hN; simp only [needs, sAt, dAt] at hN; simp only [putX, setX, List.foldl_cons, List.foldl_nil]; refine ⟨?_⟩; go_simp; refine (HH.out _ (HX.out W hB).2).mono ?_; rintro e w' ⟨r, rfl, hr, hb⟩; exact ⟨_, rfl, hr, hb⟩
  · intro y W1 hB hA
    simp only [allSp] at hA
    have q1 := hA.2.2.1
    have q2 := hA.2.2.2.2.1
    obtain ⟨A1, cp, f1, _⟩ := q1.form
    rw [f1] at q1
    obtain ⟨bp, op, rfl, _, _⟩ := q1.at2 (k := 0) hp0
    obtain ⟨A2, cz, f2, _⟩ := q2.form
    rw [f2] at q2
    obtain ⟨bz, oz, rfl, _, _⟩ := q2.at1 (k := 0) hzz0
    have HS1 := Lib.hid q1
    have HS2 := Lib.hid q2
    have HB1 := Lib.hid (HX.out W1 hB).2
    have HC1 := Lib.hid (HX.out W1 hB).1.2.2
    clear hA hB q1 q2 HX HP HH
    simp only [putX, setX, List.foldl_cons, List.foldl_nil, List.drop_succ_cons, List.drop_zero, f1, f2, List.setIfInBounds_toArray, List.set_cons_succ, List.set_cons_zero]
    clear f1 f2
    go_wp2_with fail
    go_loopw [7, 8, 9] (fun s i _ wr => ∃ k : Nat, k ≤ ps.length ∧ i = .int .i64 k ∧ s = .int .i64 (totR lenR (qs.take k)).2 ∧ Below W1.heap.size W1 wr) (fun _ i _ _ => ps.length - (intOf i).toNat)
    case atStart => exact ⟨0, Nat.zero_le _, rfl, rfl, Below.refl _ _⟩
    case round =>
      obtain ⟨k, hk, rfl, rfl, hb⟩ := hrel
      have HB := Lib.hid hb
      clear hb
      by_cases hlt : k < ps.length
      · have hltz : k < zz.length := by rw [HLN.out.2.2, ← HLN.out.1]; exact hlt
        have hltq : k < qs.length := by rw [HLN.out.2.1, ← HLN.out.1]; exact hlt
        have hat := HAT.out k hlt hltz hltq
        have hok := HOK.out qs[k] (List.getElem_mem _)
        have HA1 := Lib.hid (fun W (h : Below W1.heap.size W1 W) => (HS1.out.below h).at2 (k := k) hlt)
        have HA2 := Lib.hid (fun W (h : Below W1.heap.size W1 W) => (HS2.out.below h).at1 (k := k) hltz)
        rw [hat.1] at HA1
        rw [hat.2] at HA2
        have hk1 : (k : Int) < (ps.length : Int) := by omega
        have hk2 : (k : Int) < (zz.length : Int) := by omega
        have hk0 : (0 : Int) ≤ (k : Int) := by omega
        have hltl : k < l.ks.length := by rw [← HLN.out.1]; exact hlt
        have hkh := HKH.out k hltl hltq
        have hlg := HLG.out qs[k] (List.getElem_mem _)
        have hsn := totR_snoc lenR (qs.take k) qs[k]
        rw [← List.take_succ_eq_append_getElem hltq] at hsn
        have hsb : 0 ≤ (totR lenR (qs.take k)).2 ∧ (totR lenR (qs.take k)).2 ≤ 40000000 * ((qs.take k).length : Int) := by
          rw [totR_two]
          have hh : ∀ p ∈ qs.take k, 0 ≤ (lenR p).2 ∧ (lenR p).2 ≤ 40000000 := fun p hp => (HLG.out p (List.mem_of_mem_take hp)).2.2.2
          generalize qs.take k = xs at hh
          induction xs with
          | nil => exact ⟨Int.le_refl _, Int.le_refl _⟩
          | cons x r ih =>
            have h1 := ih fun p hp => hh p (List.mem_cons_of_mem _ hp)
            have h2 := hh x (by simp)
            simp only [List.map_cons, sumF, List.foldr_cons, List.length_cons] at h1 ⊢
            omega
        have hkl : ((qs.take k).length : Int) ≤ 10 := by rw [List.length_take]; omega
        have HA3 := Lib.hid (fun W (h : Below w.heap.size w W) => (HS.out.below h).at3 (k := k) hltl)
        have hkl' : (k : Int) < (l.ks.length : Int) := by omega
        rw [hkh] at HA3
        have hs1 := congrArg Prod.snd hsn
        simp only at hs1
        clear hat hsn hkh
        generalize qs[k] = q at *
        generalize (totR lenR (qs.take k)).2 = s2 at *
        obtain ⟨e1', hfo, hh, hlb⟩ := hlg
        rw [← e1'] at hs1 hlb
        have HLO := Lib.hid (fun w => rLong_any q.h (mostP q, q.z) w hh hfo)
        generalize longR q.h (mostP q, q.z) = g at *
        have HSN := Lib.hid hs1
        obtain ⟨⟨p1, p2, p3, p4, p5, p6, p7, p8⟩, p9⟩ := hok
        obtain ⟨ph, pw, pd, lo, hi, z⟩ := q
        obtain ⟨g1, g2⟩ := g
        have hm0 : mostP ⟨ph, pw, pd, lo, hi, z⟩ = if (lo.natAbs : Int) < (hi.natAbs : Int) then (hi.natAbs : Int) else (lo.natAbs : Int) := rfl
        rw [hm0] at HLO
        have HSA := Lib.hid (fun w => Size_any lo w (by simp only at p3 p4; omega))
        have HSB := Lib.hid (fun w => Size_any hi w (by simp only at p5 p6; omega))
        simp only at *
        have hw1 : IntKind.i64.wrap (s2 + g2) = s2 + g2 := IntWalk.i64_in _ (by omega)
        generalize (lo.natAbs : Int) = sa at *
        generalize (hi.natAbs : Int) = sb at *
        obtain ⟨mx, hmx⟩ : ∃ mx, mx = if sa < sb then sb else sa := ⟨_, rfl⟩
        rw [← hmx] at HLO
        have HMX := Lib.hid hmx.symm
        clear hmx hm0 p1 p2 p3 p4 p5 p6 p7 p8 p9 hs1 hfo hh hlb hsb hkl e1'
        have HXC : Hid (∀ W, Below wr.heap.size wr W → W.cell? ⟨bp, op + k * 2, none⟩ = some (.int .i64 lo) ∧ W.cell? ⟨bp, op + k * 2 + 1, none⟩ = some (.int .i64 hi) ∧ W.cell? ⟨bz, oz + k, none⟩ = some (.int .i64 z) ∧ W.cell? ⟨w.heap.size, 2, none⟩ = some (.slice (some ⟨bl, ol, none⟩) l.ks.length c) ∧ W.cell? ⟨bl, ol + k * 3, none⟩ = some (.int .i64 ph) ∧ Below W1.heap.size W1 W) := by
          intro W hb0
          have hb' : Below W1.heap.size W1 W := below_tr HB.out hb0
          obtain ⟨b0, o0, e0, _, ca1, ca2⟩ := HA1.out W hb'
          injection e0 with e0
          injection e0 with e01 e02
          subst e01; subst e02
          obtain ⟨b0, o0, e0, _, cb1⟩ := HA2.out W hb'
          injection e0 with e0
          injection e0 with e01 e02
          subst e01; subst e02
          obtain ⟨b0, o0, e0, _, cc1, _⟩ := HA3.out W (below_tr HB1.out hb')
          injection e0 with e0
          injection e0 with e01 e02
          subst e01; subst e02
          exact ⟨ca1, ca2, cb1, (hb'.cell (cell_lt HC1.out)).trans HC1.out, cc1, hb'⟩
        go_wp2_with fail
        refine wp_region_mono 13 [21, 22, 23, 24, 25, 26, 27, 28, 29, 30, 31, 32, 33] [[], [], [0, 1], [2], [3], [4], [], [], [6, 7], [8], [9], [10], [5, 11]] [fun v _ => v = .slice (some ⟨bp, op, none⟩) ps.length cp, fun v _ => v = .int .i64 k, fun v _ => v = .pointer (some ⟨bp, op + k * 2, none⟩), fun v _ => v = .pointer (some ⟨bp, op + k * 2, none⟩), fun v _ => v = .int .i64 lo, fun v _ => v = .int .i64 sa, fun v _ => v = .slice (some ⟨bp, op, none⟩) ps.length cp, fun v _ => v = .int .i64 k, fun v _ => v = .pointer (some ⟨bp, op + k * 2, none⟩), fun v _ => v = .pointer (some ⟨bp, op + k * 2 + 1, none⟩), fun v _ => v = .int .i64 hi, fun v _ => v = .int .i64 sb, fun v _ => v = .int .i64 (if sa < sb then sb else sa)] (by kernel_rfl) (by kernel_rfl) ⟨st_eq _, st_eq _, st_eq _, st_eq _, st_eq _, st_eq _, st_eq _, st_eq _, st_eq _, st_eq _, st_eq _, st_eq _, st_eq _, trivial⟩ ?_ ?_
        · simp only [List.take_succ_cons, List.take_zero, steps, and_true]
          refine ⟨?_, ?_, ?_, ?_, ?_, ?_, ?_, ?_, ?_, ?_, ?_, ?_, ?_⟩
          · intro x W hB _; simp only [putX, setX, List.foldl_cons, List.foldl_nil]; refine ⟨?_⟩; go_simp; exact ⟨rfl, Below.refl _ _⟩
          · intro x W hB _; simp only [putX, setX, List.foldl_cons, List.foldl_nil]; refine ⟨?_⟩; go_simp; exact ⟨rfl, Below.refl _ _⟩
          · intro x W hB hN; simp only [needs, sAt, dAt] at hN; simp only [putX, setX, List.foldl_cons, List.foldl_nil]; refine ⟨?_⟩; go_simp; exact ⟨rfl, Below.refl _ _⟩
          · intro x W hB hN; simp only [needs, sAt, dAt] at hN; simp only [putX, setX, List.foldl_cons, List.foldl_nil]; refine ⟨?_⟩; go_simp; exact ⟨rfl, Below.refl _ _⟩
          · intro x W hB hN; simp only [needs, sAt, dAt] at hN; simp only [putX, setX, List.foldl_cons, List.foldl_nil]; obtain ⟨d0, d1, d2, _⟩ := HXC.out W (Below.trans (Below.drew (Below.refl _ _)) hB); refine ⟨?_⟩; go_simp; exact ⟨rfl, Below.refl _ _⟩
          · intro x W hB hN; simp only [needs, sAt, dAt] at hN; simp only [putX, setX, List.foldl_cons, List.foldl_nil]; refine ⟨?_⟩; go_simp; refine (HSA.out _).mono ?_; rintro e w' ⟨rfl, rfl⟩; exact ⟨_, rfl, rfl, Below.refl _ _⟩
          · intro x W hB _; simp only [putX, setX, List.foldl_cons, List.foldl_nil]; refine ⟨?_⟩; go_simp; exact ⟨rfl, Below.refl _ _⟩
          · intro x W hB _; simp only [putX, setX, List.foldl_cons, List.foldl_nil]; refine ⟨?_⟩; go_simp; exact ⟨rfl, Below.refl _ _⟩
          · intro x W hB hN; simp only [needs, sAt, dAt] at hN; simp only [putX, setX, List.foldl_cons, List.foldl_nil]; refine ⟨?_⟩; go_simp; exact ⟨rfl, Below.refl _ _⟩
          · intro x W hB hN; simp only [needs, sAt, dAt] at hN; simp only [putX, setX, List.foldl_cons, List.foldl_nil]; refine ⟨?_⟩; go_simp; exact ⟨rfl, Below.refl _ _⟩
          · intro x W hB hN; simp only [needs, sAt, dAt] at hN; simp only [putX, setX, List.foldl_cons, List.foldl_nil]; obtain ⟨d0, d1, d2, _⟩ := HXC.out W (Below.trans (Below.drew (Below.refl _ _)) hB); refine ⟨?_⟩; go_simp; exact ⟨rfl, Below.refl _ _⟩
          · intro x W hB hN; simp only [needs, sAt, dAt] at hN; simp only [putX, setX, List.foldl_cons, List.foldl_nil]; refine ⟨?_⟩; go_simp; refine (HSB.out _).mono ?_; rintro e w' ⟨rfl, rfl⟩; exact ⟨_, rfl, rfl, Below.refl _ _⟩
          · intro x W hB hN; simp only [needs, sAt, dAt] at hN; simp only [putX, setX, List.foldl_cons, List.foldl_nil]; refine ⟨?_⟩; go_simp; exact ⟨rfl, Below.refl _ _⟩
        · intro x W11 hB hA
          simp only [allSp] at hA
          have s1 := hA.2.2.2.2.2.2.2.2.2.2.2.2.1
          rw [HMX.out] at s1
          have HW11 : Hid (Below wr.heap.size wr W11) := Below.trans (Below.drew (Below.refl _ _)) hB
          clear hA hB
          simp only [putX, setX, List.foldl_cons, List.foldl_nil, List.drop_succ_cons, List.drop_zero, s1, List.setIfInBounds_toArray, List.set_cons_succ, List.set_cons_zero]
          clear s1
          go_wp2_with fail
          refine wp_region_mono 16 [34, 35, 36, 37, 38, 39, 40, 41, 42, 43, 44, 45, 46, 47, 48, 49] [[], [], [1], [], [2, 3], [4], [5], [], [], [], [8, 9], [10], [7, 11], [6, 12], [13], [0, 14]] [fun v _ => v = .int .i64 s2, fun v _ => v = .pointer (some ⟨w.heap.size, 2, none⟩), fun v _ => v = .slice (some ⟨bl, ol, none⟩) l.ks.length c, fun v _ => v = .int .i64 k, fun v _ => v = .pointer (some ⟨bl, ol + k * 3, none⟩), fun v _ => v = .pointer (some ⟨bl, ol + k * 3, none⟩), fun v _ => v = .int .i64 ph, fun v _ => v = .int .i64 mx, fun v _ => v = .slice (some ⟨bz, oz, none⟩) zz.length cz, fun v _ => v = .int .i64 k, fun v _ => v = .pointer (some ⟨bz, oz + k, none⟩), fun v _ => v = .int .i64 z, fun v _ => v = .agg #[.int .i64 mx, .int .i64 z], fun v _ => v = .agg #[.int .i64 g1, .int .i64 g2], fun v _ => v = .int .i64 g2, fun v _ => v = .int .i64 (s2 + g2)] (by kernel_rfl) (by kernel_rfl) ⟨st_eq _, st_eq _, st_eq _, st_eq _, st_eq _, st_eq _, st_eq _, st_eq _, st_eq _, st_eq _, st_eq _, st_eq _, st_eq _, st_eq _, st_eq _, st_eq _, trivial⟩ ?_ ?_
          · simp only [List.take_succ_cons, List.take_zero, steps, and_true]
            refine ⟨?_, ?_, ?_, ?_, ?_, ?_, ?_, ?_, ?_, ?_, ?_, ?_, ?_, ?_, ?_, ?_⟩
            · intro x W hB _; simp only [putX, setX, List.foldl_cons, List.foldl_nil]; refine ⟨?_⟩; go_simp; exact ⟨rfl, Below.refl _ _⟩
            · intro x W hB _; simp only [putX, setX, List.foldl_cons, List.foldl_nil]; refine ⟨?_⟩; go_simp; exact ⟨rfl, Below.refl _ _⟩
            · intro x W hB hN; simp only [needs, sAt, dAt] at hN; simp only [putX, setX, List.foldl_cons, List.foldl_nil]; obtain ⟨d0, d1, d2, d3, d4, _⟩ := HXC.out W (below_tr HW11.out (Below.trans (Below.drew (Below.refl _ _)) hB)); refine ⟨?_⟩; go_simp; exact ⟨rfl, Below.refl _ _⟩
            · intro x W hB _; simp only [putX, setX, List.foldl_cons, List.foldl_nil]; refine ⟨?_⟩; go_simp; exact ⟨rfl, Below.refl _ _⟩
            · intro x W hB hN; simp only [needs, sAt, dAt] at hN; simp only [putX, setX, List.foldl_cons, List.foldl_nil]; refine ⟨?_⟩; go_simp; exact ⟨rfl, Below.refl _ _⟩
            · intro x W hB hN; simp only [needs, sAt, dAt] at hN; simp only [putX, setX, List.foldl_cons, List.foldl_nil]; refine ⟨?_⟩; go_simp; exact ⟨rfl, Below.refl _ _⟩
            · intro x W hB hN; simp only [needs, sAt, dAt] at hN; simp only [putX, setX, List.foldl_cons, List.foldl_nil]; obtain ⟨d0, d1, d2, d3, d4, _⟩ := HXC.out W (below_tr HW11.out (Below.trans (Below.drew (Below.refl _ _)) hB)); refine ⟨?_⟩; go_simp; exact ⟨rfl, Below.refl _ _⟩
            · intro x W hB _; simp only [putX, setX, List.foldl_cons, List.foldl_nil]; refine ⟨?_⟩; go_simp; exact ⟨rfl, Below.refl _ _⟩
            · intro x W hB _; simp only [putX, setX, List.foldl_cons, List.foldl_nil]; refine ⟨?_⟩; go_simp; exact ⟨rfl, Below.refl _ _⟩
            · intro x W hB _; simp only [putX, setX, List.foldl_cons, List.foldl_nil]; refine ⟨?_⟩; go_simp; exact ⟨rfl, Below.refl _ _⟩
            · intro x W hB hN; simp only [needs, sAt, dAt] at hN; simp only [putX, setX, List.foldl_cons, List.foldl_nil]; refine ⟨?_⟩; go_simp; exact ⟨rfl, Below.refl _ _⟩
            · intro x W hB hN; simp only [needs, sAt, dAt] at hN; simp only [putX, setX, List.foldl_cons, List.foldl_nil]; obtain ⟨d0, d1, d2, d3, d4, _⟩ := HXC.out W (below_tr HW11.out (Below.trans (Below.drew (Below.refl _ _)) hB)); refine ⟨?_⟩; go_simp; exact ⟨rfl, Below.refl _ _⟩
            · intro x W hB hN; simp only [needs, sAt, dAt] at hN; simp only [putX, setX, List.foldl_cons, List.foldl_nil]; refine ⟨?_⟩; go_simp; exact ⟨rfl, Below.refl _ _⟩
            · intro x W hB hN; simp only [needs, sAt, dAt] at hN; simp only [putX, setX, List.foldl_cons, List.foldl_nil]; refine ⟨?_⟩; go_simp; refine (HLO.out _).mono ?_; rintro e w' ⟨rfl, hb⟩; exact ⟨_, rfl, rfl, hb⟩
            · intro x W hB hN; simp only [needs, sAt, dAt] at hN; simp only [putX, setX, List.foldl_cons, List.foldl_nil]; refine ⟨?_⟩; go_simp; exact ⟨rfl, Below.refl _ _⟩
            · intro x W hB hN; simp only [needs, sAt, dAt] at hN; simp only [putX, setX, List.foldl_cons, List.foldl_nil]; refine ⟨?_⟩; go_simp; exact ⟨rfl, Below.refl _ _⟩
          · intro x W hB hA
            simp only [allSp] at hA
            have q0 := hA.2.2.2.2.2.2.2.2.2.2.2.2.2.2.2.1
            have HBW := Lib.hid (HXC.out W (below_tr HW11.out (Below.trans (Below.drew (Below.refl _ _)) hB))).2.2.2.2.2
            clear hA hB
            simp only [putX, setX, List.foldl_cons, List.foldl_nil, List.drop_succ_cons, List.drop_zero, q0, List.setIfInBounds_toArray, List.set_cons_succ, List.set_cons_zero]
            clear q0
            go_wp2_with fail
            go_roundw
            case rel => exact ⟨k + 1, by omega, by go_num, by rw [HSN.out], HBW.out⟩
            case measure => simp [intOf]; omega
      · obtain rfl : k = ps.length := by omega
        rw [show qs.take ps.length = qs from List.take_of_length_le (by rw [HLN.out.1, HLN.out.2.1]; exact Nat.le_refl _)]
        go_wp2_with fail
        go_ret
        exact ⟨rfl, below_tr HB1.out HB.out⟩
end Go.Proofs.Ytghglgaimhfedaa
