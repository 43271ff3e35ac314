/-
  Walks of chapter 1's offsets.
-/
import Derived.Test.YtghglgaimhfedaaQK
import Derived.Test.YtghglgaimhfedaaQI
namespace Go.Proofs.Ytghglgaimhfedaa
open Go.RowKit Go.Shelf
attribute [local go_sem] Oper.semAt_some wide_fn wide_depth round_fn round_depth
attribute [local go_sem] monoUpon_value monoUpon_skip monoUpon_enter

/-- The offset of one pull, in lowest terms. -/
def loP (p : Pl) : Int × Int := low (p.h * p.lo) p.z
def offs (l : Ln) (c : List Int) : List (Int × Int) := (pulls l (still c)).map loP
def offsetsOf (l : Ln) (c : List Int) : List (Int × Int) × Int := if shapeErr l c = 0 then (offs l c, 0) else ([], shapeErr l c)
theorem lo_bd {p : Pl} (hp : PlOk p) : -20000000 ≤ p.h * p.lo ∧ p.h * p.lo ≤ 20000000 := by
  have m1 := mul_bd p.h p.lo 1000 20000 (by have := hp.h0; have := hp.h1; omega) (by have := hp.l0; have := hp.l1; omega)
  omega
set_option maxRecDepth 100000 in
set_option maxHeartbeats 4000000 in
theorem OffsetsOf_any (v u : Value) (l : Ln) (cu : List Int) (w : World) (hs : Sl e3 3 w v l.ks) (hu : Sl e1 1 w u cu) (hbig : l.ks.length ≤ 1000) (hbig' : cu.length ≤ 1000) :
    Calls Try.prog 44 #[.agg #[.int .i64 l.x, .int .i64 l.z, v], u] w fun e w' => ∃ r, e = .returned (.tuple #[r, .int .i64 (offsetsOf l cu).2]) ∧ Ow e2 2 75 w.heap.size w' r (offsetsOf l cu).1 ∧ Below w.heap.size w w' := by
  obtain ⟨i0, hi, hz0, hz1, hz2⟩ := info_parts fracinfo
  have HC := Lib.hid (shapeError_any v u l cu _ (hs.alloc (.cells #[.int .i64 l.x, .int .i64 l.z, v] 26)) (hu.alloc (.cells #[.int .i64 l.x, .int .i64 l.z, v] 26)) hbig hbig')
  by_cases h1 : shapeErr l cu = 0
  · obtain ⟨h4, h5⟩ := shape_ok h1
    obtain ⟨h2, h3⟩ := currentsErr_ok h4
    have hl := lineErr_ok h2
    have hbx := cursErr_ok h3
    have hvb := hs.blk hl.n0
    have E : Hid (offsetsOf l cu = (offs l cu, 0)) := if_pos h1
    rw [h1] at HC
    obtain ⟨A, c, rfl, hcap⟩ := hs.form
    obtain ⟨A', c', rfl, hcap'⟩ := hu.form
    have HV := Lib.hid hvb
    have HS := Lib.hid hs
    have HU := Lib.hid hu
    have HL := Lib.hid hl
    have HX := Lib.hid hbx
    have HZ := Lib.hid (pulls_pos hbx h5)
    clear hvb hs hu hl hbx h1 h2 h3 h4 h5
    refine (callsIn_wide (n := 0)).1 ?_
    refine callsIn_of_wp_marks Try.func44 rfl trivial ?_ rfl
    simp only [Try.ntmps44, List.size_toArray, List.length_cons, List.length_nil, Nat.reduceAdd, Nat.reduceSub, Array.replicate_succ, Array.replicate_zero, List.push_toArray, List.append_toArray, List.nil_append, List.cons_append]
    gi_wp2_with (gi_at_call 104; refine (atWide HC.out).mono ?_; rintro e w1 ⟨rfl, hb1⟩; have A0 := (At.new w #[.int .i64 l.x, .int .i64 l.z, .slice A l.ks.length c] 26 0 _ rfl).below hb1; have A1 := (At.new w #[.int .i64 l.x, .int .i64 l.z, .slice A l.ks.length c] 26 1 _ rfl).below hb1; have A2 := (At.new w #[.int .i64 l.x, .int .i64 l.z, .slice A l.ks.length c] 26 2 _ rfl).below hb1)
    obtain ⟨W1, hW1⟩ : ∃ W1, W1 = w1.alloc (.cells #[.slice none 0 0] 69) := ⟨_, rfl⟩
    rw [← hW1]
    have hb01 : Below w.heap.size w w1 := below_tr (below_alloc1 _ _) hb1
    have hb10 : Below w.heap.size w W1 := by rw [hW1]; exact below_al hb01 _
    have wz0 : w.heap.size + 1 ≤ w1.heap.size := by have := hb1.size; simpa using this
    have wz1 : W1.heap.size = w1.heap.size + 1 := by rw [hW1]; simp
    have q1 : W1.cell? ⟨w.heap.size, 0, none⟩ = some (.int .i64 l.x) := by rw [hW1]; exact (A0.al _).1
    have q2 : W1.cell? ⟨w.heap.size, 1, none⟩ = some (.int .i64 l.z) := by rw [hW1]; exact (A1.al _).1
    have q3 : W1.cell? ⟨w.heap.size, 2, none⟩ = some (.slice A l.ks.length c) := by rw [hW1]; exact (A2.al _).1
    have aT : At W1 ⟨w1.heap.size, 0, none⟩ (.slice none 0 0) := by rw [hW1]; exact At.new w1 #[.slice none 0 0] 69 0 _ rfl
    have HA := Lib.hid (And.intro A0 (And.intro A1 A2))
    have HT := Lib.hid aT
    have HST := Lib.hid (still_any _ cu W1.drew (HU.out.below hb10.drew) hbig')
    have HP : Hid (∀ w2, Below W1.drew.heap.size W1.drew w2 → w2.cell? ⟨w.heap.size, 0, none⟩ = some (.int .i64 l.x) ∧ w2.cell? ⟨w.heap.size, 1, none⟩ = some (.int .i64 l.z) ∧ w2.cell? ⟨w.heap.size, 2, none⟩ = some (.slice A l.ks.length c)) := by
      intro w2 hb2
      have hlt : w.heap.size < W1.drew.heap.size := by show w.heap.size < W1.heap.size; omega
      exact ⟨(hb2.cell (p := ⟨w.heap.size, 0, none⟩) hlt).trans q1, (hb2.cell (p := ⟨w.heap.size, 1, none⟩) hlt).trans q2, (hb2.cell (p := ⟨w.heap.size, 2, none⟩) hlt).trans q3⟩
    clear A0 A1 A2 aT hW1 hb1 HC
    have hmix : Try.prog.follows .mixedOrders = true := by kernel_rfl
    refine wpIn_region_orders [[0, 1, 2, 3, 4], [0, 2, 1, 3, 4], [0, 2, 3, 1, 4], [2, 0, 1, 3, 4], [2, 0, 3, 1, 4], [2, 3, 0, 1, 4]] hmix (by kernel_rfl) ?_
    simp only [List.forall_mem_cons, List.not_mem_nil, false_implies, implies_true, and_true]
    refine ⟨?_, ?_, ?_, ?_, ?_, ?_⟩
    all_goals show wpListIn _ _ _ _ _ (_ :: _ :: _ :: _ :: _ :: []) _ _
    all_goals gi_wp2_with (first
      | (gi_at_call 101; refine (atWide HST.out).mono ?_; rintro e w2 ⟨r, rfl, hsl, hown, hb2⟩; obtain ⟨A2, c2, rfl, hcap2⟩ := hsl.form; obtain ⟨p1, p2, p3⟩ := HP.out w2 hb2)
      | (gi_at_call 100; refine (atWide (pulls_any l _ _ _ ⟨_, _, _, rfl⟩ ⟨_, _, _, rfl⟩)).mono ?_; rintro e w3 ⟨rfl, rfl⟩))
    all_goals
      clear q1 q2 q3 p1 p2 p3
      obtain ⟨W0, hW0⟩ : ∃ W0, W0 = (w2.alloc (.cells #[.int .i64 l.x, .int .i64 l.z, .slice A l.ks.length c] 137)).alloc (.cells #[.slice A2 (still cu).length c2] 27) := ⟨_, rfl⟩
      rw [← hW0]
      have wz2 : W1.heap.size ≤ w2.heap.size := hb2.size
      have z0 : W0.heap.size = w2.heap.size + 2 := by rw [hW0]; simp
      have hb20 : Below w2.heap.size w2 W0 := by rw [hW0]; exact below_al (below_alloc1 _ _) _
      have hb1d : Below W1.heap.size W1 w2 := (Below.refl _ _).drew.trans hb2
      have hb10' : Below W1.heap.size W1 W0 := hb1d.trans (hb20.mono wz2)
      have hb0 : Below w.heap.size w W0 := hb10.trans (hb10'.mono hb10.size)
      obtain ⟨bx, by'⟩ := box2 w2 #[.int .i64 l.x, .int .i64 l.z, .slice A l.ks.length c] #[.slice A2 (still cu).length c2] 137 27
      have L0 : W0.cell? ⟨w2.heap.size, 0, none⟩ = some (.int .i64 l.x) := by rw [hW0]; exact (bx 0 _ rfl).1
      have L1 : W0.cell? ⟨w2.heap.size, 1, none⟩ = some (.int .i64 l.z) := by rw [hW0]; exact (bx 1 _ rfl).1
      have L2 : W0.cell? ⟨w2.heap.size, 2, none⟩ = some (.slice A l.ks.length c) := by rw [hW0]; exact (bx 2 _ rfl).1
      have L3 : W0.cell? ⟨w2.heap.size + 1, 0, none⟩ = some (.slice A2 (still cu).length c2) := by rw [hW0]; exact (by' 0 _ rfl).1
      clear bx by' hW0
      have aT : At W0 ⟨w1.heap.size, 0, none⟩ (.slice none 0 0) := HT.out.below hb10'
      have h0 : HoldF e2 2 75 (w1.heap.size + 1) ⟨w1.heap.size, 0, none⟩ (fun k => k = w1.heap.size ∨ (Value.slice none 0 0).ownBlock = some k) ([] : List (Int × Int)) W0 := ⟨_, aT, Ow.nil _ _ _ _ _, by show w1.heap.size < _; omega, rfl⟩
      refine wp_rangeF (gf := 140) (lb := #[.pointer (some ⟨w2.heap.size, 0, none⟩), .pointer (some ⟨w2.heap.size + 1, 0, none⟩)]) rfl (enters_of Try.func140 (by kernel_rfl) rfl)
        (pulls_seq w2.heap.size (w2.heap.size + 1) _ _ l (still cu) W0 HL.out HX.out L0 L1 L2 L3 (HS.out.below hb0) (hsl.below hb20)
          (fun k => k = w2.heap.size ∨ k = w2.heap.size + 1 ∨ (Value.slice A l.ks.length c).ownBlock = some k ∨ (Value.slice A2 (still cu).length c2).ownBlock = some k) (.inl rfl) (.inr (.inl rfl)) (fun k hk => .inr (.inr (.inl hk))) (fun k hk => .inr (.inr (.inr hk))) ?_) (Below.refl _ _) (fun _ => rfl)
        (fun F pre W => HoldF e2 2 75 (w1.heap.size + 1) ⟨w1.heap.size, 0, none⟩ F (pre.map loP) W ∧ Below w.heap.size w W)
        (OwnF.and (holdF_own _) (ownF_below (Nat.le_refl _) (by have := hb0.size; omega))) _ h0.foot ?_ ⟨h0, hb0⟩ ?_ ?_
      · rintro k (rfl | rfl | hk | hk)
        · omega
        · omega
        · have := HV.out k hk; have := hb0.size; omega
        · have := hsl.blk (by have := HL.out.n0; have := HX.out.len; omega) k hk; omega
      · rintro k (rfl | hk)
        · rintro (h | h | h | h)
          · omega
          · omega
          · have := HV.out _ h; omega
          · have h9 : W1.heap.size ≤ w1.heap.size := hown _ h
            omega
        · simp [Value.ownBlock] at hk
      · rintro lr F pre p W hlr hlt hpre ⟨⟨va, hat, how, hbase, hF⟩, hB⟩ hFF
        obtain ⟨hpl, hpe⟩ := pre_get hpre
        have hmem : p ∈ pulls l (still cu) := hpe ▸ List.getElem_mem hpl
        have hpk := pulls_ok HL.out HX.out p hmem
        have hpz := HZ.out p hmem
        have hz1' := hpk.z1
        have hnb := lo_bd hpk
        have HLW := Lib.hid (fun w => Lowest_any (p.h * p.lo) p.z w hpz (by omega) (by omega))
        have hlow : Hid (loP p = low (p.h * p.lo) p.z) := (rfl : loP p = _)
        have hmul : IntKind.i64.wrap (p.h * p.lo) = p.h * p.lo := IntWalk.i64_in _ (by omega)
        rw [pulls_len HX.out] at hpl
        have hn1 := HL.out.n1
        have hml : (pre.map loP).length = pre.length := by simp
        have hmap0 : (pre ++ [p]).map loP = pre.map loP ++ [loP p] := by simp
        rw [hlow.out] at hmap0
        have hmap := Lib.hid hmap0
        clear hmap0 hlow
        generalize low (p.h * p.lo) p.z = lw at *
        generalize pre.map loP = pm at *
        obtain ⟨lw1, lw2⟩ := lw
        have HB := Lib.hid hB
        have HAT := Lib.hid hat
        have HOW := Lib.hid how
        have HF := Lib.hid hF
        have hal := hat.lt
        simp only at hal
        clear hpre hat how hB hF L0 L1 L2 L3 aT h0 hpe hmem hpk hpz hz1'
        simp only [encP]
        gi_wp2
        refine ⟨(Out.refl F W).alloc _, fun W2 hTn => ?_⟩
        have HW2 : Hid (W2.heap.size = W.heap.size + 1) := by show _ = _; rw [hTn.size]; simp
        have hw2 : w1.heap.size < W2.heap.size := by have := HW2.out; omega
        have PP := fun j v h => (At.new W #[.int .i64 p.h, .int .i64 p.wt, .int .i64 p.d, .int .i64 p.lo, .int .i64 p.hi, .int .i64 p.z] 146 j v h).turn hTn
        have KT := Lib.hid ((HAT.out.al (.cells #[.int .i64 p.h, .int .i64 p.wt, .int .i64 p.d, .int .i64 p.lo, .int .i64 p.hi, .int .i64 p.z] 146)).turn hTn)
        have KO := Lib.hid ((HOW.out.alloc (.cells #[.int .i64 p.h, .int .i64 p.wt, .int .i64 p.d, .int .i64 p.lo, .int .i64 p.hi, .int .i64 p.z] 146)).turn hTn)
        have KB : Hid (Below w.heap.size w W2) := (below_al HB.out _).trans (hTn.below (by have := hb0.size; omega))
        have HXW : Hid (∀ W4, Below W2.drew.heap.size W2.drew W4 → (At W4 ⟨W.heap.size, 0, none⟩ (.int .i64 p.h) ∧ At W4 ⟨W.heap.size, 3, none⟩ (.int .i64 p.lo) ∧ At W4 ⟨W.heap.size, 5, none⟩ (.int .i64 p.z)) ∧ At W4 ⟨w1.heap.size, 0, none⟩ va ∧ Ow e2 2 75 (w1.heap.size + 1) W4 va pm ∧ Below W2.heap.size W2 W4) := by
          intro W4 h
          exact ⟨⟨(PP 0 _ rfl).drew.below h, (PP 3 _ rfl).drew.below h, (PP 5 _ rfl).drew.below h⟩, KT.out.drew.below h, (KO.out.drew).below h, Below.trans (Below.drew (Below.refl _ _)) h⟩
        clear hTn PP
        generalize p.h = ph at *
        generalize p.lo = plo at *
        generalize p.z = pz at *
        gi_wp2_with fail
        refine wpIn_region_mono (open_round lr) 12 [21, 22, 23, 24, 25, 26, 27, 28, 29, 30, 31, 32] [[], [], [1], [2], [], [4], [5], [3, 6], [], [8], [7, 9], [10]] [fun v _ => v = va, fun v _ => v = .pointer (some ⟨W.heap.size, 0, none⟩), fun v _ => v = .pointer (some ⟨W.heap.size, 0, none⟩), fun v _ => v = .int .i64 ph, fun v _ => v = .pointer (some ⟨W.heap.size, 3, none⟩), fun v _ => v = .pointer (some ⟨W.heap.size, 3, none⟩), fun v _ => v = .int .i64 plo, fun v _ => v = .int .i64 (ph * plo), fun v _ => v = .pointer (some ⟨W.heap.size, 5, none⟩), fun v _ => v = .int .i64 pz, fun v _ => v = .agg #[.int .i64 lw1, .int .i64 lw2], fun v w => Sl e2 2 w v [(lw1, lw2)]] (by kernel_rfl) (by kernel_rfl) ⟨st_eq _, st_eq _, st_eq _, st_eq _, st_eq _, st_eq _, st_eq _, st_eq _, st_eq _, st_eq _, st_eq _, st_sl _ _ _, trivial⟩ ?_ ?_
        · simp only [List.take_succ_cons, List.take_zero, steps, and_true]
          refine ⟨?_, ?_, ?_, ?_, ?_, ?_, ?_, ?_, ?_, ?_, ?_, ?_⟩
          · intro x W hB _; simp only [putX, setX, List.foldl_cons, List.foldl_nil]; obtain ⟨_, ⟨c0, _⟩, _⟩ := HXW.out W hB; refine ⟨?_⟩; go_simp; exact ⟨rfl, Below.refl _ _⟩
          · intro x W hB _; simp only [putX, setX, List.foldl_cons, List.foldl_nil]; refine ⟨?_⟩; go_simp; exact ⟨rfl, Below.refl _ _⟩
          · intro x W hB hN; simp only [needs, sAt, dAt] at hN; simp only [putX, setX, List.foldl_cons, List.foldl_nil]; refine ⟨?_⟩; go_simp; exact ⟨rfl, Below.refl _ _⟩
          · intro x W hB hN; simp only [needs, sAt, dAt] at hN; simp only [putX, setX, List.foldl_cons, List.foldl_nil]; obtain ⟨⟨⟨c0, _⟩, ⟨c1, _⟩, ⟨c2, _⟩⟩, _⟩ := HXW.out W hB; refine ⟨?_⟩; go_simp; exact ⟨rfl, Below.refl _ _⟩
          · intro x W hB _; simp only [putX, setX, List.foldl_cons, List.foldl_nil]; refine ⟨?_⟩; go_simp; exact ⟨rfl, Below.refl _ _⟩
          · intro x W hB hN; simp only [needs, sAt, dAt] at hN; simp only [putX, setX, List.foldl_cons, List.foldl_nil]; refine ⟨?_⟩; go_simp; exact ⟨rfl, Below.refl _ _⟩
          · intro x W hB hN; simp only [needs, sAt, dAt] at hN; simp only [putX, setX, List.foldl_cons, List.foldl_nil]; obtain ⟨⟨⟨c0, _⟩, ⟨c1, _⟩, ⟨c2, _⟩⟩, _⟩ := HXW.out W hB; refine ⟨?_⟩; go_simp; exact ⟨rfl, Below.refl _ _⟩
          · intro x W hB hN; simp only [needs, sAt, dAt] at hN; simp only [putX, setX, List.foldl_cons, List.foldl_nil]; refine ⟨?_⟩; go_simp; exact ⟨rfl, Below.refl _ _⟩
          · intro x W hB _; simp only [putX, setX, List.foldl_cons, List.foldl_nil]; refine ⟨?_⟩; go_simp; exact ⟨rfl, Below.refl _ _⟩
          · intro x W hB hN; simp only [needs, sAt, dAt] at hN; simp only [putX, setX, List.foldl_cons, List.foldl_nil]; obtain ⟨⟨⟨c0, _⟩, ⟨c1, _⟩, ⟨c2, _⟩⟩, _⟩ := HXW.out W hB; refine ⟨?_⟩; go_simp; exact ⟨rfl, Below.refl _ _⟩
          · intro x W hB hN; simp only [needs, sAt, dAt] at hN; simp only [putX, setX, List.foldl_cons, List.foldl_nil]; refine ⟨?_⟩; go_simp; refine (HLW.out _).mono ?_; rintro e w' ⟨rfl, hb⟩; exact ⟨_, rfl, rfl, hb⟩
          · intro x W hB hN; simp only [needs, sAt, dAt] at hN; simp only [putX, setX, List.foldl_cons, List.foldl_nil]; refine ⟨?_⟩; go_simp; exact ⟨slp _ _ _, below_alloc1 _ _⟩
        · intro x Wq hBq hA
          simp only [allSp] at hA
          have r0 := hA.1
          have r1 := hA.2.2.2.2.2.2.2.2.2.2.2.1
          obtain ⟨A1, c1, e8, _⟩ := r1.form
          rw [e8] at r1
          obtain ⟨g1, o1, rfl, _, ca1, ca2⟩ := r1.at2 (k := 0) (by simp)
          obtain ⟨_, KTq, KOq, hbq⟩ := HXW.out Wq hBq
          have hcl : Hid (∀ j u, (e2 (lw1, lw2))[j]? = some u → Wq.cell? ((⟨g1, o1, none⟩ : Addr).add j) = some u) := by
            intro j u hu
            rw [Go.WideShapes.add_plain]
            match j, hu with
            | 0, hu => simp [e2] at hu; subst hu; simpa using ca1
            | 1, hu => simp [e2] at hu; subst hu; simpa using ca2
            | n + 2, hu => simp [e2] at hu
          have KT9 := Lib.hid KTq
          have KO9 := Lib.hid KOq
          have HBq := Lib.hid hbq
          have hszq := hbq.size
          clear hA r1 ca1 ca2 hBq KTq KOq hbq
          simp only [putX, setX, List.foldl_cons, List.foldl_nil, List.drop_succ_cons, List.drop_zero, r0, e8, List.setIfInBounds_toArray, List.set_cons_succ, List.set_cons_zero]
          gi_wp2_with (gi_at_builtin; refine wpListIn_append_at _ rfl _ _ 69 rfl (w1.heap.size + 1) 75 i0 _ 2 16 Try.underlying69 hi hz0 hz1 hz2 rfl (by decide) _ _ _ rfl KO9.out.own ⟨g1, o1, none⟩ 1 c1 (e2 (lw1, lw2)) rfl rfl hcl.out (e2_one _) (by simp only [maxLen]; omega) (by omega) (by omega) ?_; intro v1 w4 hown1 hg1 hblk; obtain ⟨g', cap', rfl⟩ := ownsRow_succ hown1; have k5 := KT9.out.grown' hg1 (KO9.out.apart' (show w1.heap.size < w1.heap.size + 1 by omega)); obtain ⟨k6, k7⟩ := k5; have HO2 := Lib.hid hown1; have HG := Lib.hid hg1; have HK := Lib.hid hblk; clear hown1 hg1 hblk)
          have hh : HoldF e2 2 75 (w1.heap.size + 1) ⟨w1.heap.size, 0, none⟩ (fun k => k = w1.heap.size ∨ (Value.slice (some ⟨g', 0, none⟩) (pre.length + 1) cap').ownBlock = some k) ((pre ++ [p]).map loP) (w4.setCell ⟨w1.heap.size, 0, none⟩ (.slice (some ⟨g', 0, none⟩) (pre.length + 1) cap')) :=
            ⟨_, At.set ⟨k6, k7⟩, by rw [hmap.out]; exact Ow.setFar (by have h := Ow.snoc HO2.out; rw [hml] at h; exact h) (show w1.heap.size < w1.heap.size + 1 by omega) _, by show w1.heap.size < _; omega, rfl⟩
          refine ⟨(((Out.refl F W2).call HBq.out).grown HG.out (fun k hk => .inl (by rw [HF.out]; exact .inr hk))).setCell (.inl (by rw [HF.out]; exact .inl rfl)) _, _, ⟨hh, ?_⟩, hh.foot, ?_⟩
          · exact below_set (KO9.out.grown HG.out (KB.out.trans (HBq.out.mono (by have := KB.out.size; omega))) (by omega)) (by show w.heap.size ≤ w1.heap.size; omega) _
          · rintro k (rfl | hk)
            · exact .inl (by rw [HF.out]; exact .inl rfl)
            · rcases HK.out with h | h
              · exact .inl (by rw [HF.out]; exact .inr (h.symm.trans hk))
              · have h3 := h.symm.trans hk
                injection h3 with h3
                have := HW2.out
                exact .inr (by omega)
      · rintro D W F hD ⟨⟨va, hat, how, hbase, hF⟩, hB⟩ hK
        have HB := Lib.hid hB
        have KO := Lib.hid how
        obtain ⟨c5, f5⟩ := hat
        clear hB how L0 L1 L2 L3 aT h0 hF
        gi_wp2
        refine ⟨by simp, .inl ⟨_, _, rfl, run_takeDeferred hK, ?_⟩⟩
        have KP := KO.out.turn (N := D) (W' := W.putObj D (.deferred none)) ⟨D, _, _, Nat.le_refl _, hK, rfl, rfl, rfl⟩
        have KQ := ret_listX E.out (KP.less (base' := w.heap.size) (by omega))
        exact ⟨_, results_tmp2 (t := 4) (u := 5) rfl _ _ _, va, KQ.1, KQ.2, below_put HB.out (Nat.le_refl _) (by have := hb0.size; omega) hK⟩
  · have E : Hid (offsetsOf l cu = ([], shapeErr l cu)) := if_neg h1
    have h1' := ne1 h1
    generalize shapeErr l cu = pe at *
    clear h1
    obtain ⟨A, c, rfl, hcap⟩ := hs.form
    obtain ⟨A', c', rfl, hcap'⟩ := hu.form
    clear hs hu
    go_enter Try.func44, Try.ntmps44
    go_wp2_with (go_at_call 104; refine HC.out.mono ?_; rintro e w1 ⟨rfl, hb1⟩)
    go_ret2
    exact ⟨_, (ret_listX E.out (Ow.nil e2 2 75 w.heap.size w)).1, (ret_listX E.out (Ow.nil e2 2 75 w.heap.size _)).2, below_tr (below_alloc1 _ _) hb1⟩
end Go.Proofs.Ytghglgaimhfedaa
