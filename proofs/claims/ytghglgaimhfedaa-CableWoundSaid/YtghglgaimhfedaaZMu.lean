/-
  Walks of chapter 1: sums over pulls of whatever range; laybacks and lengths.
-/
import Derived.Test.YtghglgaimhfedaaZMt
namespace Go.Proofs.Ytghglgaimhfedaa
open Go.RowKit Go.Shelf
attribute [local go_sem] Oper.semAt_some wide_fn wide_depth round_fn round_depth

set_option maxRecDepth 100000 in
set_option maxHeartbeats 4000000 in
theorem total_any (K : FuncId) (eg : ∀ (args : Array Value) (w : World), (callFunc K args).run Try.prog w = .ok (.enter K args) w) (g : Pl → Int × Int) (v u : Value) (l : Ln) (b : List (Int × Int)) (w : World) (hs : Sl e3 3 w v l.ks) (hu : Sl e2 2 w u b) (hl : LnOk l) (hb : BoxOk l b) (hz : ∀ p ∈ pulls l b, ((-40000000 ≤ (g p).1 ∧ (g p).1 ≤ 40000000) ∧ (-40000000 ≤ (g p).2 ∧ (g p).2 ≤ 40000000)) ∧ ∀ w, Calls Try.prog K #[.agg #[.int .i64 p.h, .int .i64 p.wt, .int .i64 p.d, .int .i64 p.lo, .int .i64 p.hi, .int .i64 p.z]] w fun e w' => e = .returned (.agg #[.int .i64 (g p).1, .int .i64 (g p).2]) ∧ Below w.heap.size w w') :
    Calls Try.prog 105 #[.agg #[.int .i64 l.x, .int .i64 l.z, v], u, .func (.func K) #[] #[]] w fun e w' => e = .returned (.agg #[.int .i64 (totR g (pulls l b)).1, .int .i64 (totR g (pulls l b)).2]) ∧ Below w.heap.size w w' := by
  have hvb := hs.blk hl.n0
  have hub := hu.blk (by rw [hb.len]; exact hl.n0)
  obtain ⟨A, c, rfl, hcap⟩ := hs.form
  obtain ⟨A', c', rfl, hcap'⟩ := hu.form
  have HV := Lib.hid (And.intro hvb hub)
  have HS := Lib.hid hs
  have HU := Lib.hid hu
  have HL := Lib.hid hl
  have HX := Lib.hid hb
  have HZ := Lib.hid hz
  clear hvb hub hs hu hl hb hz
  refine (callsIn_wide (n := 0)).1 ?_
  refine callsIn_of_wp_marks Try.func105 rfl trivial ?_ rfl
  simp only [Try.ntmps105, List.size_toArray, List.length_cons, List.length_nil, Nat.reduceAdd, Nat.reduceSub, Array.replicate_succ, Array.replicate_zero, List.push_toArray, List.append_toArray, List.nil_append, List.cons_append]
  gi_wp2_with (gi_at_call 100; refine (atWide (pulls_any l _ _ _ ⟨_, _, _, rfl⟩ ⟨_, _, _, rfl⟩)).mono ?_; rintro e w3 ⟨rfl, rfl⟩)
  obtain ⟨w2, hw2⟩ : ∃ w2, w2 = (((w.alloc (.cells #[.int .i64 l.x, .int .i64 l.z, .slice A l.ks.length c] 137)).alloc (.cells #[.func (.func K) #[] #[]] 149)).alloc (.cells #[.int .i64 0, .int .i64 0] 66)).alloc (.cells #[.int .i64 0, .int .i64 0] 66) := ⟨_, rfl⟩
  obtain ⟨W0, hW0⟩ : ∃ W0, W0 = (w2.alloc (.cells #[.int .i64 l.x, .int .i64 l.z, .slice A l.ks.length c] 137)).alloc (.cells #[.slice A' b.length c'] 27) := ⟨_, rfl⟩
  rw [← hw2, ← hW0]
  have z2 : w2.heap.size = w.heap.size + 4 := by rw [hw2]; simp
  have z0 : W0.heap.size = w.heap.size + 6 := by rw [hW0]; simp [z2]
  have hb02 : Below w.heap.size w w2 := by rw [hw2]; exact below_al (below_al (below_al (below_alloc1 _ _) _) _) _
  have hb20 : Below w2.heap.size w2 W0 := by rw [hW0]; exact below_al (below_alloc1 _ _) _
  have hb0 : Below w.heap.size w W0 := below_tr hb02 hb20
  obtain ⟨bx, by'⟩ := box2 w2 #[.int .i64 l.x, .int .i64 l.z, .slice A l.ks.length c] #[.slice A' b.length c'] 137 27
  have L0 : W0.cell? ⟨w2.heap.size, 0, none⟩ = some (.int .i64 l.x) := by rw [hW0]; exact (bx 0 _ rfl).1
  have L1 : W0.cell? ⟨w2.heap.size, 1, none⟩ = some (.int .i64 l.z) := by rw [hW0]; exact (bx 1 _ rfl).1
  have L2 : W0.cell? ⟨w2.heap.size, 2, none⟩ = some (.slice A l.ks.length c) := by rw [hW0]; exact (bx 2 _ rfl).1
  have L3 : W0.cell? ⟨w2.heap.size + 1, 0, none⟩ = some (.slice A' b.length c') := by rw [hW0]; exact (by' 0 _ rfl).1
  have aP : At w2 ⟨w.heap.size + 1, 0, none⟩ (.func (.func K) #[] #[]) := by
    rw [hw2]; exact (((box2 w #[.int .i64 l.x, .int .i64 l.z, .slice A l.ks.length c] #[.func (.func K) #[] #[]] 137 149).2 0 _ rfl).al _).al _
  have aR : ∀ (j : Nat) (v : Value), (#[Value.int .i64 0, .int .i64 0] : Array Value)[j]? = some v → At w2 ⟨w.heap.size + 2, j, none⟩ v ∧ At w2 ⟨w.heap.size + 3, j, none⟩ v := by
    intro j v hv
    rw [hw2]
    have h := box2 ((w.alloc (.cells #[.int .i64 l.x, .int .i64 l.z, .slice A l.ks.length c] 137)).alloc (.cells #[.func (.func K) #[] #[]] 149)) #[Value.int .i64 0, .int .i64 0] #[Value.int .i64 0, .int .i64 0] 66 66
    have e : ((w.alloc (.cells #[.int .i64 l.x, .int .i64 l.z, .slice A l.ks.length c] 137)).alloc (.cells #[.func (.func K) #[] #[]] 149)).heap.size = w.heap.size + 2 := by simp
    rw [e] at h
    exact ⟨h.1 j v hv, h.2 j v hv⟩
  have hFoot : Foot (fun k => w.heap.size < k ∧ k < w.heap.size + 4) W0 := four_foot rfl (aP.below hb20) ((aR 0 _ rfl).1.below hb20) ((aR 0 _ rfl).2.below hb20)
  have aR0 := (aR 0 _ rfl).1.below hb20
  have aR1 := (aR 1 _ rfl).1.below hb20
  have aS0 := (aR 0 _ rfl).2.below hb20
  have aS1 := (aR 1 _ rfl).2.below hb20
  have aP0 := aP.below hb20
  clear aR aP bx by' hW0 hw2
  rw [z2] at L0 L1 L2 L3
  refine wp_rangeF (gf := 140) (lb := #[.pointer (some ⟨w.heap.size + 4, 0, none⟩), .pointer (some ⟨w.heap.size + 4 + 1, 0, none⟩)]) rfl (enters_of Try.func140 (by kernel_rfl) rfl)
    (pulls_seq (w.heap.size + 4) (w.heap.size + 4 + 1) _ _ l b W0 HL.out HX.out L0 L1 L2 L3 (HS.out.below hb0) (HU.out.below hb0)
      (fun k => k = w.heap.size + 4 ∨ k = w.heap.size + 4 + 1 ∨ (Value.slice A l.ks.length c).ownBlock = some k ∨ (Value.slice A' b.length c').ownBlock = some k) (.inl rfl) (.inr (.inl rfl)) (fun k hk => .inr (.inr (.inl hk))) (fun k hk => .inr (.inr (.inr hk))) ?_) (Below.refl _ _) (fun _ => rfl)
    (fun F pre W => (FourF w.heap.size F ∧ At W ⟨w.heap.size + 1, 0, none⟩ (.func (.func K) #[] #[])) ∧ (FourF w.heap.size F ∧ At W ⟨w.heap.size + 1 + 1, 0, none⟩ (.int .i64 0)) ∧ (FourF w.heap.size F ∧ At W ⟨w.heap.size + 1 + 1, 1, none⟩ (.int .i64 0)) ∧
      (FourF w.heap.size F ∧ At W ⟨w.heap.size + 1 + 1 + 1, 0, none⟩ (.int .i64 (totR g pre).1)) ∧ (FourF w.heap.size F ∧ At W ⟨w.heap.size + 1 + 1 + 1, 1, none⟩ (.int .i64 (totR g pre).2)) ∧ Below w.heap.size w W)
    (OwnF.and (ownF_at (B := w.heap.size) (j := 1) (by omega) _) (OwnF.and (ownF_at (B := w.heap.size) (j := 2) (by omega) _) (OwnF.and (ownF_at (B := w.heap.size) (j := 2) (by omega) _) (OwnF.and (ownF_at (B := w.heap.size) (j := 3) (by omega) _) (OwnF.and (ownF_at (B := w.heap.size) (j := 3) (by omega) _) (ownF_below (Nat.le_refl _) (by omega)))))))
    _ hFoot ?_ ⟨⟨rfl, aP0⟩, ⟨rfl, aR0⟩, ⟨rfl, aR1⟩, ⟨rfl, aS0⟩, ⟨rfl, aS1⟩, hb0⟩ ?_ ?_
  · rintro k (rfl | rfl | hk | hk)
    · omega
    · omega
    · have := HV.out.1 k hk; omega
    · have := HV.out.2 k hk; omega
  · rintro k ⟨k1, k2⟩ (h | h | h | h)
    · omega
    · omega
    · have := HV.out.1 k h; omega
    · have := HV.out.2 k h; omega
  · rintro lr F pre p W hlr hlt hpre ⟨⟨hF, h1⟩, ⟨_, h2⟩, ⟨_, h3⟩, ⟨_, h4⟩, ⟨_, h5⟩, hB⟩ hFF
    obtain ⟨hpl, hpe⟩ := pre_get hpre
    have hmem : p ∈ pulls l b := hpe ▸ List.getElem_mem hpl
    have hpk := pulls_ok HL.out HX.out p hmem
    have hpz := HZ.out p hmem
    have hn1 := HL.out.n1
    rw [pulls_len HX.out] at hpl
    have hobd := hpz.1
    have htbd := totR_bd g 40000000 pre (fun q hq => by
      have hq' : q ∈ pulls l b := by
        obtain ⟨t, ht⟩ := hpre
        rw [← ht]; simp [hq]
      exact (HZ.out q hq').1)
    have hsn := Lib.hid (totR_snoc g pre p)
    have HO := Lib.hid hpz.2
    have HB := Lib.hid hB
    have HA := Lib.hid (And.intro h1 (And.intro h2 (And.intro h3 (And.intro h4 h5))))
    have HF := Lib.hid hF
    have hal := h1.lt
    simp only at hal
    obtain ⟨⟨o1, o2⟩, o3, o4⟩ := hobd
    obtain ⟨⟨t1, t2⟩, t3, t4⟩ := htbd
    clear hpre hF h1 h2 h3 h4 h5 hB L0 L1 L2 L3 aP0 aR0 aR1 aS0 aS1 hpe hmem hpk hpz hFoot
    generalize totR g pre = tt at *
    generalize g p = oo at *
    obtain ⟨tt1, tt2⟩ := tt
    obtain ⟨oo1, oo2⟩ := oo
    simp only at *
    simp only [encP]
    gi_wp2
    refine ⟨(Out.refl F W).alloc _, fun W2 hTn => ?_⟩
    have PP := fun j v h => (At.new W #[.int .i64 p.h, .int .i64 p.wt, .int .i64 p.d, .int .i64 p.lo, .int .i64 p.hi, .int .i64 p.z] 146 j v h).turn hTn
    obtain ⟨e0, _⟩ := PP 0 _ rfl
    obtain ⟨e1, _⟩ := PP 1 _ rfl
    obtain ⟨e2, _⟩ := PP 2 _ rfl
    obtain ⟨e3, _⟩ := PP 3 _ rfl
    obtain ⟨e4, _⟩ := PP 4 _ rfl
    obtain ⟨e5, _⟩ := PP 5 _ rfl
    have KA : Hid (At W2 ⟨w.heap.size + 1, 0, none⟩ (.func (.func K) #[] #[]) ∧ At W2 ⟨w.heap.size + 1 + 1, 0, none⟩ (.int .i64 0) ∧ At W2 ⟨w.heap.size + 1 + 1, 1, none⟩ (.int .i64 0) ∧ At W2 ⟨w.heap.size + 1 + 1 + 1, 0, none⟩ (.int .i64 tt1) ∧ At W2 ⟨w.heap.size + 1 + 1 + 1, 1, none⟩ (.int .i64 tt2)) :=
      ⟨(HA.out.1.al _).turn hTn, (HA.out.2.1.al _).turn hTn, (HA.out.2.2.1.al _).turn hTn, (HA.out.2.2.2.1.al _).turn hTn, (HA.out.2.2.2.2.al _).turn hTn⟩
    have KB : Hid (Below w.heap.size w W2) := (below_al HB.out _).trans (hTn.below (by omega))
    have hw2 : w.heap.size + 4 < W2.heap.size := by rw [hTn.size]; simp; omega
    obtain ⟨p1, _⟩ := KA.out.1
    clear hTn PP
    gi_wp2_with (refine (inRnd lr (HO.out _)).mono ?_; rintro e w4 ⟨rfl, hb4⟩; obtain ⟨u1, f1⟩ := KA.out.2.2.2.1.below hb4; obtain ⟨u2, f2⟩ := KA.out.2.2.2.2.below hb4; have HB4 := Lib.hid hb4; have hl4 := (show w.heap.size + 1 + 1 + 1 < w4.heap.size from Nat.lt_of_lt_of_le (Nat.lt_of_succ_lt hw2) hb4.size); clear hb4)
    have hFx : ∀ k, w.heap.size < k ∧ k < w.heap.size + 4 → F k := fun k hk => by rw [HF.out]; exact hk
    have M1 := KA.out.1.below HB4.out
    have M2 := KA.out.2.1.below HB4.out
    have M3 := KA.out.2.2.1.below HB4.out
    have M4 := KA.out.2.2.2.1.below HB4.out
    have M5 := KA.out.2.2.2.2.below HB4.out
    have N1 := ((M1.other (q := ⟨w.heap.size + 1 + 1 + 1, 0, none⟩) (u := .int .i64 (tt1 + oo1)) (by simp)).other (q := ⟨w.heap.size + 1 + 1 + 1, 1, none⟩) (u := .int .i64 (tt2 + oo2)) (by simp)).al (.cells #[.int .i64 oo1, .int .i64 oo2] 66)
    have N2 := ((M2.other (q := ⟨w.heap.size + 1 + 1 + 1, 0, none⟩) (u := .int .i64 (tt1 + oo1)) (by simp)).other (q := ⟨w.heap.size + 1 + 1 + 1, 1, none⟩) (u := .int .i64 (tt2 + oo2)) (by simp)).al (.cells #[.int .i64 oo1, .int .i64 oo2] 66)
    have N3 := ((M3.other (q := ⟨w.heap.size + 1 + 1 + 1, 0, none⟩) (u := .int .i64 (tt1 + oo1)) (by simp)).other (q := ⟨w.heap.size + 1 + 1 + 1, 1, none⟩) (u := .int .i64 (tt2 + oo2)) (by simp)).al (.cells #[.int .i64 oo1, .int .i64 oo2] 66)
    have N4 := ((M4.set (u := .int .i64 (tt1 + oo1))).other (q := ⟨w.heap.size + 1 + 1 + 1, 1, none⟩) (u := .int .i64 (tt2 + oo2)) (by simp)).al (.cells #[.int .i64 oo1, .int .i64 oo2] 66)
    have N5 := ((M5.other (q := ⟨w.heap.size + 1 + 1 + 1, 0, none⟩) (u := .int .i64 (tt1 + oo1)) (by simp)).set (u := .int .i64 (tt2 + oo2))).al (.cells #[.int .i64 oo1, .int .i64 oo2] 66)
    refine ⟨((((Out.refl F W2).call HB4.out).setCell (p := ⟨w.heap.size + 1 + 1 + 1, 0, none⟩) (.inl (hFx _ (by simp; omega))) _).setCell (p := ⟨w.heap.size + 1 + 1 + 1, 1, none⟩) (.inl (hFx _ (by simp; omega))) _).alloc _, F,
      ⟨⟨HF.out, N1⟩, ⟨HF.out, N2⟩, ⟨HF.out, N3⟩, ⟨HF.out, by rw [hsn.out]; exact N4⟩, ⟨HF.out, by rw [hsn.out]; exact N5⟩, ?_⟩, four_foot HF.out N1 N2 N4, fun k hk => .inl hk⟩
    exact below_al (below_set (below_set (KB.out.trans (HB4.out.mono (by omega))) (by simp; omega) _) (by simp; omega) _) _
  · rintro D W F hD ⟨⟨hF, h1⟩, ⟨_, h2⟩, ⟨_, h3⟩, ⟨_, h4⟩, ⟨_, h5⟩, hB⟩ hK
    have HB := Lib.hid hB
    obtain ⟨x1, f1⟩ := h2
    obtain ⟨x2, f2⟩ := h3
    obtain ⟨x3, f3⟩ := h4
    obtain ⟨x4, f4⟩ := h5
    obtain ⟨⟨tt1, tt2⟩, hT⟩ : ∃ t, totR g (pulls l b) = t := ⟨_, rfl⟩
    rw [hT] at x3 x4
    simp only at x3 x4
    have HTT := Lib.hid hT
    have HAA := Lib.hid (And.intro (show At W ⟨w.heap.size + 1 + 1, 0, none⟩ (.int .i64 0) from ⟨x1, f1⟩) (show At W ⟨w.heap.size + 1 + 1, 1, none⟩ (.int .i64 0) from ⟨x2, f2⟩))
    clear hT
    clear hB h1 hF L0 L1 L2 L3 aP0 aR0 aR1 aS0 aS1 hFoot
    gi_wp2
    obtain ⟨W5, hW5⟩ : ∃ W5, W5 = (W.setCell ⟨w.heap.size + 1 + 1, 0, none⟩ (.int .i64 tt1)).setCell ⟨w.heap.size + 1 + 1, 1, none⟩ (.int .i64 tt2) := ⟨_, rfl⟩
    rw [← hW5]
    have hDne : D ≠ w.heap.size + 1 + 1 := by omega
    have hK5 : W5.heap[D]? = some (.deferred (some [])) := by rw [hW5, Below.heap_setCell _ _ _ _ hDne, Below.heap_setCell _ _ _ _ hDne]; exact hK
    have R0 : At (W5.putObj D (.deferred none)) ⟨w.heap.size + 1 + 1, 0, none⟩ (.int .i64 tt1) := At.put (by rw [hW5]; exact (HAA.out.1.set).other (by simp)) hK5 rfl rfl
    have R1 : At (W5.putObj D (.deferred none)) ⟨w.heap.size + 1 + 1, 1, none⟩ (.int .i64 tt2) := At.put (by rw [hW5]; exact (HAA.out.2.other (by simp)).set) hK5 rfl rfl
    have HBB : Below w.heap.size w (W5.putObj D (.deferred none)) := by
      refine below_put ?_ (Nat.le_refl _) (by omega) hK5
      rw [hW5]; exact below_set (below_set HB.out (by simp; omega) _) (by simp; omega) _
    obtain ⟨r0, _⟩ := R0
    obtain ⟨r1, _⟩ := R1
    clear hW5
    refine ⟨by simp, .inl ⟨_, _, rfl, run_takeDeferred hK5, ?_⟩⟩
    refine ⟨.agg #[.int .i64 tt1, .int .i64 tt2], ?_, by rw [HTT.out], HBB⟩
    rw [results_cell rfl]
    go_simp
end Go.Proofs.Ytghglgaimhfedaa
