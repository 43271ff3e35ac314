/-
  Walks of chapter 1: the pulls over a box.
-/
import Derived.Test.YtghglgaimhfedaaZNa
import Derived.Test.YtghglgaimhfedaaQL
namespace Go.Proofs.Ytghglgaimhfedaa
open Go.RowKit Go.Shelf
attribute [local go_sem] Oper.semAt_some wide_fn wide_depth round_fn round_depth
attribute [local go_sem] monoUpon_value monoUpon_skip monoUpon_enter

def pullsIn (l : Ln) (b : List (Int × Int)) : List (Int × Int) × Int := if boxErr l b = 0 then ((pulls l b).map (fun p => (p.lo, p.hi)), 0) else ([], boxErr l b)
set_option maxRecDepth 100000 in
set_option maxHeartbeats 4000000 in
theorem PullsIn_any (v u : Value) (l : Ln) (b : List (Int × Int)) (w : World) (hs : Sl e3 3 w v l.ks) (hu : Sl e2 2 w u b) (hbig : l.ks.length ≤ 1000) (hbig' : b.length ≤ 1000) :
    Calls Try.prog 57 #[.agg #[.int .i64 l.x, .int .i64 l.z, v], u] w fun e w' => ∃ r, e = .returned (.tuple #[r, .int .i64 (pullsIn l b).2]) ∧ Ow e2 2 66 w.heap.size w' r (pullsIn l b).1 ∧ Below w.heap.size w w' := by
  obtain ⟨i0, hi, hz0, hz1, hz2⟩ := info_parts rangeinfo2
  have HC := Lib.hid (boxError_any v u l b _ (hs.alloc (.cells #[.int .i64 l.x, .int .i64 l.z, v] 26)) (hu.alloc (.cells #[.int .i64 l.x, .int .i64 l.z, v] 26)) hbig hbig')
  by_cases h1 : boxErr l b = 0
  · obtain ⟨hl, hbx⟩ := boxOk_of h1
    have hvb := hs.blk hl.n0
    have hub := hu.blk (by rw [hbx.len]; exact hl.n0)
    have E : Hid (pullsIn l b = ((pulls l b).map (fun p => (p.lo, p.hi)), 0)) := if_pos h1
    rw [h1] at HC
    obtain ⟨A, c, rfl, hcap⟩ := hs.form
    obtain ⟨A', c', rfl, hcap'⟩ := hu.form
    have HV := Lib.hid (And.intro hvb hub)
    have HS := Lib.hid hs
    have HU := Lib.hid hu
    have HL := Lib.hid hl
    have HX := Lib.hid hbx
    clear hvb hub hs hu hl hbx h1
    refine (callsIn_wide (n := 0)).1 ?_
    refine callsIn_of_wp_marks Try.func57 rfl trivial ?_ rfl
    simp only [Try.ntmps57, List.size_toArray, List.length_cons, List.length_nil, Nat.reduceAdd, Nat.reduceSub, Array.replicate_succ, Array.replicate_zero, List.push_toArray, List.append_toArray, List.nil_append, List.cons_append]
    gi_wp2_with (first
      | (gi_at_call 119; refine (atWide HC.out).mono ?_; rintro e w1 ⟨rfl, hb1⟩; have A0 := (At.new w #[.int .i64 l.x, .int .i64 l.z, .slice A l.ks.length c] 26 0 _ rfl).below hb1; have A1 := (At.new w #[.int .i64 l.x, .int .i64 l.z, .slice A l.ks.length c] 26 1 _ rfl).below hb1; have A2 := (At.new w #[.int .i64 l.x, .int .i64 l.z, .slice A l.ks.length c] 26 2 _ rfl).below hb1; have HW1 : ∃ W1, W1 = w1.alloc (.cells #[.slice none 0 0] 27) := ⟨_, rfl⟩; obtain ⟨W1, hW1⟩ := HW1; have hb01 : Below w.heap.size w w1 := below_tr (below_alloc1 _ _) hb1; have hb10 : Below w.heap.size w W1 := (by rw [hW1]; exact below_al hb01 _); have wz0 : w.heap.size + 1 ≤ w1.heap.size := (by have := hb1.size; simpa using this); have wz1 : W1.heap.size = w1.heap.size + 1 := (by rw [hW1]; simp); have q1 : W1.cell? ⟨w.heap.size, 0, none⟩ = some (.int .i64 l.x) := (by rw [hW1]; exact (A0.al _).1); have q2 : W1.cell? ⟨w.heap.size, 1, none⟩ = some (.int .i64 l.z) := (by rw [hW1]; exact (A1.al _).1); have q3 : W1.cell? ⟨w.heap.size, 2, none⟩ = some (.slice A l.ks.length c) := (by rw [hW1]; exact (A2.al _).1); have aT : At W1 ⟨w1.heap.size, 0, none⟩ (.slice none 0 0) := (by rw [hW1]; exact At.new w1 #[.slice none 0 0] 27 0 _ rfl); have HT := Lib.hid aT; clear A0 A1 A2 aT hb1 HC)
      | (rw [← hW1]; clear hW1)
      | (gi_at_call 100; refine (atWide (pulls_any l _ _ _ ⟨_, _, _, rfl⟩ ⟨_, _, _, rfl⟩)).mono ?_; rintro e w3 ⟨rfl, rfl⟩))
    clear q1 q2 q3
    obtain ⟨W0, hW0⟩ : ∃ W0, W0 = (W1.alloc (.cells #[.int .i64 l.x, .int .i64 l.z, .slice A l.ks.length c] 137)).alloc (.cells #[.slice A' b.length c'] 27) := ⟨_, rfl⟩
    rw [← hW0]
    have z0 : W0.heap.size = W1.heap.size + 2 := by rw [hW0]; simp
    have hb20 : Below W1.heap.size W1 W0 := by rw [hW0]; exact below_al (below_alloc1 _ _) _
    have hb0 : Below w.heap.size w W0 := hb10.trans (hb20.mono hb10.size)
    obtain ⟨bx, by'⟩ := box2 W1 #[.int .i64 l.x, .int .i64 l.z, .slice A l.ks.length c] #[.slice A' b.length c'] 137 27
    have L0 : W0.cell? ⟨W1.heap.size, 0, none⟩ = some (.int .i64 l.x) := by rw [hW0]; exact (bx 0 _ rfl).1
    have L1 : W0.cell? ⟨W1.heap.size, 1, none⟩ = some (.int .i64 l.z) := by rw [hW0]; exact (bx 1 _ rfl).1
    have L2 : W0.cell? ⟨W1.heap.size, 2, none⟩ = some (.slice A l.ks.length c) := by rw [hW0]; exact (bx 2 _ rfl).1
    have L3 : W0.cell? ⟨W1.heap.size + 1, 0, none⟩ = some (.slice A' b.length c') := by rw [hW0]; exact (by' 0 _ rfl).1
    clear bx by' hW0
    rw [wz1] at L0 L1 L2 L3
    have aT : At W0 ⟨w1.heap.size, 0, none⟩ (.slice none 0 0) := HT.out.below hb20
    have h0 : HoldF e2 2 66 (w1.heap.size + 1) ⟨w1.heap.size, 0, none⟩ (fun k => k = w1.heap.size ∨ (Value.slice none 0 0).ownBlock = some k) ([] : List (Int × Int)) W0 := ⟨_, aT, Ow.nil _ _ _ _ _, by show w1.heap.size < _; omega, rfl⟩
    refine wp_rangeF (gf := 140) (lb := #[.pointer (some ⟨w1.heap.size + 1, 0, none⟩), .pointer (some ⟨w1.heap.size + 1 + 1, 0, none⟩)]) rfl (enters_of Try.func140 (by kernel_rfl) rfl)
      (pulls_seq (w1.heap.size + 1) (w1.heap.size + 1 + 1) _ _ l b W0 HL.out HX.out L0 L1 L2 L3 (HS.out.below hb0) (HU.out.below hb0)
        (fun k => k = w1.heap.size + 1 ∨ k = w1.heap.size + 1 + 1 ∨ (Value.slice A l.ks.length c).ownBlock = some k ∨ (Value.slice A' b.length c').ownBlock = some k) (.inl rfl) (.inr (.inl rfl)) (fun k hk => .inr (.inr (.inl hk))) (fun k hk => .inr (.inr (.inr hk))) ?_) (Below.refl _ _) (fun _ => rfl)
      (fun F pre W => HoldF e2 2 66 (w1.heap.size + 1) ⟨w1.heap.size, 0, none⟩ F (pre.map (fun p => (p.lo, p.hi))) W ∧ Below w.heap.size w W)
      (OwnF.and (holdF_own _) (ownF_below (Nat.le_refl _) (by have := hb0.size; omega))) _ h0.foot ?_ ⟨h0, hb0⟩ ?_ ?_
    · rintro k (rfl | rfl | hk | hk)
      · omega
      · omega
      · have := HV.out.1 k hk; have := hb0.size; omega
      · have := HV.out.2 k hk; have := hb0.size; omega
    · rintro k (rfl | hk)
      · rintro (h | h | h | h)
        · omega
        · omega
        · have := HV.out.1 _ h; omega
        · have := HV.out.2 _ h; omega
      · simp [Value.ownBlock] at hk
    · rintro lr F pre p W hlr hlt hpre ⟨⟨va, hat, how, hbase, hF⟩, hB⟩ hFF
      obtain ⟨hpl, _⟩ := pre_get hpre
      rw [pulls_len HX.out] at hpl
      have hn1 := HL.out.n1
      have hml : (pre.map fun p => (p.lo, p.hi)).length = pre.length := by simp
      have HB := Lib.hid hB
      have HAT := Lib.hid hat
      have HOW := Lib.hid how
      have HF := Lib.hid hF
      have hal := hat.lt
      simp only at hal
      clear hpre hat how hB hF L0 L1 L2 L3 aT h0
      simp only [encP]
      gi_wp2
      refine ⟨(Out.refl F W).alloc _, fun W2 hTn => ?_⟩
      have HW2 : Hid (W2.heap.size = W.heap.size + 1) := by show _ = _; rw [hTn.size]; simp
      have hw2 : w1.heap.size < W2.heap.size := by have := HW2.out; omega
      have P3 := (At.new W #[.int .i64 p.h, .int .i64 p.wt, .int .i64 p.d, .int .i64 p.lo, .int .i64 p.hi, .int .i64 p.z] 146 3 _ rfl).turn hTn
      have P4 := (At.new W #[.int .i64 p.h, .int .i64 p.wt, .int .i64 p.d, .int .i64 p.lo, .int .i64 p.hi, .int .i64 p.z] 146 4 _ rfl).turn hTn
      have KT := Lib.hid ((HAT.out.al (.cells #[.int .i64 p.h, .int .i64 p.wt, .int .i64 p.d, .int .i64 p.lo, .int .i64 p.hi, .int .i64 p.z] 146)).turn hTn)
      have KO := Lib.hid ((HOW.out.alloc (.cells #[.int .i64 p.h, .int .i64 p.wt, .int .i64 p.d, .int .i64 p.lo, .int .i64 p.hi, .int .i64 p.z] 146)).turn hTn)
      have KB : Hid (Below w.heap.size w W2) := (below_al HB.out _).trans (hTn.below (by have := hb0.size; omega))
      obtain ⟨c5, f5⟩ := KT.out
      obtain ⟨c6, _⟩ := P3
      obtain ⟨c7, _⟩ := P4
      clear hTn
      gi_wp2_with (gi_at_builtin; refine wpListIn_append_at _ rfl _ _ 27 rfl (w1.heap.size + 1) 66 i0 _ 2 16 Try.underlying27 hi hz0 hz1 hz2 rfl (by decide) _ _ _ rfl (KO.out.own.alloc _) ⟨_, 0, none⟩ 1 1 (e2 (p.lo, p.hi)) rfl rfl (cells_new _ _ _) (e2_one _) (by simp only [maxLen]; omega) (by omega) (by simp; omega) ?_; intro v1 w4 hown1 hg1 hblk; obtain ⟨g', cap', rfl⟩ := ownsRow_succ hown1; have k5 := (KT.out.al _).grown' hg1 (KO.out.apart' (show w1.heap.size < w1.heap.size + 1 by omega)); obtain ⟨k6, k7⟩ := k5; have HO2 := Lib.hid hown1; have HG := Lib.hid hg1; have HK := Lib.hid hblk; clear hown1 hg1 hblk)
      have hh : HoldF e2 2 66 (w1.heap.size + 1) ⟨w1.heap.size, 0, none⟩ (fun k => k = w1.heap.size ∨ (Value.slice (some ⟨g', 0, none⟩) (pre.length + 1) cap').ownBlock = some k) ((pre ++ [p]).map fun p => (p.lo, p.hi)) (w4.setCell ⟨w1.heap.size, 0, none⟩ (.slice (some ⟨g', 0, none⟩) (pre.length + 1) cap')) :=
        ⟨_, At.set ⟨k6, k7⟩, by rw [List.map_append]; exact Ow.setFar (by have h := Ow.snoc HO2.out; rw [hml] at h; exact h) (show w1.heap.size < w1.heap.size + 1 by omega) _, by show w1.heap.size < _; omega, rfl⟩
      refine ⟨(((Out.refl F W2).alloc _).grown HG.out (fun k hk => .inl (by rw [HF.out]; exact .inr hk))).setCell (.inl (by rw [HF.out]; exact .inl rfl)) _, _, ⟨hh, ?_⟩, hh.foot, ?_⟩
      · exact below_set ((KO.out.alloc _).grown HG.out (below_al KB.out _) (by omega)) (by show w.heap.size ≤ w1.heap.size; omega) _
      · rintro k (rfl | hk)
        · exact .inl (by rw [HF.out]; exact .inl rfl)
        · rcases HK.out with h | h
          · exact .inl (by rw [HF.out]; exact .inr (h.symm.trans hk))
          · have h3 := h.symm.trans hk
            injection h3 with h3
            have := HW2.out
            simp at h3
            exact .inr (by omega)
    · rintro D W F hD ⟨⟨va, hat, how, hbase, hF⟩, hB⟩ hK
      have HB := Lib.hid hB
      have KO := Lib.hid how
      obtain ⟨c5, f5⟩ := hat
      clear hB how L0 L1 L2 L3 aT h0 hF
      gi_wp2
      refine ⟨by simp, .inl ⟨_, _, rfl, run_takeDeferred hK, ?_⟩⟩
      have KP := KO.out.turn (N := D) (W' := W.putObj D (.deferred none)) ⟨D, _, _, Nat.le_refl _, hK, rfl, rfl, rfl⟩
      have KQ := ret_listX E.out (KP.less (base' := w.heap.size) (by omega))
      exact ⟨_, results_tmp2 (t := 4) (u := 5) rfl _ _ _, va, KQ.1, KQ.2, below_put HB.out (Nat.le_refl _) (by have := hb0.size; omega) hK⟩
  · have E : Hid (pullsIn l b = ([], boxErr l b)) := if_neg h1
    have h1' := ne1 h1
    generalize boxErr l b = pe at *
    clear h1
    obtain ⟨A, c, rfl, hcap⟩ := hs.form
    obtain ⟨A', c', rfl, hcap'⟩ := hu.form
    clear hs hu
    go_enter Try.func57, Try.ntmps57
    go_wp2_with (go_at_call 119; refine HC.out.mono ?_; rintro e w1 ⟨rfl, hb1⟩)
    go_ret2
    exact ⟨_, (ret_listX E.out (Ow.nil e2 2 66 w.heap.size w)).1, (ret_listX E.out (Ow.nil e2 2 66 w.heap.size _)).2, below_tr (below_alloc1 _ _) hb1⟩
end Go.Proofs.Ytghglgaimhfedaa
