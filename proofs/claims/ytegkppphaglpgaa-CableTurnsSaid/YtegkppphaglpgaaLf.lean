/-
  Walks of chapter 1's lines: the links that are slack; the least load.
-/
import Derived.Test.YtegkppphaglpgaaLe
import Derived.Test.YtegkppphaglpgaaKs
import Derived.Test.YtegkppphaglpgaaWc
namespace Go.Proofs.Ytegkppphaglpgaa
open Go.RowKit Go.Shelf
attribute [local go_sem] Oper.semAt_some wide_fn wide_depth round_fn round_depth

def slackAcc (pre : List (Nat × Int)) : List Int := (pre.filter fun p => decide (p.2 ≤ 0)).map fun p => (p.1 : Int)
theorem slackAcc_yes {pre : List (Nat × Int)} {i : Nat} {z : Int} (h : z ≤ 0) : slackAcc (pre ++ [(i, z)]) = slackAcc pre ++ [(i : Int)] := by simp [slackAcc, List.filter_append, h]
theorem slackAcc_no {pre : List (Nat × Int)} {i : Nat} {z : Int} (h : ¬ z ≤ 0) : slackAcc (pre ++ [(i, z)]) = slackAcc pre := by simp [slackAcc, List.filter_append, h]
theorem slackAcc_len (pre : List (Nat × Int)) : (slackAcc pre).length ≤ pre.length := by unfold slackAcc; rw [List.length_map]; exact List.length_filter_le _ _
theorem slackF_acc (xs : List Int) (k : Nat) : slackF xs k = ((xs.zipIdx k).filter fun p => decide (p.1 ≤ 0)).map fun p => (p.2 : Int) := by
  induction xs generalizing k with
  | nil => rfl
  | cons z r ih =>
    rw [slackF, List.zipIdx_cons, ih]
    by_cases h : z ≤ 0 <;> simp [h]
theorem slack_acc (l : Ln) : slackAcc (lifts l) = slack l := by
  unfold slack slackAcc
  rw [slackF_acc]
  have : lifts l = ((zs l).zipIdx 0).map fun p => (p.2, p.1) := by
    apply List.ext_getElem
    · simp [lifts_len, zs_len]
    · intro i h1 h2
      have hi : i < (zs l).length := by rw [lifts_len] at h1; rw [zs_len]; exact h1
      simp [lifts, hi]
  rw [this, List.filter_map, List.map_map]
  rfl

def slackIn (l : Ln) : List Int × Int := if lineErr l = 0 then (slack l, 0) else ([], lineErr l)
theorem ret_list' {q : List Int × Int} {k : List Int} {a : Int} {r : Value} {base : Nat} {w : World} (h : q = (k, a)) (ho : Ow e1 1 3 base w r k) :
    Ending.returned (.tuple #[r, .int .i64 a]) = .returned (.tuple #[r, .int .i64 q.2]) ∧ Ow e1 1 3 base w r q.1 := by rw [h]; exact ⟨rfl, ho⟩
set_option maxRecDepth 100000 in
set_option maxHeartbeats 2000000 in
theorem SlackIn_any (v : Value) (l : Ln) (w : World) (hs : Sl e3 3 w v l.ks) (hbig : l.ks.length ≤ 1000) :
    Calls Try.prog 20 #[.agg #[.int .i64 l.x, .int .i64 l.z, v]] w fun e w' => ∃ r, e = .returned (.tuple #[r, .int .i64 (slackIn l).2]) ∧ Ow e1 1 3 w.heap.size w' r (slackIn l).1 ∧ Below w.heap.size w w' := by
  obtain ⟨i0, hi, hz0, hz1, hz2⟩ := info_parts intinfo
  have HC := Lib.hid (lineError_any v l _ (hs.alloc (.cells #[.int .i64 l.x, .int .i64 l.z, v] 26)) hbig)
  by_cases h1 : lineErr l = 0
  · have hl := lineErr_ok h1
    have hvb := hs.blk hl.n0
    have E : Hid (slackIn l = (slack l, 0)) := if_pos h1
    rw [h1] at HC
    obtain ⟨A, c, rfl, hcap⟩ := hs.form
    have HV := Lib.hid hvb
    have HS := Lib.hid hs
    have HL := Lib.hid hl
    clear hvb hs hl h1
    refine (callsIn_wide (n := 0)).1 ?_
    refine callsIn_of_wp_marks Try.func20 rfl trivial ?_ rfl
    simp only [Try.ntmps20, List.size_toArray, List.length_cons, List.length_nil, Nat.reduceAdd, Nat.reduceSub, Array.replicate_succ, Array.replicate_zero, List.push_toArray, List.append_toArray, List.nil_append, List.cons_append]
    gi_wp2_with (first
      | (gi_at_call 94; refine (atWide HC.out).mono ?_; rintro e w1 ⟨rfl, hb1⟩; obtain ⟨q1, _⟩ := (At.new w #[.int .i64 l.x, .int .i64 l.z, .slice A l.ks.length c] 26 0 _ rfl).below hb1; obtain ⟨q2, _⟩ := (At.new w #[.int .i64 l.x, .int .i64 l.z, .slice A l.ks.length c] 26 1 _ rfl).below hb1; obtain ⟨q3, _⟩ := (At.new w #[.int .i64 l.x, .int .i64 l.z, .slice A l.ks.length c] 26 2 _ rfl).below hb1; have q0 := cell_lt q1; simp only at q0; have q00 : w.heap.size < w1.heap.size + 1 := by omega)
      | (gi_at_call 95; refine (atWide (lifts_any l _ _ ⟨_, _, _, rfl⟩)).mono ?_; rintro e w2 ⟨rfl, rfl⟩))
    obtain ⟨W1, hW1⟩ : ∃ W1, W1 = w1.alloc (.cells #[.slice none 0 0] 36) := ⟨_, rfl⟩
    obtain ⟨W0, hW0⟩ : ∃ W0, W0 = W1.alloc (.cells #[.int .i64 l.x, .int .i64 l.z, .slice A l.ks.length c] 141) := ⟨_, rfl⟩
    rw [← hW1, ← hW0]
    have hbw1 : Below w.heap.size w w1 := below_tr (below_alloc1 _ _) hb1
    have hb10 : Below w.heap.size w W1 := by rw [hW1]; exact below_al hbw1 _
    have hb0 : Below w.heap.size w W0 := by rw [hW0]; exact below_al hb10 _
    have wz1 : w1.heap.size + 1 ≤ W1.heap.size := by rw [hW1]; simp
    have wz1' : w.heap.size ≤ w1.heap.size := hbw1.size
    have wz0 : W1.heap.size + 1 ≤ W0.heap.size := by rw [hW0]; simp
    have aR : Hold e1 1 3 (W1.heap.size + 1) W0 ⟨w1.heap.size, 0, none⟩ ([] : List Int) := by
      rw [hW0, hW1]
      exact ⟨.slice none 0 0, (At.new w1 #[.slice none 0 0] 36 0 _ rfl).al _, Ow.nil _ _ _ _ _⟩
    have aL : ∀ j v, (#[Value.int .i64 l.x, .int .i64 l.z, .slice A l.ks.length c] : Array Value)[j]? = some v → W0.cell? ⟨W1.heap.size, j, none⟩ = some v := by
      intro j v hv
      rw [hW0]; exact (At.new W1 _ 141 j v hv).1
    have aL1 := aL 1 _ rfl
    have aL2 := aL 2 _ rfl
    have hsW := HS.out.below hb0
    have hxe : (⟨w1.heap.size + 1, 0, none⟩ : Addr) = ⟨W1.heap.size, 0, none⟩ := by rw [hW1]; simp
    rw [hxe]
    clear aL hW0 hW1 hxe hb1 q1 q2 q3
    refine wp_rangeX (gf := 137) (lb := #[.pointer (some ⟨W1.heap.size, 0, none⟩)]) rfl (enters_of Try.func137 (by kernel_rfl) rfl)
      (lifts_seq W1.heap.size _ l W0 HL.out aL1 aL2 hsW (fun k => k = W1.heap.size ∨ (Value.slice A l.ks.length c).ownBlock = some k) (.inl rfl) (fun b hb => .inr hb)) (Below.refl _ _)
      (by
        rintro k (rfl | hk)
        · omega
        · have := HV.out k hk; have := hb0.size; omega) (fun _ => rfl)
      (fun pre W => Hold e1 1 3 (W1.heap.size + 1) W ⟨w1.heap.size, 0, none⟩ (slackAcc pre) ∧ Below w.heap.size w W)
      (fun _ _ _ => False)
      (OwnFrom.and (own_hold _ _ _) (ownFrom_below (Nat.le_refl _) (by omega)))
      (fun _ _ _ _ _ h _ _ => h) ⟨aR, hb0⟩ ?round ?done ?stop
    case round =>
      rintro lp pre ⟨i, z⟩ W hlp hlt hpre ⟨hT, hB⟩
      have hn := pre_len hpre
      rw [lifts_len] at hn
      have hn1 := HL.out.n1
      have hal := slackAcc_len pre
      have HB := Lib.hid hB
      have HT := Lib.hid hT
      clear hpre hT hB
      simp only [encL]
      gi_wp2
      refine ⟨Kep.refl _ _ _, fun W2 hTn => ?_⟩
      have KB : Hid (Below w.heap.size w W2) := HB.out.trans (hTn.below (by omega))
      obtain ⟨va, hat, how⟩ := HT.out.turn hTn
      have hwl := hat.lt
      simp only at hwl
      have KT := Lib.hid hat
      have KO := Lib.hid how
      obtain ⟨c5, f5⟩ := hat
      have hw2 : W1.heap.size + 1 ≤ W2.heap.size := by rw [hTn.size]; omega
      clear hTn how
      by_cases hz : z ≤ 0
      · have hyes := Lib.hid (slackAcc_yes (pre := pre) (i := i) hz)
        gi_wp2_with (gi_at_builtin; refine wpListIn_append_own _ rfl _ _ 36 rfl (W1.heap.size + 1) 3 i0 _ 1 8 Try.underlying36 hi hz0 hz1 hz2 rfl (by decide) _ _ _ rfl (KO.out.own.alloc _) ⟨_, 0, none⟩ 1 1 (e1 i) rfl rfl (cells_new _ _ _) (e1_one _) (by simp only [maxLen]; omega) (by omega) (by simp; omega) ?_; intro v1 w4 hown1 hg1 _; obtain ⟨g', cap', rfl⟩ := ownsRow_succ hown1; have k5 := (KT.out.al _).grown' hg1 (KO.out.apart' (show w1.heap.size < W1.heap.size + 1 by omega)); obtain ⟨k6, k7⟩ := k5; have HO2 := Lib.hid hown1; have HG := Lib.hid hg1; clear hown1 hg1)
        refine ⟨Kep.setCell (((Kep.refl _ _ _).alloc _).grown HG.out (fun k hk => ?_)) ?_ _, ?_, ?_⟩
        · refine ⟨?_, (KO.out.alloc _).cells_only k hk⟩
          have h1 := (World.ownsRow.lt KO.out k hk)
          rintro (h | h)
          · omega
          · have := HV.out _ h; omega
        · rintro (h | h)
          · simp only at h; omega
          · have := HV.out _ h; simp only at this; omega
        · rw [hyes.out]; exact Hold.put (.inr ⟨_, k6, k7⟩) (Ow.snoc HO2.out) (show w1.heap.size < W1.heap.size + 1 by omega)
        · exact below_set ((KO.out.alloc _).grown HG.out (below_al KB.out _) (by omega)) (by show w.heap.size ≤ w1.heap.size; omega) _
      · have hnn := Lib.hid (slackAcc_no (pre := pre) (i := i) hz)
        gi_wp2
        exact ⟨Kep.refl _ _ _, by rw [hnn.out]; exact ⟨va, KT.out, KO.out⟩, KB.out⟩
    case done =>
      rintro D W hD ⟨⟨va, hat, how⟩, hB⟩ hK
      have HB := Lib.hid hB
      have KO := Lib.hid how
      obtain ⟨c5, f5⟩ := hat
      clear hB how
      gi_wp2
      refine ⟨by simp, .inl ⟨_, _, rfl, run_takeDeferred hK, ?_⟩⟩
      rw [slack_acc] at KO
      have KP := KO.out.turn (N := D) (W' := W.putObj D (.deferred none)) ⟨D, _, _, Nat.le_refl _, hK, rfl, rfl, rfl⟩
      exact ⟨_, results_tmp2 (t := 2) (u := 3) rfl _ _ _, va, (ret_list' E.out (KP.less (base' := w.heap.size) (by omega))).1, (ret_list' E.out (KP.less (base' := w.heap.size) (by omega))).2, below_put HB.out (Nat.le_refl _) (by omega) hK⟩
    case stop =>
      rintro D c pre W _ _ h _
      exact h.elim
  · have E : Hid (slackIn l = ([], lineErr l)) := if_neg h1
    have h1' := ne1 h1
    generalize lineErr l = pe at *
    clear h1
    obtain ⟨A, c, rfl, hcap⟩ := hs.form
    clear hs
    go_enter Try.func20, Try.ntmps20
    go_wp2_with (go_at_call 94; refine HC.out.mono ?_; rintro e w1 ⟨rfl, hb1⟩)
    go_ret2
    exact ⟨_, (ret_list' E.out (Ow.nil _ _ _ w.heap.size w)).1, (ret_list' E.out (Ow.nil _ _ _ w.heap.size _)).2, below_tr (below_alloc1 _ _) hb1⟩
end Go.Proofs.Ytegkppphaglpgaa
