/-
  Walks of chapter 1's lines: the links that are slack; the least load.
-/
import Derived.Test.YtghglgaimhfedaaQF
import Derived.Test.YtghglgaimhfedaaQB
import Derived.Test.YtghglgaimhfedaaQD
import Derived.Test.YtghglgaimhfedaaZLj
namespace Go.Proofs.Ytghglgaimhfedaa
open Go.RowKit Go.Shelf
attribute [local go_sem] Oper.semAt_some wide_fn wide_depth round_fn round_depth

def slackAcc (pre : List (Nat × Int)) : List Int := (pre.filter fun p => decide (p.2 ≤ 0)).map fun p => (p.1 : Int)
theorem slackAcc_yes {pre : List (Nat × Int)} {i : Nat} {z : Int} (h : z ≤ 0) : slackAcc (pre ++ [(i, z)]) = slackAcc pre ++ [(i : Int)] := by simp [slackAcc, List.filter_append, h]
theorem slackAcc_no {pre : List (Nat × Int)} {i : Nat} {z : Int} (h : ¬ z ≤ 0) : slackAcc (pre ++ [(i, z)]) = slackAcc pre := by simp [slackAcc, List.filter_append, h]
theorem slackAcc_len (pre : List (Nat × Int)) : (slackAcc pre).length ≤ pre.length := by unfold slackAcc; rw [List.length_map]; exact List.length_filter_le _ _
theorem slackF_acc (xs : List Int) (k : Nat) : slackF xs k = ((xs.zipIdx k).filter fun p => decide (p.1 ≤ 0)).map fun p => (p.2 : Int) := by
  induction xs generalizing k with
  | nil => rfl
  | cons z r ih =>
    rw [slackF, List.zipIdx_cons, ih]
    by_cases h : z ≤ 0 <;> simp [h]
theorem slack_acc (l : Ln) : slackAcc (lifts l) = slack l := by
  unfold slack slackAcc
  rw [slackF_acc]
  have : lifts l = ((zs l).zipIdx 0).map fun p => (p.2, p.1) := by
    apply List.ext_getElem
    · simp [lifts_len, zs_len]
    · intro i h1 h2
      have hi : i < (zs l).length := by rw [lifts_len] at h1; rw [zs_len]; exact h1
      simp [lifts, hi]
  rw [this, List.filter_map, List.map_map]
  rfl

def slackIn (l : Ln) : List Int × Int := if lineErr l = 0 then (slack l, 0) else ([], lineErr l)
theorem ret_list' {q : List Int × Int} {k : List Int} {a : Int} {r : Value} {base : Nat} {w : World} (h : q = (k, a)) (ho : Ow e1 1 3 base w r k) :
    Ending.returned (.tuple #[r, .int .i64 a]) = .returned (.tuple #[r, .int .i64 q.2]) ∧ Ow e1 1 3 base w r q.1 := by rw [h]; exact ⟨rfl, ho⟩
set_option maxRecDepth 100000 in
set_option maxHeartbeats 2000000 in
theorem SlackIn_any (v : Value) (l : Ln) (w : World) (hs : Sl e3 3 w v l.ks) (hbig : l.ks.length ≤ 1000) :
    Calls Try.prog 20 #[.agg #[.int .i64 l.x, .int .i64 l.z, v]] w fun e w' => ∃ r, e = .returned (.tuple #[r, .int .i64 (slackIn l).2]) ∧ Ow e1 1 3 w.heap.size w' r (slackIn l).1 ∧ Below w.heap.size w w' := by
  obtain ⟨i0, hi, hz0, hz1, hz2⟩ := info_parts intinfo
  have HC := Lib.hid (lineError_any v l _ (hs.alloc (.cells #[.int .i64 l.x, .int .i64 l.z, v] 26)) hbig)
  by_cases h1 : lineErr l = 0
  · have hl := lineErr_ok h1
    have hvb := hs.blk hl.n0
    have E : Hid (slackIn l = (slack l, 0)) := if_pos h1
    rw [h1] at HC
    obtain ⟨A, c, rfl, hcap⟩ := hs.form
    have HV := Lib.hid hvb
    have HS := Lib.hid hs
    have HL := Lib.hid hl
    clear hvb hs hl h1
    refine (callsIn_wide (n := 0)).1 ?_
    refine callsIn_of_wp_marks Try.func20 rfl trivial ?_ rfl
    simp only [Try.ntmps20, List.size_toArray, List.length_cons, List.length_nil, Nat.reduceAdd, Nat.reduceSub, Array.replicate_succ, Array.replicate_zero, List.push_toArray, List.append_toArray, List.nil_append, List.cons_append]
    gi_wp2_with (first
      | (gi_at_call 95; refine (atWide HC.out).mono ?_; rintro e w1 ⟨rfl, hb1⟩; obtain ⟨q1, _⟩ := (At.new w #[.int .i64 l.x, .int .i64 l.z, .slice A l.ks.length c] 26 0 _ rfl).below hb1; obtain ⟨q2, _⟩ := (At.new w #[.int .i64 l.x, .int .i64 l.z, .slice A l.ks.length c] 26 1 _ rfl).below hb1; obtain ⟨q3, _⟩ := (At.new w #[.int .i64 l.x, .int .i64 l.z, .slice A l.ks.length c] 26 2 _ rfl).below hb1; have q0 := cell_lt q1; simp only at q0; have q00 : w.heap.size < w1.heap.size + 1 := by omega)
      | (gi_at_call 96; refine (atWide (lifts_any l _ _ ⟨_, _, _, rfl⟩)).mono ?_; rintro e w2 ⟨rfl, rfl⟩))
    obtain ⟨W1, hW1⟩ : ∃ W1, W1 = w1.alloc (.cells #[.slice none 0 0] 36) := ⟨_, rfl⟩
    obtain ⟨W0, hW0⟩ : ∃ W0, W0 = W1.alloc (.cells #[.int .i64 l.x, .int .i64 l.z, .slice A l.ks.length c] 137) := ⟨_, rfl⟩
    rw [← hW1, ← hW0]
    have hbw1 : Below w.heap.size w w1 := below_tr (below_alloc1 _ _) hb1
    have hb10 : Below w.heap.size w W1 := by rw [hW1]; exact below_al hbw1 _
    have hb0 : Below w.heap.size w W0 := by rw [hW0]; exact below_al hb10 _
    have wz1 : w1.heap.size + 1 ≤ W1.heap.size := by rw [hW1]; simp
    have wz1' : w.heap.size ≤ w1.heap.size := hbw1.size
    have wz0 : W1.heap.size + 1 ≤ W0.heap.size := by rw [hW0]; simp
    have aR : Hold e1 1 3 (W1.heap.size + 1) W0 ⟨w1.heap.size, 0, none⟩ ([] : List Int) := by
      rw [hW0, hW1]
      exact ⟨.slice none 0 0, (At.new w1 #[.slice none 0 0] 36 0 _ rfl).al _, Ow.nil _ _ _ _ _⟩
    have aL : ∀ j v, (#[Value.int .i64 l.x, .int .i64 l.z, .slice A l.ks.length c] : Array Value)[j]? = some v → W0.cell? ⟨W1.heap.size, j, none⟩ = some v := by
      intro j v hv
      rw [hW0]; exact (At.new W1 _ 137 j v hv).1
    have aL1 := aL 1 _ rfl
    have aL2 := aL 2 _ rfl
    have hsW := HS.out.below hb0
    have hxe : (⟨w1.heap.size + 1, 0, none⟩ : Addr) = ⟨W1.heap.size, 0, none⟩ := by rw [hW1]; simp
    rw [hxe]
    clear aL hW0 hW1 hxe hb1 q1 q2 q3
    refine wp_rangeX (gf := 139) (lb := #[.pointer (some ⟨W1.heap.size, 0, none⟩)]) rfl (enters_of Try.func139 (by kernel_rfl) rfl)
      (lifts_seq W1.heap.size _ l W0 HL.out aL1 aL2 hsW (fun k => k = W1.heap.size ∨ (Value.slice A l.ks.length c).ownBlock = some k) (.inl rfl) (fun b hb => .inr hb)) (Below.refl _ _)
      (by
        rintro k (rfl | hk)
        · omega
        · have := HV.out k hk; have := hb0.size; omega) (fun _ => rfl)
      (fun pre W => Hold e1 1 3 (W1.heap.size + 1) W ⟨w1.heap.size, 0, none⟩ (slackAcc pre) ∧ Below w.heap.size w W)
      (fun _ _ _ => False)
      (OwnFrom.and (own_hold _ _ _) (ownFrom_below (Nat.le_refl _) (by omega)))
      (fun _ _ _ _ _ h _ _ => h) ⟨aR, hb0⟩ ?round ?done ?stop
    case round =>
      rintro lp pre ⟨i, z⟩ W hlp hlt hpre ⟨hT, hB⟩
      have hn := pre_len hpre
      rw [lifts_len] at hn
      have hn1 := HL.out.n1
      have hal := slackAcc_len pre
      have HB := Lib.hid hB
      have HT := Lib.hid hT
      clear hpre hT hB
      simp only [encL]
      gi_wp2
      refine ⟨Kep.refl _ _ _, fun W2 hTn => ?_⟩
      have KB : Hid (Below w.heap.size w W2) := HB.out.trans (hTn.below (by omega))
      obtain ⟨va, hat, how⟩ := HT.out.turn hTn
      have hwl := hat.lt
      simp only at hwl
      have KT := Lib.hid hat
      have KO := Lib.hid how
      obtain ⟨c5, f5⟩ := hat
      have hw2 : W1.heap.size + 1 ≤ W2.heap.size := by rw [hTn.size]; omega
      clear hTn how
      by_cases hz : z ≤ 0
      · have hyes := Lib.hid (slackAcc_yes (pre := pre) (i := i) hz)
        gi_wp2_with (gi_at_builtin; refine wpListIn_append_own _ rfl _ _ 36 rfl (W1.heap.size + 1) 3 i0 _ 1 8 Try.underlying36 hi hz0 hz1 hz2 rfl (by decide) _ _ _ rfl (KO.out.own.alloc _) ⟨_, 0, none⟩ 1 1 (e1 i) rfl rfl (cells_new _ _ _) (e1_one _) (by simp only [maxLen]; omega) (by omega) (by simp; omega) ?_; intro v1 w4 hown1 hg1 _; obtain ⟨g', cap', rfl⟩ := ownsRow_succ hown1; have k5 := (KT.out.al _).grown' hg1 (KO.out.apart' (show w1.heap.size < W1.heap.size + 1 by omega)); obtain ⟨k6, k7⟩ := k5; have HO2 := Lib.hid hown1; have HG := Lib.hid hg1; clear hown1 hg1)
        refine ⟨Kep.setCell (((Kep.refl _ _ _).alloc _).grown HG.out (fun k hk => ?_)) ?_ _, ?_, ?_⟩
        · refine ⟨?_, (KO.out.alloc _).cells_only k hk⟩
          have h1 := (World.ownsRow.lt KO.out k hk)
          rintro (h | h)
          · omega
          · have := HV.out _ h; omega
        · rintro (h | h)
          · simp only at h; omega
          · have := HV.out _ h; simp only at this; omega
        · rw [hyes.out]; exact Hold.put (.inr ⟨_, k6, k7⟩) (Ow.snoc HO2.out) (show w1.heap.size < W1.heap.size + 1 by omega)
        · exact below_set ((KO.out.alloc _).grown HG.out (below_al KB.out _) (by omega)) (by show w.heap.size ≤ w1.heap.size; omega) _
      · have hnn := Lib.hid (slackAcc_no (pre := pre) (i := i) hz)
        gi_wp2
        exact ⟨Kep.refl _ _ _, by rw [hnn.out]; exact ⟨va, KT.out, KO.out⟩, KB.out⟩
    case done =>
      rintro D W hD ⟨⟨va, hat, how⟩, hB⟩ hK
      have HB := Lib.hid hB
      have KO := Lib.hid how
      obtain ⟨c5, f5⟩ := hat
      clear hB how
      gi_wp2
      refine ⟨by simp, .inl ⟨_, _, rfl, run_takeDeferred hK, ?_⟩⟩
      rw [slack_acc] at KO
      have KP := KO.out.turn (N := D) (W' := W.putObj D (.deferred none)) ⟨D, _, _, Nat.le_refl _, hK, rfl, rfl, rfl⟩
      exact ⟨_, results_tmp2 (t := 2) (u := 3) rfl _ _ _, va, (ret_list' E.out (KP.less (base' := w.heap.size) (by omega))).1, (ret_list' E.out (KP.less (base' := w.heap.size) (by omega))).2, below_put HB.out (Nat.le_refl _) (by omega) hK⟩
    case stop =>
      rintro D c pre W _ _ h _
      exact h.elim
  · have E : Hid (slackIn l = ([], lineErr l)) := if_neg h1
    have h1' := ne1 h1
    generalize lineErr l = pe at *
    clear h1
    obtain ⟨A, c, rfl, hcap⟩ := hs.form
    clear hs
    go_enter Try.func20, Try.ntmps20
    go_wp2_with (go_at_call 95; refine HC.out.mono ?_; rintro e w1 ⟨rfl, hb1⟩)
    go_ret2
    exact ⟨_, (ret_list' E.out (Ow.nil _ _ _ w.heap.size w)).1, (ret_list' E.out (Ow.nil _ _ _ w.heap.size _)).2, below_tr (below_alloc1 _ _) hb1⟩
end Go.Proofs.Ytghglgaimhfedaa

namespace Go.Proofs.Ytghglgaimhfedaa
open Go.RowKit Go.Shelf
attribute [local go_sem] Oper.semAt_some wide_fn wide_depth round_fn round_depth

theorem forceinfo' : (Try.prog.info? 23).map (fun i => (i.zero, i.size, i.bytes)) = some (some (.agg #[.int .i64 0, .int .i64 0]), 2, 16) := by kernel_rfl
def tensionsOf (l : Ln) (c : List Int) : List (Int × Int) × Int := if currentsErr l c = 0 then (tensions l c, 0) else ([], currentsErr l c)
theorem currentsErr_ok {l : Ln} {c : List Int} (h : currentsErr l c = 0) : lineErr l = 0 ∧ cursErr l c = 0 := by
  unfold currentsErr at h
  by_cases h1 : lineErr l = 0
  · rw [if_pos h1] at h; exact ⟨h1, h⟩
  · rw [if_neg h1] at h; exact absurd h h1

set_option maxRecDepth 100000 in
set_option maxHeartbeats 4000000 in
theorem TensionsOf_any (v u : Value) (l : Ln) (cu : List Int) (w : World) (hs : Sl e3 3 w v l.ks) (hu : Sl e1 1 w u cu) (hbig : l.ks.length ≤ 1000) (hbig' : cu.length ≤ 1000) :
    Calls Try.prog 28 #[.agg #[.int .i64 l.x, .int .i64 l.z, v], u] w fun e w' => ∃ r, e = .returned (.tuple #[r, .int .i64 (tensionsOf l cu).2]) ∧ Ow e2 2 23 w.heap.size w' r (tensionsOf l cu).1 ∧ Below w.heap.size w w' := by
  obtain ⟨i0, hi, hz0, hz1, hz2⟩ := info_parts forceinfo'
  have HC := Lib.hid (currentsError_any v u l cu _ (hs.alloc (.cells #[.int .i64 l.x, .int .i64 l.z, v] 26)) (hu.alloc (.cells #[.int .i64 l.x, .int .i64 l.z, v] 26)) hbig hbig')
  by_cases h1 : currentsErr l cu = 0
  · obtain ⟨h2, h3⟩ := currentsErr_ok h1
    have hl := lineErr_ok h2
    have hbx := cursErr_ok h3
    have hvb := hs.blk hl.n0
    have E : Hid (tensionsOf l cu = (tensions l cu, 0)) := if_pos h1
    rw [h1] at HC
    obtain ⟨A, c, rfl, hcap⟩ := hs.form
    obtain ⟨A', c', rfl, hcap'⟩ := hu.form
    have HV := Lib.hid hvb
    have HS := Lib.hid hs
    have HU := Lib.hid hu
    have HL := Lib.hid hl
    have HX := Lib.hid hbx
    clear hvb hs hu hl hbx h1 h2 h3
    refine (callsIn_wide (n := 0)).1 ?_
    refine callsIn_of_wp_marks Try.func28 rfl trivial ?_ rfl
    simp only [Try.ntmps28, List.size_toArray, List.length_cons, List.length_nil, Nat.reduceAdd, Nat.reduceSub, Array.replicate_succ, Array.replicate_zero, List.push_toArray, List.append_toArray, List.nil_append, List.cons_append]
    gi_wp2_with (gi_at_call 99; refine (atWide HC.out).mono ?_; rintro e w1 ⟨rfl, hb1⟩; have A0 := (At.new w #[.int .i64 l.x, .int .i64 l.z, .slice A l.ks.length c] 26 0 _ rfl).below hb1; have A1 := (At.new w #[.int .i64 l.x, .int .i64 l.z, .slice A l.ks.length c] 26 1 _ rfl).below hb1; have A2 := (At.new w #[.int .i64 l.x, .int .i64 l.z, .slice A l.ks.length c] 26 2 _ rfl).below hb1)
    obtain ⟨W1, hW1⟩ : ∃ W1, W1 = w1.alloc (.cells #[.slice none 0 0] 47) := ⟨_, rfl⟩
    rw [← hW1]
    have hb01 : Below w.heap.size w w1 := below_tr (below_alloc1 _ _) hb1
    have hb10 : Below w.heap.size w W1 := by rw [hW1]; exact below_al hb01 _
    have wz0 : w.heap.size + 1 ≤ w1.heap.size := by have := hb1.size; simpa using this
    have wz1 : W1.heap.size = w1.heap.size + 1 := by rw [hW1]; simp
    have q1 : W1.cell? ⟨w.heap.size, 0, none⟩ = some (.int .i64 l.x) := by rw [hW1]; exact (A0.al _).1
    have q2 : W1.cell? ⟨w.heap.size, 1, none⟩ = some (.int .i64 l.z) := by rw [hW1]; exact (A1.al _).1
    have q3 : W1.cell? ⟨w.heap.size, 2, none⟩ = some (.slice A l.ks.length c) := by rw [hW1]; exact (A2.al _).1
    have aT : At W1 ⟨w1.heap.size, 0, none⟩ (.slice none 0 0) := by rw [hW1]; exact At.new w1 #[.slice none 0 0] 47 0 _ rfl
    have HA := Lib.hid (And.intro A0 (And.intro A1 A2))
    have HT := Lib.hid aT
    have HST := Lib.hid (still_any _ cu W1.drew (HU.out.below hb10.drew) hbig')
    have HP : Hid (∀ w2, Below W1.drew.heap.size W1.drew w2 → w2.cell? ⟨w.heap.size, 0, none⟩ = some (.int .i64 l.x) ∧ w2.cell? ⟨w.heap.size, 1, none⟩ = some (.int .i64 l.z) ∧ w2.cell? ⟨w.heap.size, 2, none⟩ = some (.slice A l.ks.length c)) := by
      intro w2 hb2
      have hlt : w.heap.size < W1.drew.heap.size := by show w.heap.size < W1.heap.size; omega
      exact ⟨(hb2.cell (p := ⟨w.heap.size, 0, none⟩) hlt).trans q1, (hb2.cell (p := ⟨w.heap.size, 1, none⟩) hlt).trans q2, (hb2.cell (p := ⟨w.heap.size, 2, none⟩) hlt).trans q3⟩
    clear A0 A1 A2 aT hW1 hb1 HC
    have hmix : Try.prog.follows .mixedOrders = true := by kernel_rfl
    refine wpIn_region_orders [[0, 1, 2, 3, 4], [0, 2, 1, 3, 4], [0, 2, 3, 1, 4], [2, 0, 1, 3, 4], [2, 0, 3, 1, 4], [2, 3, 0, 1, 4]] hmix (by kernel_rfl) ?_
    simp only [List.forall_mem_cons, List.not_mem_nil, false_implies, implies_true, and_true]
    refine ⟨?_, ?_, ?_, ?_, ?_, ?_⟩
    all_goals show wpListIn _ _ _ _ _ (_ :: _ :: _ :: _ :: _ :: []) _ _
    all_goals gi_wp2_with (first
      | (gi_at_call 101; refine (atWide HST.out).mono ?_; rintro e w2 ⟨r, rfl, hsl, hown, hb2⟩; obtain ⟨A2, c2, rfl, hcap2⟩ := hsl.form; obtain ⟨p1, p2, p3⟩ := HP.out w2 hb2)
      | (gi_at_call 100; refine (atWide (pulls_any l _ _ _ ⟨_, _, _, rfl⟩ ⟨_, _, _, rfl⟩)).mono ?_; rintro e w3 ⟨rfl, rfl⟩))
    all_goals
      clear q1 q2 q3 p1 p2 p3
      obtain ⟨W0, hW0⟩ : ∃ W0, W0 = (w2.alloc (.cells #[.int .i64 l.x, .int .i64 l.z, .slice A l.ks.length c] 137)).alloc (.cells #[.slice A2 (still cu).length c2] 27) := ⟨_, rfl⟩
      rw [← hW0]
      have wz2 : W1.heap.size ≤ w2.heap.size := hb2.size
      have z0 : W0.heap.size = w2.heap.size + 2 := by rw [hW0]; simp
      have hb20 : Below w2.heap.size w2 W0 := by rw [hW0]; exact below_al (below_alloc1 _ _) _
      have hb1d : Below W1.heap.size W1 w2 := (Below.refl _ _).drew.trans hb2
      have hb10' : Below W1.heap.size W1 W0 := hb1d.trans (hb20.mono wz2)
      have hb0 : Below w.heap.size w W0 := hb10.trans (hb10'.mono hb10.size)
      obtain ⟨bx, by'⟩ := box2 w2 #[.int .i64 l.x, .int .i64 l.z, .slice A l.ks.length c] #[.slice A2 (still cu).length c2] 137 27
      have L0 : W0.cell? ⟨w2.heap.size, 0, none⟩ = some (.int .i64 l.x) := by rw [hW0]; exact (bx 0 _ rfl).1
      have L1 : W0.cell? ⟨w2.heap.size, 1, none⟩ = some (.int .i64 l.z) := by rw [hW0]; exact (bx 1 _ rfl).1
      have L2 : W0.cell? ⟨w2.heap.size, 2, none⟩ = some (.slice A l.ks.length c) := by rw [hW0]; exact (bx 2 _ rfl).1
      have L3 : W0.cell? ⟨w2.heap.size + 1, 0, none⟩ = some (.slice A2 (still cu).length c2) := by rw [hW0]; exact (by' 0 _ rfl).1
      clear bx by' hW0
      have aT : At W0 ⟨w1.heap.size, 0, none⟩ (.slice none 0 0) := HT.out.below hb10'
      have h0 : HoldF e2 2 23 (w1.heap.size + 1) ⟨w1.heap.size, 0, none⟩ (fun k => k = w1.heap.size ∨ (Value.slice none 0 0).ownBlock = some k) ([] : List (Int × Int)) W0 := ⟨_, aT, Ow.nil _ _ _ _ _, by show w1.heap.size < _; omega, rfl⟩
      refine wp_rangeF (gf := 140) (lb := #[.pointer (some ⟨w2.heap.size, 0, none⟩), .pointer (some ⟨w2.heap.size + 1, 0, none⟩)]) rfl (enters_of Try.func140 (by kernel_rfl) rfl)
        (pulls_seq w2.heap.size (w2.heap.size + 1) _ _ l (still cu) W0 HL.out HX.out L0 L1 L2 L3 (HS.out.below hb0) (hsl.below hb20)
          (fun k => k = w2.heap.size ∨ k = w2.heap.size + 1 ∨ (Value.slice A l.ks.length c).ownBlock = some k ∨ (Value.slice A2 (still cu).length c2).ownBlock = some k) (.inl rfl) (.inr (.inl rfl)) (fun k hk => .inr (.inr (.inl hk))) (fun k hk => .inr (.inr (.inr hk))) ?_) (Below.refl _ _) (fun _ => rfl)
        (fun F pre W => HoldF e2 2 23 (w1.heap.size + 1) ⟨w1.heap.size, 0, none⟩ F (pre.map fun p => (p.lo, p.z)) W ∧ Below w.heap.size w W)
        (OwnF.and (holdF_own _) (ownF_below (Nat.le_refl _) (by have := hb0.size; omega))) _ h0.foot ?_ ⟨h0, hb0⟩ ?_ ?_
      · rintro k (rfl | rfl | hk | hk)
        · omega
        · omega
        · have := HV.out k hk; have := hb0.size; omega
        · have := hsl.blk (by have := HL.out.n0; have := HX.out.len; omega) k hk; omega
      · rintro k (rfl | hk)
        · rintro (h | h | h | h)
          · omega
          · omega
          · have := HV.out _ h; omega
          · have h9 : W1.heap.size ≤ w1.heap.size := hown _ h
            omega
        · simp [Value.ownBlock] at hk
      · rintro lr F pre p W hlr hlt hpre ⟨⟨va, hat, how, hbase, hF⟩, hB⟩ hFF
        obtain ⟨hpl, _⟩ := pre_get hpre
        rw [pulls_len HX.out] at hpl
        have hn1 := HL.out.n1
        have hml : (pre.map fun p => (p.lo, p.z)).length = pre.length := by simp
        have HB := Lib.hid hB
        have HAT := Lib.hid hat
        have HOW := Lib.hid how
        have HF := Lib.hid hF
        have hal := hat.lt
        simp only at hal
        clear hpre hat how hB hF L0 L1 L2 L3 aT h0
        simp only [encP]
        gi_wp2
        refine ⟨(Out.refl F W).alloc _, fun W2 hTn => ?_⟩
        have HW2 : Hid (W2.heap.size = W.heap.size + 1) := by show _ = _; rw [hTn.size]; simp
        have hw2 : w1.heap.size < W2.heap.size := by have := HW2.out; omega
        have P3 := (At.new W #[.int .i64 p.h, .int .i64 p.wt, .int .i64 p.d, .int .i64 p.lo, .int .i64 p.hi, .int .i64 p.z] 146 3 _ rfl).turn hTn
        have P5 := (At.new W #[.int .i64 p.h, .int .i64 p.wt, .int .i64 p.d, .int .i64 p.lo, .int .i64 p.hi, .int .i64 p.z] 146 5 _ rfl).turn hTn
        have KT := Lib.hid ((HAT.out.al (.cells #[.int .i64 p.h, .int .i64 p.wt, .int .i64 p.d, .int .i64 p.lo, .int .i64 p.hi, .int .i64 p.z] 146)).turn hTn)
        have KO := Lib.hid ((HOW.out.alloc (.cells #[.int .i64 p.h, .int .i64 p.wt, .int .i64 p.d, .int .i64 p.lo, .int .i64 p.hi, .int .i64 p.z] 146)).turn hTn)
        have KB : Hid (Below w.heap.size w W2) := (below_al HB.out _).trans (hTn.below (by have := hb0.size; omega))
        obtain ⟨c5, f5⟩ := KT.out
        obtain ⟨c6, _⟩ := P3
        obtain ⟨c7, _⟩ := P5
        clear hTn
        gi_wp2_with (gi_at_builtin; refine wpListIn_append_at _ rfl _ _ 47 rfl (w1.heap.size + 1) 23 i0 _ 2 16 Try.underlying47 hi hz0 hz1 hz2 rfl (by decide) _ _ _ rfl (KO.out.own.alloc _) ⟨_, 0, none⟩ 1 1 (e2 (p.lo, p.z)) rfl rfl (cells_new _ _ _) (e2_one _) (by simp only [maxLen]; omega) (by omega) (by simp; omega) ?_; intro v1 w4 hown1 hg1 hblk; obtain ⟨g', cap', rfl⟩ := ownsRow_succ hown1; have k5 := (KT.out.al _).grown' hg1 (KO.out.apart' (show w1.heap.size < w1.heap.size + 1 by omega)); obtain ⟨k6, k7⟩ := k5; have HO2 := Lib.hid hown1; have HG := Lib.hid hg1; have HK := Lib.hid hblk; clear hown1 hg1 hblk)
        have hh : HoldF e2 2 23 (w1.heap.size + 1) ⟨w1.heap.size, 0, none⟩ (fun k => k = w1.heap.size ∨ (Value.slice (some ⟨g', 0, none⟩) (pre.length + 1) cap').ownBlock = some k) ((pre ++ [p]).map fun p => (p.lo, p.z)) (w4.setCell ⟨w1.heap.size, 0, none⟩ (.slice (some ⟨g', 0, none⟩) (pre.length + 1) cap')) :=
          ⟨_, At.set ⟨k6, k7⟩, by rw [List.map_append]; exact Ow.setFar (by have h := Ow.snoc HO2.out; rw [hml] at h; exact h) (show w1.heap.size < w1.heap.size + 1 by omega) _, by show w1.heap.size < _; omega, rfl⟩
        refine ⟨(((Out.refl F W2).alloc _).grown HG.out (fun k hk => .inl (by rw [HF.out]; exact .inr hk))).setCell (.inl (by rw [HF.out]; exact .inl rfl)) _, _, ⟨hh, ?_⟩, hh.foot, ?_⟩
        · exact below_set ((KO.out.alloc _).grown HG.out (below_al KB.out _) (by omega)) (by show w.heap.size ≤ w1.heap.size; omega) _
        · rintro k (rfl | hk)
          · exact .inl (by rw [HF.out]; exact .inl rfl)
          · rcases HK.out with h | h
            · exact .inl (by rw [HF.out]; exact .inr (h.symm.trans hk))
            · have h3 := h.symm.trans hk
              injection h3 with h3
              have := HW2.out
              simp at h3
              exact .inr (by omega)
      · rintro D W F hD ⟨⟨va, hat, how, hbase, hF⟩, hB⟩ hK
        have HB := Lib.hid hB
        have KO := Lib.hid how
        obtain ⟨c5, f5⟩ := hat
        clear hB how L0 L1 L2 L3 aT h0 hF
        gi_wp2
        refine ⟨by simp, .inl ⟨_, _, rfl, run_takeDeferred hK, ?_⟩⟩
        have KP := KO.out.turn (N := D) (W' := W.putObj D (.deferred none)) ⟨D, _, _, Nat.le_refl _, hK, rfl, rfl, rfl⟩
        have KQ := ret_listX E.out (KP.less (base' := w.heap.size) (by omega))
        exact ⟨_, results_tmp2 (t := 4) (u := 5) rfl _ _ _, va, KQ.1, KQ.2, below_put HB.out (Nat.le_refl _) (by have := hb0.size; omega) hK⟩
  · have E : Hid (tensionsOf l cu = ([], currentsErr l cu)) := if_neg h1
    have h1' := ne1 h1
    generalize currentsErr l cu = pe at *
    clear h1
    obtain ⟨A, c, rfl, hcap⟩ := hs.form
    obtain ⟨A', c', rfl, hcap'⟩ := hu.form
    clear hs hu
    go_enter Try.func28, Try.ntmps28
    go_wp2_with (go_at_call 99; refine HC.out.mono ?_; rintro e w1 ⟨rfl, hb1⟩)
    go_ret2
    exact ⟨_, (ret_listX E.out (Ow.nil e2 2 23 w.heap.size w)).1, (ret_listX E.out (Ow.nil e2 2 23 w.heap.size _)).2, below_tr (below_alloc1 _ _) hb1⟩
end Go.Proofs.Ytghglgaimhfedaa

namespace Go.Proofs.Ytghglgaimhfedaa
open Go.RowKit Go.Shelf

theorem floor_math (n m : Int) (hm : 0 < m) : (if n.tmod m < 0 then n.tdiv m - 1 else n.tdiv m) = n / m := by
  have h1 := Int.mul_tdiv_add_tmod n m
  have h2 := Int.tmod_lt_of_pos n hm
  have h3 : -m < n.tmod m := by
    have := Int.lt_tmod_of_pos n hm
    omega
  by_cases h : n.tmod m < 0
  · rw [if_pos h]
    refine ((Int.ediv_emod_unique hm (a := n) (q := n.tdiv m - 1) (r := n.tmod m + m)).2 ⟨?_, by omega, by omega⟩).1.symm
    rw [Int.mul_sub]; omega
  · rw [if_neg h]
    exact ((Int.ediv_emod_unique hm (a := n) (q := n.tdiv m) (r := n.tmod m)).2 ⟨by omega, by omega, by omega⟩).1.symm
theorem tdiv_bd (n m B : Int) (hm : 0 < m) (h : -B ≤ n ∧ n ≤ B) : -B ≤ n.tdiv m ∧ n.tdiv m ≤ B := by
  have h1 := Int.natAbs_tdiv_le_natAbs n m
  omega
theorem floor_any (n m : Int) (w : World) (hm : 0 < m) (hm' : m ≤ 1000000000000000000) (hn : -1000000000000000000 ≤ n ∧ n ≤ 1000000000000000000) :
    Calls Try.prog 143 #[.int .i64 n, .int .i64 m] w fun e w' => e = .returned (.int .i64 (n / m)) ∧ w' = w := by
  have E := Lib.hid (floor_math n m hm)
  have hb := tdiv_bd n m _ hm hn
  obtain ⟨b1, b2⟩ := hb
  have hz : (m == 0) = false := by rw [beq_eq_false_iff_ne]; omega
  by_cases h : n.tmod m < 0
  · rw [if_pos h] at E
    have hw1 : IntKind.i64.wrap (n.tdiv m) = n.tdiv m := IntWalk.i64_in _ (by omega)
    have hw2 : IntKind.i64.wrap (n.tdiv m - 1) = n.tdiv m - 1 := IntWalk.i64_in _ (by omega)
    go_enter Try.func143, Try.ntmps143
    go_wp2
    go_ret
    exact ⟨ret_int E.out, rfl⟩
  · rw [if_neg h] at E
    have hw1 : IntKind.i64.wrap (n.tdiv m) = n.tdiv m := IntWalk.i64_in _ (by omega)
    go_enter Try.func143, Try.ntmps143
    go_wp2
    go_ret
    exact ⟨ret_int E.out, rfl⟩
theorem ceiling_any (n m : Int) (w : World) (hm : 0 < m) (hm' : m ≤ 1000000000000000000) (hn : -1000000000000000000 ≤ n ∧ n ≤ 1000000000000000000) :
    Calls Try.prog 144 #[.int .i64 n, .int .i64 m] w fun e w' => e = .returned (.int .i64 (-(-n / m))) ∧ w' = w := by
  have HF := Lib.hid (fun w => floor_any (-n) m w hm hm' ⟨by omega, by omega⟩)
  have hb := tdiv_bd (-n) m 1000000000000000000 hm ⟨by omega, by omega⟩
  have e := floor_math (-n) m hm
  have hq : -1000000000000000001 ≤ -n / m ∧ -n / m ≤ 1000000000000000000 := by rw [← e]; split <;> omega
  obtain ⟨b1, b2⟩ := hq
  have hw0 : IntKind.i64.wrap (-n) = -n := IntWalk.i64_in _ (by omega)
  clear hb e
  generalize hq : -n / m = q at *
  have hw1 : IntKind.i64.wrap (-q) = -q := IntWalk.i64_in _ (by omega)
  go_enter Try.func144, Try.ntmps144
  go_wp2_with (go_at_call 143; refine (HF.out _).mono ?_; rintro e w' ⟨rfl, rfl⟩)
  go_ret
  exact ⟨rfl, rfl⟩

def offR (p : Pl) : Int × Int := (p.h * p.lo / p.z, -(-(p.h * p.hi) / p.z))
set_option maxRecDepth 100000 in
set_option maxHeartbeats 1000000 in
theorem offsets_any (p : Pl) (w : World) (hp : PlOk p) (hz : 0 < p.z) :
    Calls Try.prog 106 #[.agg #[.int .i64 p.h, .int .i64 p.wt, .int .i64 p.d, .int .i64 p.lo, .int .i64 p.hi, .int .i64 p.z]] w fun e w' => e = .returned (.agg #[.int .i64 (offR p).1, .int .i64 (offR p).2]) ∧ Below w.heap.size w w' := by
  have hh0 := hp.h0
  have hh1 := hp.h1
  have m1 := mul_bd p.h p.lo 1000 20000 (by omega) (by have := hp.l0; have := hp.l1; omega)
  have m2 := mul_bd p.h p.hi 1000 20000 (by omega) (by have := hp.u0; have := hp.u1; omega)
  have hz1 := hp.z1
  have HF := Lib.hid (fun w => floor_any (p.h * p.lo) p.z w hz (by omega) ⟨by omega, by omega⟩)
  have HG := Lib.hid (fun w => ceiling_any (p.h * p.hi) p.z w hz (by omega) ⟨by omega, by omega⟩)
  have E : Hid (offR p = (p.h * p.lo / p.z, -(-(p.h * p.hi) / p.z))) := (rfl : offR p = _)
  obtain ⟨ph, pw, pd, plo, phi, pz⟩ := p
  simp only at *
  have hw1 : IntKind.i64.wrap (ph * plo) = ph * plo := IntWalk.i64_in _ (by omega)
  have hw2 : IntKind.i64.wrap (ph * phi) = ph * phi := IntWalk.i64_in _ (by omega)
  go_enter Try.func106, Try.ntmps106
  go_wp2_with fail
  obtain ⟨W0, hW0⟩ : ∃ W0, W0 = (w.alloc (.cells #[.int .i64 ph, .int .i64 pw, .int .i64 pd, .int .i64 plo, .int .i64 phi, .int .i64 pz] 146)).alloc (.cells #[.int .i64 0, .int .i64 0] 66) := ⟨_, rfl⟩
  rw [← hW0]
  obtain ⟨bx, by'⟩ := box2 w #[.int .i64 ph, .int .i64 pw, .int .i64 pd, .int .i64 plo, .int .i64 phi, .int .i64 pz] #[.int .i64 0, .int .i64 0] 146 66
  have b0 : W0.cell? ⟨w.heap.size, 0, none⟩ = some (.int .i64 ph) := by rw [hW0]; exact (bx 0 _ rfl).1
  have b3 : W0.cell? ⟨w.heap.size, 3, none⟩ = some (.int .i64 plo) := by rw [hW0]; exact (bx 3 _ rfl).1
  have b4 : W0.cell? ⟨w.heap.size, 4, none⟩ = some (.int .i64 phi) := by rw [hW0]; exact (bx 4 _ rfl).1
  have b5 : W0.cell? ⟨w.heap.size, 5, none⟩ = some (.int .i64 pz) := by rw [hW0]; exact (bx 5 _ rfl).1
  obtain ⟨d0, g0⟩ : At W0 ⟨w.heap.size + 1, 0, none⟩ (.int .i64 0) := by rw [hW0]; exact by' 0 _ rfl
  obtain ⟨d1, g1⟩ : At W0 ⟨w.heap.size + 1, 1, none⟩ (.int .i64 0) := by rw [hW0]; exact by' 1 _ rfl
  have HB : Hid (Below w.heap.size w W0) := by rw [hW0]; exact below_al (below_alloc1 _ _) _
  clear bx by' hW0
  refine wp_region_still_tail 21 (by kernel_rfl) (by kernel_rfl) ?_
  simp only [List.take_succ_cons, List.take_zero, List.drop_succ_cons, List.drop_zero]
  repeat still_step
  still_call (HF.out _)
  repeat still_step
  still_call (HG.out _)
  repeat still_step
  refine wpStill_nil ?_
  go_wp2_with fail
  refine bodyPost_ret (v := .agg #[.int .i64 (ph * plo / pz), .int .i64 (-(-(ph * phi) / pz))]) ?_ rfl ⟨by rw [E.out], ?_⟩
  · rw [results_cell rfl]
    go_simp
  · exact (below_set (below_set HB.out (by simp) _) (by simp) _).drew
end Go.Proofs.Ytghglgaimhfedaa

namespace Go.Proofs.Ytghglgaimhfedaa
open Go.RowKit Go.Shelf

def shapeErr (l : Ln) (c : List Int) : Int := if currentsErr l c = 0 then slackErr l else currentsErr l c
def boxShapeErr (l : Ln) (b : List (Int × Int)) : Int := if boxErr l b = 0 then slackErr l else boxErr l b
theorem slackErr_ok {l : Ln} (h : slackErr l = 0) : ∀ z ∈ zs l, 0 < z := by
  unfold slackErr at h
  intro z hz
  by_cases h1 : (zs l).any (fun z => decide (z ≤ 0)) = true
  · rw [if_pos h1] at h; omega
  · have h2 : ¬ z ≤ 0 := fun hc => h1 (List.any_eq_true.2 ⟨z, hz, by simpa using hc⟩)
    omega
set_option maxHeartbeats 1000000 in
theorem shapeError_any (v u : Value) (l : Ln) (cu : List Int) (w : World) (hs : Sl e3 3 w v l.ks) (hu : Sl e1 1 w u cu) (hbig : l.ks.length ≤ 1000) (hbig' : cu.length ≤ 1000) :
    Calls Try.prog 104 #[.agg #[.int .i64 l.x, .int .i64 l.z, v], u] w fun e w' => e = .returned (.int .i64 (shapeErr l cu)) ∧ Below w.heap.size w w' := by
  have HC := Lib.hid (currentsError_any v u l cu _ (hs.alloc (.cells #[.int .i64 l.x, .int .i64 l.z, v] 26)) (hu.alloc (.cells #[.int .i64 l.x, .int .i64 l.z, v] 26)) hbig hbig')
  by_cases h1 : currentsErr l cu = 0
  · have hl := lineErr_ok (currentsErr_ok h1).1
    have E : Hid (shapeErr l cu = slackErr l) := if_pos h1
    have HS := Lib.hid (fun w' (hb : Below (w.alloc (.cells #[.int .i64 l.x, .int .i64 l.z, v] 26)).heap.size (w.alloc (.cells #[.int .i64 l.x, .int .i64 l.z, v] 26)) w') => slackError_any v l w' ((hs.alloc _).below hb) hl)
    rw [h1] at HC
    obtain ⟨A, c, rfl, hcap⟩ := hs.form
    obtain ⟨A', c', rfl, hcap'⟩ := hu.form
    generalize slackErr l = se at *
    clear hs hu h1 hl
    go_enter Try.func104, Try.ntmps104
    go_wp2_with (first
      | (go_at_call 99; refine HC.out.mono ?_; rintro e w1 ⟨rfl, hb1⟩; have HB := Lib.hid hb1; obtain ⟨q1, _⟩ := (At.new w #[.int .i64 l.x, .int .i64 l.z, .slice A l.ks.length c] 26 0 _ rfl).below hb1; obtain ⟨q2, _⟩ := (At.new w #[.int .i64 l.x, .int .i64 l.z, .slice A l.ks.length c] 26 1 _ rfl).below hb1; obtain ⟨q3, _⟩ := (At.new w #[.int .i64 l.x, .int .i64 l.z, .slice A l.ks.length c] 26 2 _ rfl).below hb1; clear hb1)
      | (go_at_call 142; refine (HS.out _ HB.out).mono ?_; rintro e w2 ⟨rfl, hb2⟩))
    go_ret
    exact ⟨ret_int E.out.symm, below_tr (below_tr (below_alloc1 _ _) HB.out) hb2⟩
  · have E : Hid (shapeErr l cu = currentsErr l cu) := if_neg h1
    have h1' := ne1 h1
    generalize currentsErr l cu = pe at *
    clear h1
    obtain ⟨A, c, rfl, hcap⟩ := hs.form
    obtain ⟨A', c', rfl, hcap'⟩ := hu.form
    clear hs hu
    go_enter Try.func104, Try.ntmps104
    go_wp2_with (go_at_call 99; refine HC.out.mono ?_; rintro e w1 ⟨rfl, hb1⟩)
    go_ret
    exact ⟨ret_int E.out.symm, below_tr (below_alloc1 _ _) hb1⟩
set_option maxHeartbeats 1000000 in
theorem boxShapeError_any (v u : Value) (l : Ln) (b : List (Int × Int)) (w : World) (hs : Sl e3 3 w v l.ks) (hu : Sl e2 2 w u b) (hbig : l.ks.length ≤ 1000) (hbig' : b.length ≤ 1000) :
    Calls Try.prog 121 #[.agg #[.int .i64 l.x, .int .i64 l.z, v], u] w fun e w' => e = .returned (.int .i64 (boxShapeErr l b)) ∧ Below w.heap.size w w' := by
  have HC := Lib.hid (boxError_any v u l b _ (hs.alloc (.cells #[.int .i64 l.x, .int .i64 l.z, v] 26)) (hu.alloc (.cells #[.int .i64 l.x, .int .i64 l.z, v] 26)) hbig hbig')
  by_cases h1 : boxErr l b = 0
  · have hl := lineErr_ok (boxErr_ok h1).1
    have E : Hid (boxShapeErr l b = slackErr l) := if_pos h1
    have HS := Lib.hid (fun w' (hb : Below (w.alloc (.cells #[.int .i64 l.x, .int .i64 l.z, v] 26)).heap.size (w.alloc (.cells #[.int .i64 l.x, .int .i64 l.z, v] 26)) w') => slackError_any v l w' ((hs.alloc _).below hb) hl)
    rw [h1] at HC
    obtain ⟨A, c, rfl, hcap⟩ := hs.form
    obtain ⟨A', c', rfl, hcap'⟩ := hu.form
    generalize slackErr l = se at *
    clear hs hu h1 hl
    go_enter Try.func121, Try.ntmps121
    go_wp2_with (first
      | (go_at_call 119; refine HC.out.mono ?_; rintro e w1 ⟨rfl, hb1⟩; have HB := Lib.hid hb1; obtain ⟨q1, _⟩ := (At.new w #[.int .i64 l.x, .int .i64 l.z, .slice A l.ks.length c] 26 0 _ rfl).below hb1; obtain ⟨q2, _⟩ := (At.new w #[.int .i64 l.x, .int .i64 l.z, .slice A l.ks.length c] 26 1 _ rfl).below hb1; obtain ⟨q3, _⟩ := (At.new w #[.int .i64 l.x, .int .i64 l.z, .slice A l.ks.length c] 26 2 _ rfl).below hb1; clear hb1)
      | (go_at_call 142; refine (HS.out _ HB.out).mono ?_; rintro e w2 ⟨rfl, hb2⟩))
    go_ret
    exact ⟨ret_int E.out.symm, below_tr (below_tr (below_alloc1 _ _) HB.out) hb2⟩
  · have E : Hid (boxShapeErr l b = boxErr l b) := if_neg h1
    have h1' := ne1 h1
    generalize boxErr l b = pe at *
    clear h1
    obtain ⟨A, c, rfl, hcap⟩ := hs.form
    obtain ⟨A', c', rfl, hcap'⟩ := hu.form
    clear hs hu
    go_enter Try.func121, Try.ntmps121
    go_wp2_with (go_at_call 119; refine HC.out.mono ?_; rintro e w1 ⟨rfl, hb1⟩)
    go_ret
    exact ⟨ret_int E.out.symm, below_tr (below_alloc1 _ _) hb1⟩
end Go.Proofs.Ytghglgaimhfedaa

namespace Go.Proofs.Ytghglgaimhfedaa
open Go.RowKit Go.Shelf
attribute [local go_sem] Oper.semAt_some wide_fn wide_depth round_fn round_depth

def totR (g : Pl → Int × Int) : List Pl → Int × Int
  | [] => (0, 0)
  | p :: r => ((g p).1 + (totR g r).1, (g p).2 + (totR g r).2)
theorem totR_snoc (g : Pl → Int × Int) (ps : List Pl) (p : Pl) : totR g (ps ++ [p]) = ((totR g ps).1 + (g p).1, (totR g ps).2 + (g p).2) := by
  induction ps with
  | nil => simp [totR]
  | cons q r ih => simp only [List.cons_append, totR, ih, Int.add_assoc]
theorem totR_bd (g : Pl → Int × Int) (B : Int) (ps : List Pl) (h : ∀ p ∈ ps, (-B ≤ (g p).1 ∧ (g p).1 ≤ B) ∧ (-B ≤ (g p).2 ∧ (g p).2 ≤ B)) :
    (-(B * ps.length) ≤ (totR g ps).1 ∧ (totR g ps).1 ≤ B * ps.length) ∧ (-(B * ps.length) ≤ (totR g ps).2 ∧ (totR g ps).2 ≤ B * ps.length) := by
  induction ps with
  | nil => simp [totR]
  | cons q r ih =>
    have h1 := ih fun p hp => h p (by simp [hp])
    have h2 := h q (by simp)
    have e : B * ((q :: r).length : Int) = B * (r.length : Int) + B := by simp only [List.length_cons]; rw [Int.natCast_add, Int.mul_add]; simp
    simp only [totR]
    rw [e]
    generalize B * (r.length : Int) = M at *
    omega
theorem offR_bd {p : Pl} (hp : PlOk p) (hz : 0 < p.z) : (-20000000 ≤ (offR p).1 ∧ (offR p).1 ≤ 20000000) ∧ (-20000000 ≤ (offR p).2 ∧ (offR p).2 ≤ 20000000) := by
  have m1 := mul_bd p.h p.lo 1000 20000 (by have := hp.h0; have := hp.h1; omega) (by have := hp.l0; have := hp.l1; omega)
  have m2 := mul_bd p.h p.hi 1000 20000 (by have := hp.h0; have := hp.h1; omega) (by have := hp.u0; have := hp.u1; omega)
  unfold offR
  simp only
  generalize p.h * p.lo = a at *
  generalize p.h * p.hi = b at *
  have h1 := Int.ediv_le_ediv hz (show a ≤ 20000000 by omega)
  have h2 := Int.ediv_le_ediv hz (show -20000000 ≤ a by omega)
  have h3 := Int.ediv_le_ediv hz (show -b ≤ 20000000 by omega)
  have h4 := Int.ediv_le_ediv hz (show -20000000 ≤ -b by omega)
  have h5 : (20000000 : Int) / p.z ≤ 20000000 := Int.ediv_le_self _ (by omega)
  have h6 : (-20000000 : Int) ≤ -20000000 / p.z := by
    rw [Int.le_ediv_iff_mul_le hz]
    have : (-20000000 : Int) * p.z ≤ -20000000 * 1 := Int.mul_le_mul_of_nonpos_left (by omega) (by omega)
    omega
  omega
/-- The frame's own boxes. -/
def FourF (B : Nat) (F : Nat → Prop) : Prop := F = fun k => B < k ∧ k < B + 4
theorem ownF_four {β : Type} {B N : Nat} : OwnF N (fun (F : Nat → Prop) (_ : β) (_ : World) => FourF B F) := fun _ _ _ _ h _ _ => h
theorem four_foot {B : Nat} {F : Nat → Prop} {W : World} {u1 u2 u3 : Value} (hF : FourF B F) (h1 : At W ⟨B + 1, 0, none⟩ u1) (h2 : At W ⟨B + 1 + 1, 0, none⟩ u2) (h3 : At W ⟨B + 1 + 1 + 1, 0, none⟩ u3) : Foot F W := by
  rw [hF]
  rintro k ⟨k1, k2⟩
  have hx : k = B + 1 ∨ k = B + 1 + 1 ∨ k = B + 1 + 1 + 1 := by omega
  rcases hx with rfl | rfl | rfl
  · exact cells_of_at h1
  · exact cells_of_at h2
  · exact cells_of_at h3
theorem ownF_at {β : Type} {B N j o : Nat} (hj : 0 < j ∧ j < 4) (f : β → Value) : OwnF N (fun (F : Nat → Prop) (s : β) (W : World) => FourF B F ∧ At W ⟨B + j, o, none⟩ (f s)) := by
  rintro F s W W' ⟨hF, h⟩ _ hs
  exact ⟨hF, h.same (hs _ (by rw [hF]; exact ⟨by show B < B + j; omega, by show B + j < B + 4; omega⟩))⟩

set_option maxRecDepth 100000 in
set_option maxHeartbeats 4000000 in
theorem total_off (v u : Value) (l : Ln) (b : List (Int × Int)) (w : World) (hs : Sl e3 3 w v l.ks) (hu : Sl e2 2 w u b) (hl : LnOk l) (hb : BoxOk l b) (hz : ∀ p ∈ pulls l b, 0 < p.z) :
    Calls Try.prog 105 #[.agg #[.int .i64 l.x, .int .i64 l.z, v], u, .func (.func 106) #[] #[]] w fun e w' => e = .returned (.agg #[.int .i64 (totR offR (pulls l b)).1, .int .i64 (totR offR (pulls l b)).2]) ∧ Below w.heap.size w w' := by
  have hvb := hs.blk hl.n0
  have hub := hu.blk (by rw [hb.len]; exact hl.n0)
  obtain ⟨A, c, rfl, hcap⟩ := hs.form
  obtain ⟨A', c', rfl, hcap'⟩ := hu.form
  have HV := Lib.hid (And.intro hvb hub)
  have HS := Lib.hid hs
  have HU := Lib.hid hu
  have HL := Lib.hid hl
  have HX := Lib.hid hb
  have HZ := Lib.hid hz
  clear hvb hub hs hu hl hb hz
  refine (callsIn_wide (n := 0)).1 ?_
  refine callsIn_of_wp_marks Try.func105 rfl trivial ?_ rfl
  simp only [Try.ntmps105, List.size_toArray, List.length_cons, List.length_nil, Nat.reduceAdd, Nat.reduceSub, Array.replicate_succ, Array.replicate_zero, List.push_toArray, List.append_toArray, List.nil_append, List.cons_append]
  gi_wp2_with (gi_at_call 100; refine (atWide (pulls_any l _ _ _ ⟨_, _, _, rfl⟩ ⟨_, _, _, rfl⟩)).mono ?_; rintro e w3 ⟨rfl, rfl⟩)
  obtain ⟨w2, hw2⟩ : ∃ w2, w2 = (((w.alloc (.cells #[.int .i64 l.x, .int .i64 l.z, .slice A l.ks.length c] 137)).alloc (.cells #[.func (.func 106) #[] #[]] 149)).alloc (.cells #[.int .i64 0, .int .i64 0] 66)).alloc (.cells #[.int .i64 0, .int .i64 0] 66) := ⟨_, rfl⟩
  obtain ⟨W0, hW0⟩ : ∃ W0, W0 = (w2.alloc (.cells #[.int .i64 l.x, .int .i64 l.z, .slice A l.ks.length c] 137)).alloc (.cells #[.slice A' b.length c'] 27) := ⟨_, rfl⟩
  rw [← hw2, ← hW0]
  have z2 : w2.heap.size = w.heap.size + 4 := by rw [hw2]; simp
  have z0 : W0.heap.size = w.heap.size + 6 := by rw [hW0]; simp [z2]
  have hb02 : Below w.heap.size w w2 := by rw [hw2]; exact below_al (below_al (below_al (below_alloc1 _ _) _) _) _
  have hb20 : Below w2.heap.size w2 W0 := by rw [hW0]; exact below_al (below_alloc1 _ _) _
  have hb0 : Below w.heap.size w W0 := below_tr hb02 hb20
  obtain ⟨bx, by'⟩ := box2 w2 #[.int .i64 l.x, .int .i64 l.z, .slice A l.ks.length c] #[.slice A' b.length c'] 137 27
  have L0 : W0.cell? ⟨w2.heap.size, 0, none⟩ = some (.int .i64 l.x) := by rw [hW0]; exact (bx 0 _ rfl).1
  have L1 : W0.cell? ⟨w2.heap.size, 1, none⟩ = some (.int .i64 l.z) := by rw [hW0]; exact (bx 1 _ rfl).1
  have L2 : W0.cell? ⟨w2.heap.size, 2, none⟩ = some (.slice A l.ks.length c) := by rw [hW0]; exact (bx 2 _ rfl).1
  have L3 : W0.cell? ⟨w2.heap.size + 1, 0, none⟩ = some (.slice A' b.length c') := by rw [hW0]; exact (by' 0 _ rfl).1
  have aP : At w2 ⟨w.heap.size + 1, 0, none⟩ (.func (.func 106) #[] #[]) := by
    rw [hw2]; exact (((box2 w #[.int .i64 l.x, .int .i64 l.z, .slice A l.ks.length c] #[.func (.func 106) #[] #[]] 137 149).2 0 _ rfl).al _).al _
  have aR : ∀ (j : Nat) (v : Value), (#[Value.int .i64 0, .int .i64 0] : Array Value)[j]? = some v → At w2 ⟨w.heap.size + 2, j, none⟩ v ∧ At w2 ⟨w.heap.size + 3, j, none⟩ v := by
    intro j v hv
    rw [hw2]
    have h := box2 ((w.alloc (.cells #[.int .i64 l.x, .int .i64 l.z, .slice A l.ks.length c] 137)).alloc (.cells #[.func (.func 106) #[] #[]] 149)) #[Value.int .i64 0, .int .i64 0] #[Value.int .i64 0, .int .i64 0] 66 66
    have e : ((w.alloc (.cells #[.int .i64 l.x, .int .i64 l.z, .slice A l.ks.length c] 137)).alloc (.cells #[.func (.func 106) #[] #[]] 149)).heap.size = w.heap.size + 2 := by simp
    rw [e] at h
    exact ⟨h.1 j v hv, h.2 j v hv⟩
  have hFoot : Foot (fun k => w.heap.size < k ∧ k < w.heap.size + 4) W0 := four_foot rfl (aP.below hb20) ((aR 0 _ rfl).1.below hb20) ((aR 0 _ rfl).2.below hb20)
  have aR0 := (aR 0 _ rfl).1.below hb20
  have aR1 := (aR 1 _ rfl).1.below hb20
  have aS0 := (aR 0 _ rfl).2.below hb20
  have aS1 := (aR 1 _ rfl).2.below hb20
  have aP0 := aP.below hb20
  clear aR aP bx by' hW0 hw2
  rw [z2] at L0 L1 L2 L3
  refine wp_rangeF (gf := 140) (lb := #[.pointer (some ⟨w.heap.size + 4, 0, none⟩), .pointer (some ⟨w.heap.size + 4 + 1, 0, none⟩)]) rfl (enters_of Try.func140 (by kernel_rfl) rfl)
    (pulls_seq (w.heap.size + 4) (w.heap.size + 4 + 1) _ _ l b W0 HL.out HX.out L0 L1 L2 L3 (HS.out.below hb0) (HU.out.below hb0)
      (fun k => k = w.heap.size + 4 ∨ k = w.heap.size + 4 + 1 ∨ (Value.slice A l.ks.length c).ownBlock = some k ∨ (Value.slice A' b.length c').ownBlock = some k) (.inl rfl) (.inr (.inl rfl)) (fun k hk => .inr (.inr (.inl hk))) (fun k hk => .inr (.inr (.inr hk))) ?_) (Below.refl _ _) (fun _ => rfl)
    (fun F pre W => (FourF w.heap.size F ∧ At W ⟨w.heap.size + 1, 0, none⟩ (.func (.func 106) #[] #[])) ∧ (FourF w.heap.size F ∧ At W ⟨w.heap.size + 1 + 1, 0, none⟩ (.int .i64 0)) ∧ (FourF w.heap.size F ∧ At W ⟨w.heap.size + 1 + 1, 1, none⟩ (.int .i64 0)) ∧
      (FourF w.heap.size F ∧ At W ⟨w.heap.size + 1 + 1 + 1, 0, none⟩ (.int .i64 (totR offR pre).1)) ∧ (FourF w.heap.size F ∧ At W ⟨w.heap.size + 1 + 1 + 1, 1, none⟩ (.int .i64 (totR offR pre).2)) ∧ Below w.heap.size w W)
    (OwnF.and (ownF_at (B := w.heap.size) (j := 1) (by omega) _) (OwnF.and (ownF_at (B := w.heap.size) (j := 2) (by omega) _) (OwnF.and (ownF_at (B := w.heap.size) (j := 2) (by omega) _) (OwnF.and (ownF_at (B := w.heap.size) (j := 3) (by omega) _) (OwnF.and (ownF_at (B := w.heap.size) (j := 3) (by omega) _) (ownF_below (Nat.le_refl _) (by omega)))))))
    _ hFoot ?_ ⟨⟨rfl, aP0⟩, ⟨rfl, aR0⟩, ⟨rfl, aR1⟩, ⟨rfl, aS0⟩, ⟨rfl, aS1⟩, hb0⟩ ?_ ?_
  · rintro k (rfl | rfl | hk | hk)
    · omega
    · omega
    · have := HV.out.1 k hk; omega
    · have := HV.out.2 k hk; omega
  · rintro k ⟨k1, k2⟩ (h | h | h | h)
    · omega
    · omega
    · have := HV.out.1 k h; omega
    · have := HV.out.2 k h; omega
  · rintro lr F pre p W hlr hlt hpre ⟨⟨hF, h1⟩, ⟨_, h2⟩, ⟨_, h3⟩, ⟨_, h4⟩, ⟨_, h5⟩, hB⟩ hFF
    obtain ⟨hpl, hpe⟩ := pre_get hpre
    have hmem : p ∈ pulls l b := hpe ▸ List.getElem_mem hpl
    have hpk := pulls_ok HL.out HX.out p hmem
    have hpz := HZ.out p hmem
    have hn1 := HL.out.n1
    rw [pulls_len HX.out] at hpl
    have hobd := offR_bd hpk hpz
    have htbd := totR_bd offR 20000000 pre (fun q hq => by
      have hq' : q ∈ pulls l b := by
        obtain ⟨t, ht⟩ := hpre
        rw [← ht]; simp [hq]
      exact offR_bd (pulls_ok HL.out HX.out q hq') (HZ.out q hq'))
    have hsn := Lib.hid (totR_snoc offR pre p)
    have HO := Lib.hid (fun w => offsets_any p w hpk hpz)
    have HB := Lib.hid hB
    have HA := Lib.hid (And.intro h1 (And.intro h2 (And.intro h3 (And.intro h4 h5))))
    have HF := Lib.hid hF
    have hal := h1.lt
    simp only at hal
    obtain ⟨⟨o1, o2⟩, o3, o4⟩ := hobd
    obtain ⟨⟨t1, t2⟩, t3, t4⟩ := htbd
    clear hpre hF h1 h2 h3 h4 h5 hB L0 L1 L2 L3 aP0 aR0 aR1 aS0 aS1 hpe hmem hpk hFoot
    generalize totR offR pre = tt at *
    generalize offR p = oo at *
    obtain ⟨tt1, tt2⟩ := tt
    obtain ⟨oo1, oo2⟩ := oo
    simp only at *
    simp only [encP]
    gi_wp2
    refine ⟨(Out.refl F W).alloc _, fun W2 hTn => ?_⟩
    have PP := fun j v h => (At.new W #[.int .i64 p.h, .int .i64 p.wt, .int .i64 p.d, .int .i64 p.lo, .int .i64 p.hi, .int .i64 p.z] 146 j v h).turn hTn
    obtain ⟨e0, _⟩ := PP 0 _ rfl
    obtain ⟨e1, _⟩ := PP 1 _ rfl
    obtain ⟨e2, _⟩ := PP 2 _ rfl
    obtain ⟨e3, _⟩ := PP 3 _ rfl
    obtain ⟨e4, _⟩ := PP 4 _ rfl
    obtain ⟨e5, _⟩ := PP 5 _ rfl
    have KA : Hid (At W2 ⟨w.heap.size + 1, 0, none⟩ (.func (.func 106) #[] #[]) ∧ At W2 ⟨w.heap.size + 1 + 1, 0, none⟩ (.int .i64 0) ∧ At W2 ⟨w.heap.size + 1 + 1, 1, none⟩ (.int .i64 0) ∧ At W2 ⟨w.heap.size + 1 + 1 + 1, 0, none⟩ (.int .i64 tt1) ∧ At W2 ⟨w.heap.size + 1 + 1 + 1, 1, none⟩ (.int .i64 tt2)) :=
      ⟨(HA.out.1.al _).turn hTn, (HA.out.2.1.al _).turn hTn, (HA.out.2.2.1.al _).turn hTn, (HA.out.2.2.2.1.al _).turn hTn, (HA.out.2.2.2.2.al _).turn hTn⟩
    have KB : Hid (Below w.heap.size w W2) := (below_al HB.out _).trans (hTn.below (by omega))
    have hw2 : w.heap.size + 4 < W2.heap.size := by rw [hTn.size]; simp; omega
    obtain ⟨p1, _⟩ := KA.out.1
    clear hTn PP
    gi_wp2_with (gi_at_call 106; refine (inRnd lr (HO.out _)).mono ?_; rintro e w4 ⟨rfl, hb4⟩; obtain ⟨u1, f1⟩ := KA.out.2.2.2.1.below hb4; obtain ⟨u2, f2⟩ := KA.out.2.2.2.2.below hb4; have HB4 := Lib.hid hb4; have hl4 := (show w.heap.size + 1 + 1 + 1 < w4.heap.size from Nat.lt_of_lt_of_le (Nat.lt_of_succ_lt hw2) hb4.size); clear hb4)
    have hFx : ∀ k, w.heap.size < k ∧ k < w.heap.size + 4 → F k := fun k hk => by rw [HF.out]; exact hk
    have M1 := KA.out.1.below HB4.out
    have M2 := KA.out.2.1.below HB4.out
    have M3 := KA.out.2.2.1.below HB4.out
    have M4 := KA.out.2.2.2.1.below HB4.out
    have M5 := KA.out.2.2.2.2.below HB4.out
    have N1 := ((M1.other (q := ⟨w.heap.size + 1 + 1 + 1, 0, none⟩) (u := .int .i64 (tt1 + oo1)) (by simp)).other (q := ⟨w.heap.size + 1 + 1 + 1, 1, none⟩) (u := .int .i64 (tt2 + oo2)) (by simp)).al (.cells #[.int .i64 oo1, .int .i64 oo2] 66)
    have N2 := ((M2.other (q := ⟨w.heap.size + 1 + 1 + 1, 0, none⟩) (u := .int .i64 (tt1 + oo1)) (by simp)).other (q := ⟨w.heap.size + 1 + 1 + 1, 1, none⟩) (u := .int .i64 (tt2 + oo2)) (by simp)).al (.cells #[.int .i64 oo1, .int .i64 oo2] 66)
    have N3 := ((M3.other (q := ⟨w.heap.size + 1 + 1 + 1, 0, none⟩) (u := .int .i64 (tt1 + oo1)) (by simp)).other (q := ⟨w.heap.size + 1 + 1 + 1, 1, none⟩) (u := .int .i64 (tt2 + oo2)) (by simp)).al (.cells #[.int .i64 oo1, .int .i64 oo2] 66)
    have N4 := ((M4.set (u := .int .i64 (tt1 + oo1))).other (q := ⟨w.heap.size + 1 + 1 + 1, 1, none⟩) (u := .int .i64 (tt2 + oo2)) (by simp)).al (.cells #[.int .i64 oo1, .int .i64 oo2] 66)
    have N5 := ((M5.other (q := ⟨w.heap.size + 1 + 1 + 1, 0, none⟩) (u := .int .i64 (tt1 + oo1)) (by simp)).set (u := .int .i64 (tt2 + oo2))).al (.cells #[.int .i64 oo1, .int .i64 oo2] 66)
    refine ⟨((((Out.refl F W2).call HB4.out).setCell (p := ⟨w.heap.size + 1 + 1 + 1, 0, none⟩) (.inl (hFx _ (by simp; omega))) _).setCell (p := ⟨w.heap.size + 1 + 1 + 1, 1, none⟩) (.inl (hFx _ (by simp; omega))) _).alloc _, F,
      ⟨⟨HF.out, N1⟩, ⟨HF.out, N2⟩, ⟨HF.out, N3⟩, ⟨HF.out, by rw [hsn.out]; exact N4⟩, ⟨HF.out, by rw [hsn.out]; exact N5⟩, ?_⟩, four_foot HF.out N1 N2 N4, fun k hk => .inl hk⟩
    exact below_al (below_set (below_set (KB.out.trans (HB4.out.mono (by omega))) (by simp; omega) _) (by simp; omega) _) _
  · rintro D W F hD ⟨⟨hF, h1⟩, ⟨_, h2⟩, ⟨_, h3⟩, ⟨_, h4⟩, ⟨_, h5⟩, hB⟩ hK
    have HB := Lib.hid hB
    obtain ⟨x1, f1⟩ := h2
    obtain ⟨x2, f2⟩ := h3
    obtain ⟨x3, f3⟩ := h4
    obtain ⟨x4, f4⟩ := h5
    obtain ⟨⟨tt1, tt2⟩, hT⟩ : ∃ t, totR offR (pulls l b) = t := ⟨_, rfl⟩
    rw [hT] at x3 x4
    simp only at x3 x4
    have HTT := Lib.hid hT
    have HAA := Lib.hid (And.intro (show At W ⟨w.heap.size + 1 + 1, 0, none⟩ (.int .i64 0) from ⟨x1, f1⟩) (show At W ⟨w.heap.size + 1 + 1, 1, none⟩ (.int .i64 0) from ⟨x2, f2⟩))
    clear hT
    clear hB h1 hF L0 L1 L2 L3 aP0 aR0 aR1 aS0 aS1 hFoot
    gi_wp2
    obtain ⟨W5, hW5⟩ : ∃ W5, W5 = (W.setCell ⟨w.heap.size + 1 + 1, 0, none⟩ (.int .i64 tt1)).setCell ⟨w.heap.size + 1 + 1, 1, none⟩ (.int .i64 tt2) := ⟨_, rfl⟩
    rw [← hW5]
    have hDne : D ≠ w.heap.size + 1 + 1 := by omega
    have hK5 : W5.heap[D]? = some (.deferred (some [])) := by rw [hW5, Below.heap_setCell _ _ _ _ hDne, Below.heap_setCell _ _ _ _ hDne]; exact hK
    have R0 : At (W5.putObj D (.deferred none)) ⟨w.heap.size + 1 + 1, 0, none⟩ (.int .i64 tt1) := At.put (by rw [hW5]; exact (HAA.out.1.set).other (by simp)) hK5 rfl rfl
    have R1 : At (W5.putObj D (.deferred none)) ⟨w.heap.size + 1 + 1, 1, none⟩ (.int .i64 tt2) := At.put (by rw [hW5]; exact (HAA.out.2.other (by simp)).set) hK5 rfl rfl
    have HBB : Below w.heap.size w (W5.putObj D (.deferred none)) := by
      refine below_put ?_ (Nat.le_refl _) (by omega) hK5
      rw [hW5]; exact below_set (below_set HB.out (by simp; omega) _) (by simp; omega) _
    obtain ⟨r0, _⟩ := R0
    obtain ⟨r1, _⟩ := R1
    clear hW5
    refine ⟨by simp, .inl ⟨_, _, rfl, run_takeDeferred hK5, ?_⟩⟩
    refine ⟨.agg #[.int .i64 tt1, .int .i64 tt2], ?_, by rw [HTT.out], HBB⟩
    rw [results_cell rfl]
    go_simp
end Go.Proofs.Ytghglgaimhfedaa

namespace Go.Proofs.Ytghglgaimhfedaa
open Go.RowKit Go.Shelf

def laybackIn (l : Ln) (b : List (Int × Int)) : (Int × Int) × Int := if boxShapeErr l b = 0 then (totR offR (pulls l b), 0) else ((0, 0), boxShapeErr l b)
theorem boxShape_ok {l : Ln} {b : List (Int × Int)} (h : boxShapeErr l b = 0) : boxErr l b = 0 ∧ slackErr l = 0 := by
  unfold boxShapeErr at h
  by_cases h1 : boxErr l b = 0
  · rw [if_pos h1] at h; exact ⟨h1, h⟩
  · rw [if_neg h1] at h; exact absurd h h1
theorem boxOk_of {l : Ln} {b : List (Int × Int)} (h : boxErr l b = 0) : LnOk l ∧ BoxOk l b := ⟨lineErr_ok (boxErr_ok h).1, boxErr1_ok (boxErr_ok h).2⟩
theorem pulls_pos {l : Ln} {b : List (Int × Int)} (hb : BoxOk l b) (h : slackErr l = 0) : ∀ p ∈ pulls l b, 0 < p.z := by
  intro p hp
  refine slackErr_ok h _ ?_
  have e : (pulls l b).map (·.z) = zs l := pullsF_zs _ _ _ _ _ hb.len
  rw [← e]
  exact List.mem_map.2 ⟨p, hp, rfl⟩
set_option maxHeartbeats 1000000 in
theorem LaybackIn_any (v u : Value) (l : Ln) (b : List (Int × Int)) (w : World) (hs : Sl e3 3 w v l.ks) (hu : Sl e2 2 w u b) (hbig : l.ks.length ≤ 1000) (hbig' : b.length ≤ 1000) :
    Calls Try.prog 59 #[.agg #[.int .i64 l.x, .int .i64 l.z, v], u] w fun e w' => e = .returned (.tuple #[.agg #[.int .i64 (laybackIn l b).1.1, .int .i64 (laybackIn l b).1.2], .int .i64 (laybackIn l b).2]) ∧ Below w.heap.size w w' := by
  have HC := Lib.hid (fun w' (hw : Below w.heap.size w w') => boxShapeError_any v u l b w' (hs.below hw) (hu.below hw) hbig hbig')
  by_cases h1 : boxShapeErr l b = 0
  · have E : Hid (laybackIn l b = (totR offR (pulls l b), 0)) := if_pos h1
    obtain ⟨h2, h3⟩ := boxShape_ok h1
    obtain ⟨hl, hb⟩ := boxOk_of h2
    have HT := Lib.hid (fun w' (hw : Below w.heap.size w w') => total_off v u l b w' (hs.below hw) (hu.below hw) hl hb (pulls_pos hb h3))
    rw [h1] at HC
    obtain ⟨A, c, rfl, hcap⟩ := hs.form
    obtain ⟨A', c', rfl, hcap'⟩ := hu.form
    generalize totR offR (pulls l b) = tt at *
    obtain ⟨tt1, tt2⟩ := tt
    simp only at HT
    clear hs hu h1 h2 h3 hl hb
    have HX := Lib.hid (box2 w #[.int .i64 l.x, .int .i64 l.z, .slice A l.ks.length c] #[.int .i64 0, .int .i64 0] 26 66)
    go_enter Try.func59, Try.ntmps59
    go_wp2_with (first
      | (go_at_call 121; refine (HC.out _ (below_al (below_alloc1 _ _) _)).mono ?_; rintro e w1 ⟨rfl, hb1⟩; have HB := Lib.hid (below_tr (below_al (below_alloc1 _ _) _) hb1); obtain ⟨q0, _⟩ := (HX.out.1 0 _ rfl).below hb1; obtain ⟨q1, _⟩ := (HX.out.1 1 _ rfl).below hb1; obtain ⟨q2, _⟩ := (HX.out.1 2 _ rfl).below hb1; have R0 := (HX.out.2 0 _ rfl).below hb1; have R1 := (HX.out.2 1 _ rfl).below hb1; have HR := Lib.hid (And.intro R0 R1); clear R0 R1 hb1)
      | (go_at_call 105; refine (HT.out _ HB.out).mono ?_; rintro e w2 ⟨rfl, hb2⟩; have R0 := HR.out.1.below hb2; have R1 := HR.out.2.below hb2; have HR2 := Lib.hid (And.intro R0 R1); have HB2 := Lib.hid (below_tr HB.out hb2); obtain ⟨r0, f0⟩ := R0; obtain ⟨r1, f1⟩ := R1; clear hb2))
    obtain ⟨W5, hW5⟩ : ∃ W5, W5 = (w2.setCell ⟨w.heap.size + 1, 0, none⟩ (.int .i64 tt1)).setCell ⟨w.heap.size + 1, 1, none⟩ (.int .i64 tt2) := ⟨_, rfl⟩
    rw [← hW5]
    obtain ⟨s0, _⟩ : At W5 ⟨w.heap.size + 1, 0, none⟩ (.int .i64 tt1) := by rw [hW5]; exact (HR2.out.1.set).other (by simp)
    obtain ⟨s1, _⟩ : At W5 ⟨w.heap.size + 1, 1, none⟩ (.int .i64 tt2) := by rw [hW5]; exact (HR2.out.2.other (by simp)).set
    have HB5 : Below w.heap.size w W5 := by rw [hW5]; exact below_set (below_set HB2.out (by simp) _) (by simp) _
    clear hW5
    (try simp only [Exit.inBlock, Exit.then])
    refine bodyPost_ret (v := .tuple #[.agg #[.int .i64 tt1, .int .i64 tt2], .int .i64 0]) ?_ rfl ⟨by rw [E.out], HB5⟩
    rw [results_cell_tmp rfl]
    go_simp
  · have E : Hid (laybackIn l b = ((0, 0), boxShapeErr l b)) := if_neg h1
    have h1' := ne1 h1
    generalize boxShapeErr l b = pe at *
    obtain ⟨A, c, rfl, hcap⟩ := hs.form
    obtain ⟨A', c', rfl, hcap'⟩ := hu.form
    clear h1 hs hu
    have HX := Lib.hid (box2 w #[.int .i64 l.x, .int .i64 l.z, .slice A l.ks.length c] #[.int .i64 0, .int .i64 0] 26 66)
    go_enter Try.func59, Try.ntmps59
    go_wp2_with (go_at_call 121; refine (HC.out _ (below_al (below_alloc1 _ _) _)).mono ?_; rintro e w2 ⟨rfl, hb1⟩; have HB2 := Lib.hid (below_tr (below_al (below_alloc1 _ _) _) hb1); have R0 := (HX.out.2 0 _ rfl).below hb1; have R1 := (HX.out.2 1 _ rfl).below hb1; have HR2 := Lib.hid (And.intro R0 R1); obtain ⟨r0, f0⟩ := R0; obtain ⟨r1, f1⟩ := R1; clear hb1)
    obtain ⟨W5, hW5⟩ : ∃ W5, W5 = (w2.setCell ⟨w.heap.size + 1, 0, none⟩ (.int .i64 0)).setCell ⟨w.heap.size + 1, 1, none⟩ (.int .i64 0) := ⟨_, rfl⟩
    rw [← hW5]
    obtain ⟨s0, _⟩ : At W5 ⟨w.heap.size + 1, 0, none⟩ (.int .i64 0) := by rw [hW5]; exact (HR2.out.1.set).other (by simp)
    obtain ⟨s1, _⟩ : At W5 ⟨w.heap.size + 1, 1, none⟩ (.int .i64 0) := by rw [hW5]; exact (HR2.out.2.other (by simp)).set
    have HB5 : Below w.heap.size w W5 := by rw [hW5]; exact below_set (below_set HB2.out (by simp) _) (by simp) _
    clear hW5
    (try simp only [Exit.inBlock, Exit.then])
    refine bodyPost_ret (v := .tuple #[.agg #[.int .i64 0, .int .i64 0], .int .i64 pe]) ?_ rfl ⟨by rw [E.out], HB5⟩
    rw [results_cell_tmp rfl]
    go_simp
end Go.Proofs.Ytghglgaimhfedaa
