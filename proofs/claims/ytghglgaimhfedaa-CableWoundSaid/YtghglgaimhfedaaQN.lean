/-
  Walks of chapter 1's lines: the least load.
-/
import Derived.Test.YtghglgaimhfedaaQI
import Derived.BigRegionIn
import Derived.Test.YtghglgaimhfedaaQL
namespace Go.Proofs.Ytghglgaimhfedaa
open Go.RowKit Go.Shelf
attribute [local go_sem] Oper.semAt_some wide_fn wide_depth round_fn round_depth

theorem minF_snoc (m : Int) (xs : List Int) (x : Int) : minF m (xs ++ [x]) = min (minF m xs) x := by
  induction xs generalizing m with
  | nil => rfl
  | cons y r ih => simp only [List.cons_append, minF, ih]
theorem minF_bd (m : Int) (xs : List Int) (h : -20000 ≤ m ∧ m ≤ 20000) (hx : ∀ x ∈ xs, -20000 ≤ x ∧ x ≤ 20000) : -20000 ≤ minF m xs ∧ minF m xs ≤ 20000 := by
  induction xs generalizing m with
  | nil => exact h
  | cons y r ih =>
    have := hx y (by simp)
    exact ih _ (by omega) (fun x hx' => hx x (by simp [hx']))
def minAcc (l : Ln) (pre : List (Nat × Int)) : Int := minF ((zs l).headD 0) (pre.map (·.2))
theorem minAcc_snoc (l : Ln) (pre : List (Nat × Int)) (i : Nat) (z : Int) : minAcc l (pre ++ [(i, z)]) = min (minAcc l pre) z := by unfold minAcc; rw [List.map_append]; exact minF_snoc _ _ _
theorem headD_zs (l : Ln) (h : 0 < l.ks.length) : (zs l).headD 0 = l.z + l.ks[0].2.1 := by
  unfold zs
  obtain ⟨x, z, ks⟩ := l
  cases ks with
  | nil => simp at h
  | cons k r => rfl
theorem headD_mem (l : Ln) (h : 0 < l.ks.length) : (zs l).headD 0 ∈ zs l := by
  unfold zs
  obtain ⟨x, z, ks⟩ := l
  cases ks with
  | nil => simp at h
  | cons k r => simp [zsF]
def leastLoad (l : Ln) : Int × Int := if lineErr l = 0 then (least l, 0) else (0, lineErr l)
theorem least_acc (l : Ln) : l.z - minAcc l (lifts l) + 1 = least l := by unfold least minAcc; rw [lifts_zs]

set_option maxRecDepth 100000 in
set_option maxHeartbeats 2000000 in
theorem LeastLoad_any (v : Value) (l : Ln) (w : World) (hs : Sl e3 3 w v l.ks) (hbig : l.ks.length ≤ 1000) :
    Calls Try.prog 21 #[.agg #[.int .i64 l.x, .int .i64 l.z, v]] w fun e w' => e = .returned (.tuple #[.int .i64 (leastLoad l).1, .int .i64 (leastLoad l).2]) ∧ Below w.heap.size w w' := by
  have HC := Lib.hid (lineError_any v l _ (hs.alloc (.cells #[.int .i64 l.x, .int .i64 l.z, v] 26)) hbig)
  by_cases h1 : lineErr l = 0
  · have hl := lineErr_ok h1
    have hvb := hs.blk hl.n0
    have E : Hid (leastLoad l = (least l, 0)) := if_pos h1
    rw [h1] at HC
    obtain ⟨A, c, rfl, hcap⟩ := hs.form
    have HV := Lib.hid hvb
    have HS := Lib.hid hs
    have HL := Lib.hid hl
    clear hvb hs hl h1
    obtain ⟨b, off, rfl, hbl, hc0, hc1, hc2⟩ := HS.out.at3 HL.out.n0
    have hn0 : (0 : Int) < (l.ks.length : Int) := by have := HL.out.n0; omega
    have hz := HL.out.z0
    have hz' := HL.out.z1
    obtain ⟨_, _, hk1, hk2, _, _⟩ := HL.out.ok _ (List.getElem_mem HL.out.n0)
    refine (callsIn_wide (n := 0)).1 ?_
    refine callsIn_of_wp_marks Try.func21 rfl trivial ?_ rfl
    simp only [Try.ntmps21, List.size_toArray, List.length_cons, List.length_nil, Nat.reduceAdd, Nat.reduceSub, Array.replicate_succ, Array.replicate_zero, List.push_toArray, List.append_toArray, List.nil_append, List.cons_append]
    gi_wp2_with (gi_at_call 95; refine (atWide HC.out).mono ?_; rintro e w1 ⟨rfl, hb1⟩; obtain ⟨q1, _⟩ := (At.new w #[.int .i64 l.x, .int .i64 l.z, .slice (some ⟨b, off, none⟩) l.ks.length c] 26 0 _ rfl).below hb1; obtain ⟨q2, _⟩ := (At.new w #[.int .i64 l.x, .int .i64 l.z, .slice (some ⟨b, off, none⟩) l.ks.length c] 26 1 _ rfl).below hb1; obtain ⟨q3, _⟩ := (At.new w #[.int .i64 l.x, .int .i64 l.z, .slice (some ⟨b, off, none⟩) l.ks.length c] 26 2 _ rfl).below hb1; have q0 := cell_lt q1; simp only at q0; have q00 : w.heap.size < w1.heap.size + 1 := by omega)
    have hb01 := below_tr (below_alloc1 w (.cells #[.int .i64 l.x, .int .i64 l.z, .slice (some ⟨b, off, none⟩) l.ks.length c] 26)) hb1
    have q4 := (hb01.cell (p := ⟨b, off + 0 * 3 + 1, none⟩) hbl).trans hc1
    simp only [Nat.zero_mul, Nat.add_zero] at q4
    have hbl1 : b < w1.heap.size := by omega
    have hw : IntKind.i64.wrap (l.z + l.ks[0].2.1) = l.z + l.ks[0].2.1 := IntWalk.i64_in _ (by omega)
    gi_region
    obtain ⟨W1, hW1⟩ : ∃ W1, W1 = (w1.alloc (.cells #[.int .i64 (l.z + l.ks[0].2.1)] 3)).drew := ⟨_, rfl⟩
    rw [← hW1]
    have hb10 : Below w.heap.size w W1 := by rw [hW1]; exact (below_al hb01 _).drew
    have wz1 : w1.heap.size + 1 ≤ W1.heap.size := by rw [hW1]; simp
    have aM : At W1 ⟨w1.heap.size, 0, none⟩ (.int .i64 (minAcc l [])) := by
      have e : minAcc l [] = l.z + l.ks[0].2.1 := by unfold minAcc; exact headD_zs l HL.out.n0
      rw [hW1, e]; exact (At.new w1 #[.int .i64 (l.z + l.ks[0].2.1)] 3 0 _ rfl).drew
    have aQ : ∀ j v, (#[Value.int .i64 l.x, .int .i64 l.z, .slice (some ⟨b, off, none⟩) l.ks.length c] : Array Value)[j]? = some v → At W1 ⟨w.heap.size, j, none⟩ v := by
      intro j v hv
      rw [hW1]; exact (((At.new w _ 26 j v hv).below hb1).al _).drew
    have aQ1 := aQ 1 _ rfl
    obtain ⟨r1, _⟩ := aQ 0 _ rfl
    obtain ⟨r2, _⟩ := aQ 1 _ rfl
    obtain ⟨r3, _⟩ := aQ 2 _ rfl
    have HQ1 := Lib.hid aQ1
    clear aQ aQ1 hW1 q1 q2 q3 q4 hw hb1 hb01
    gi_wp2_with (gi_at_call 96; refine (atWide (lifts_any l _ _ ⟨_, _, _, rfl⟩)).mono ?_; rintro e w2 ⟨rfl, rfl⟩)
    obtain ⟨W0, hW0⟩ : ∃ W0, W0 = W1.alloc (.cells #[.int .i64 l.x, .int .i64 l.z, .slice (some ⟨b, off, none⟩) l.ks.length c] 137) := ⟨_, rfl⟩
    rw [← hW0]
    have hb0 : Below w.heap.size w W0 := by rw [hW0]; exact below_al hb10 _
    have wz0 : W1.heap.size + 1 ≤ W0.heap.size := by rw [hW0]; simp
    have aM0 : At W0 ⟨w1.heap.size, 0, none⟩ (.int .i64 (minAcc l [])) := by rw [hW0]; exact aM.al _
    have aQ0 : At W0 ⟨w.heap.size, 1, none⟩ (.int .i64 l.z) := by rw [hW0]; exact HQ1.out.al _
    have aL : ∀ j v, (#[Value.int .i64 l.x, .int .i64 l.z, .slice (some ⟨b, off, none⟩) l.ks.length c] : Array Value)[j]? = some v → W0.cell? ⟨W1.heap.size, j, none⟩ = some v := by
      intro j v hv
      rw [hW0]; exact (At.new W1 _ 137 j v hv).1
    have aL1 := aL 1 _ rfl
    have aL2 := aL 2 _ rfl
    have hsW := HS.out.below hb0
    clear aL hW0 aM r1 r2 r3
    refine wp_rangeX (gf := 139) (lb := #[.pointer (some ⟨W1.heap.size, 0, none⟩)]) rfl (enters_of Try.func139 (by kernel_rfl) rfl)
      (lifts_seq W1.heap.size _ l W0 HL.out aL1 aL2 hsW (fun k => k = W1.heap.size ∨ (Value.slice (some ⟨b, off, none⟩) l.ks.length c).ownBlock = some k) (.inl rfl) (fun b hb => .inr hb)) (Below.refl _ _)
      (by
        rintro k (rfl | hk)
        · omega
        · have := HV.out k hk; have := hb0.size; omega) (fun _ => rfl)
      (fun pre W => (At W ⟨w1.heap.size, 0, none⟩ (.int .i64 (minAcc l pre)) ∧ At W ⟨w.heap.size, 1, none⟩ (.int .i64 l.z)) ∧ Below w.heap.size w W)
      (fun _ _ _ => False)
      (OwnFrom.and (OwnFrom.and (own_at _ _ _) (own_at _ _ fun _ => _)) (ownFrom_below (Nat.le_refl _) (by have := hb0.size; omega)))
      (fun _ _ _ _ _ h _ _ => h) ⟨⟨aM0, aQ0⟩, hb0⟩ ?round ?done ?stop
    case round =>
      rintro lp pre ⟨i, z⟩ W hlp hlt hpre ⟨⟨hT, hQ⟩, hB⟩
      have hmin := Lib.hid (minAcc_snoc l pre i z)
      have HB := Lib.hid hB
      have HT := Lib.hid hT
      have HQ := Lib.hid hQ
      clear hpre hT hB hQ
      simp only [encL]
      gi_wp2
      refine ⟨Kep.refl _ _ _, fun W2 hTn => ?_⟩
      have KB : Hid (Below w.heap.size w W2) := HB.out.trans (hTn.below (by have := hb0.size; omega))
      have KT := Lib.hid (HT.out.turn hTn)
      have KQ := Lib.hid (HQ.out.turn hTn)
      obtain ⟨c5, f5⟩ := KT.out
      clear hTn
      generalize minAcc l pre = mm at *
      have fin : ∀ n, n = min mm z → postX W0.heap.size (fun k => k = W1.heap.size ∨ (Value.slice (some ⟨b, off, none⟩) l.ks.length c).ownBlock = some k)
          (fun pre W => (At W ⟨w1.heap.size, 0, none⟩ (.int .i64 (minAcc l pre)) ∧ At W ⟨w.heap.size, 1, none⟩ (.int .i64 l.z)) ∧ Below w.heap.size w W) (fun _ _ _ => False) (pre ++ [(i, z)]) W2 .normal { tmps := #[], defers := [] } (W2.setCell ⟨w1.heap.size, 0, none⟩ (.int .i64 n)) := by
        rintro n rfl
        refine ⟨Kep.setCell (Kep.refl _ _ _) ?_ _, ⟨?_, KQ.out.other (by simp)⟩, below_set KB.out (by show w.heap.size ≤ w1.heap.size; omega) _⟩
        · rintro (h | h)
          · simp only at h; omega
          · have := HV.out _ h; simp only at this; omega
        · rw [hmin.out]; exact KT.out.set
      have HF := Lib.hid fin
      clear fin
      by_cases hc : mm ≤ z
      · gi_wp2
        exact HF.out _ (by omega)
      · gi_wp2
        exact HF.out _ (by omega)
    case done =>
      rintro D W hD ⟨⟨hT, hQ⟩, hB⟩ hK
      have hbd := minF_bd ((zs l).headD 0) ((lifts l).map (·.2)) (zs_bd HL.out _ (headD_mem l HL.out.n0)) (by rw [lifts_zs]; exact zs_bd HL.out)
      have hm : minAcc l (lifts l) = minF ((zs l).headD 0) ((lifts l).map (·.2)) := rfl
      rw [← hm] at hbd
      obtain ⟨m1, m2⟩ := hbd
      have hacc := Lib.hid (least_acc l)
      have HB := Lib.hid hB
      obtain ⟨c5, f5⟩ := hT
      obtain ⟨c6, f6⟩ := hQ
      clear hB hm
      generalize minAcc l (lifts l) = mm at *
      gi_wp2
      refine ⟨by simp, .inl ⟨_, _, rfl, run_takeDeferred hK, ?_⟩⟩
      exact ⟨_, results_tmp2 (t := 2) (u := 3) rfl _ _ _, ret_pair' (by rw [E.out, ← hacc.out]), below_put HB.out (Nat.le_refl _) (by have := hb0.size; omega) hK⟩
    case stop =>
      rintro D c pre W _ _ h _
      exact h.elim
  · have E : Hid (leastLoad l = (0, lineErr l)) := if_neg h1
    have h1' := ne1 h1
    generalize lineErr l = pe at *
    clear h1
    obtain ⟨A, c, rfl, hcap⟩ := hs.form
    clear hs
    go_enter Try.func21, Try.ntmps21
    go_wp2_with (go_at_call 95; refine HC.out.mono ?_; rintro e w1 ⟨rfl, hb1⟩)
    go_ret2
    exact ⟨ret_pair' E.out, below_tr (below_alloc1 _ _) hb1⟩
end Go.Proofs.Ytghglgaimhfedaa

namespace Go.Proofs.Ytghglgaimhfedaa
open Go.RowKit Go.Shelf
attribute [local go_sem] monoUpon_value monoUpon_skip monoUpon_enter

theorem rangeErr_size1 {r : Int × Int} (h : inR 50 r.1 = false) : rangeErr 50 r = 2 := by unfold rangeErr; simp [h]
theorem rangeErr_size2 {r : Int × Int} (h : inR 50 r.2 = false) : rangeErr 50 r = 2 := by unfold rangeErr; simp [h]
theorem rangeErr_order {r : Int × Int} (h : inR 50 r.1 = true) (h' : inR 50 r.2 = true) : rangeErr 50 r = if r.2 < r.1 then 9 else 0 := by unfold rangeErr; simp [h, h']
set_option maxRecDepth 100000 in
set_option maxHeartbeats 1000000 in
theorem rCheckBox_any (v u : Value) (l : Ln) (b : List (Int × Int)) (w : World) (hs : Sl e3 3 w v l.ks) (hu : Sl e2 2 w u b) (hbig' : b.length ≤ 1000) :
    Calls Try.prog 23 #[.agg #[.int .i64 l.x, .int .i64 l.z, v], u] w fun e w' => e = .returned (.tuple #[.int .i64 (boxErr1 l b).1, .int .i64 (boxErr1 l b).2]) ∧ Below w.heap.size w w' := by
  obtain ⟨A, c, rfl, hcap⟩ := hs.form
  obtain ⟨A', c', rfl, hcap'⟩ := hu.form
  have HU := Lib.hid hu
  clear hs hu
  by_cases h2 : b.length = l.ks.length
  · have E : Hid (boxErr1 l b = fb (rangeErr 50) (b.drop 0) 0) := if_pos h2
    have h2' := lenb h2
    clear h2
    go_enter Try.func23, Try.ntmps23
    go_wp2_with fail
    go_loopw [6] (fun i wr => ∃ k : Nat, k ≤ b.length ∧ i = .int .i64 k ∧ fb (rangeErr 50) (b.drop k) k = fb (rangeErr 50) (b.drop 0) 0 ∧ Below w.heap.size w wr) (fun i _ => b.length - (intOf i).toNat)
    case atStart => exact ⟨0, Nat.zero_le _, rfl, rfl, below_alloc1 _ _⟩
    case round =>
      obtain ⟨k, hk, rfl, hfb, hb⟩ := hrel
      have HF := Lib.hid hfb
      have HB := Lib.hid hb
      clear hfb
      by_cases hlt : k < b.length
      · obtain ⟨bb, off, rfl, hbl, hc0, hc1⟩ := (HU.out.below hb).at2 hlt
        have hd := fb_drop (rangeErr 50) b k hlt
        clear hb
        generalize b[k] = r at *
        obtain ⟨r1, r2⟩ := r
        simp only at *
        cases hy : inR 50 r1
        · rw [rangeErr_size1 (r := (r1, r2)) hy, if_neg (by decide)] at hd
          have HD := Lib.hid hd
          go_wp2_with (go_at_call 97; refine (isCurrent_any _ _).mono ?_; rintro e w' ⟨rfl, rfl⟩)
          go_ret2
          exact ⟨ret_pair' (by rw [E.out, ← HF.out, HD.out]), HB.out⟩
        · cases hy2 : inR 50 r2
          · rw [rangeErr_size2 (r := (r1, r2)) hy2, if_neg (by decide)] at hd
            have HD := Lib.hid hd
            go_wp2_with (go_at_call 97; refine (isCurrent_any _ _).mono ?_; rintro e w' ⟨rfl, rfl⟩)
            go_ret2
            exact ⟨ret_pair' (by rw [E.out, ← HF.out, HD.out]), HB.out⟩
          · rw [rangeErr_order (r := (r1, r2)) hy hy2] at hd
            simp only at hd
            by_cases hlo : r2 < r1
            · rw [if_pos hlo, if_neg (by decide)] at hd
              have HD := Lib.hid hd
              clear hd
              go_wp2_with (go_at_call 97; refine (isCurrent_any _ _).mono ?_; rintro e w' ⟨rfl, rfl⟩)
              go_quiet (fail)
              go_wp2_with fail
              go_ret2
              exact ⟨ret_pair' (by rw [E.out, ← HF.out, HD.out]), below_drN HB.out _⟩
            · rw [if_neg hlo, if_pos rfl] at hd
              have HD := Lib.hid hd
              clear hd
              go_wp2_with (go_at_call 97; refine (isCurrent_any _ _).mono ?_; rintro e w' ⟨rfl, rfl⟩)
              go_quiet (fail)
              go_wp2_with fail
              go_roundw
              case rel => exact ⟨k + 1, by omega, by go_num, by rw [← HF.out, HD.out], below_drN HB.out _⟩
              case measure => simp [intOf]; omega
      · clear hb
        obtain rfl : k = b.length := by omega
        go_wp2_with fail
        go_ret2
        exact ⟨ret_pair' (by rw [E.out, ← HF.out, fb_end _ _ _ (Nat.le_refl _)]), HB.out⟩
  · have E : Hid (boxErr1 l b = (0, 10)) := if_neg h2
    have h2' := lenb' h2
    clear h2
    go_enter Try.func23, Try.ntmps23
    go_wp2_with fail
    go_ret2
    exact ⟨ret_pair' E.out, below_alloc1 _ _⟩

/-! ### heights -/
theorem tensF_zs (x z : Int) (ks : List Lk) (c : List Int) (h : c.length = ks.length) : (tensF x z ks c).map (·.2) = zsF z ks := by
  induction ks generalizing x z c with
  | nil => cases c <;> rfl
  | cons k r ih =>
    cases c with
    | nil => simp at h
    | cons n c => simp only [tensF, List.map_cons, zsF]; rw [ih _ _ c (by simpa using h)]
theorem tens_zs (l : Ln) (c : List Int) (h : c.length = l.ks.length) : (tens l c).map (·.2) = zs l := tensF_zs _ _ _ _ h
theorem run_made1 (w : World) (n : Nat) (hn : n ≤ 1000) : ∃ w', (Instr.makeSlice 36 (.int .i64 (n : Int)) (.int .i64 (n : Int))).run Try.prog w = .ok (.slice (some ⟨w.heap.size, 0, none⟩) n n) w' ∧ Sl e1 1 w' (.slice (some ⟨w.heap.size, 0, none⟩) n n) (List.replicate n 0) ∧ Below w.heap.size w w' := by
  obtain ⟨i0, hi, hz0, hz1, hz2⟩ := info_parts intinfo
  have h := run_make (P := Try.prog) w 36 3 i0 _ (by kernel_rfl) hi hz0 .i64 .i64 n n (by omega) (Int.le_refl _) (by rw [hz2]; omega) (by omega)
  rw [hz1] at h
  simp only [Int.toNat_natCast, Nat.mul_one] at h
  refine ⟨_, h, ⟨some ⟨w.heap.size, 0, none⟩, n, by simp, by simp, fun _ => ⟨w.heap.size, 0, rfl, by simp, fun k hk j hj => ?_⟩⟩, below_alloc1 _ _⟩
  obtain rfl : j = 0 := by omega
  have hk' : k < n := by simpa using hk
  refine (cell_of_row _ _ _ _ _ _ (heap_alloc_new w _)).trans ?_
  simp [madeCells, Value.cells, e1, hk', List.getElem_replicate, Nat.mod_one]
theorem mono_make {P : Program} {o : Oper} {a : Act} {w w' : World} {R : Value → World → Prop} {n m : Operand} {t : TypeId} {vn vm v' : Value} (ho : o.op = .makeSlice t n m)
    (hn : a.eval n = vn) (hm : a.eval m = vm) (hrun : (Instr.makeSlice t vn vm).run P w = .ok v' w') (h : R v' w') : mono P o a w R := by
  refine ⟨?_⟩
  unfold execOp
  simp only [ho, Sem.run_bind, Sem.run_pure, Result.andThen_ok, hn, hm, hrun]
  exact h
set_option maxRecDepth 100000 in
set_option maxHeartbeats 1000000 in
theorem heights_any (v : Value) (l : Ln) (w : World) (hs : Sl e3 3 w v l.ks) (hl : LnOk l) :
    Calls Try.prog 98 #[.agg #[.int .i64 l.x, .int .i64 l.z, v]] w fun e w' => ∃ r, e = .returned r ∧ Ow e1 1 3 w.heap.size w' r (zs l) ∧ Below w.heap.size w w' := by
  obtain ⟨i0, hi, hz0, hz1, hz2⟩ := info_parts intinfo
  obtain ⟨A, c, rfl, hcap⟩ := hs.form
  have HS := Lib.hid hs
  have hn1 := hl.n1
  have HM := Lib.hid (fun w => run_made1 w l.ks.length (by omega))
  have HT : Hid (∀ u w, Sl e3 3 w (.slice A l.ks.length c) l.ks → Sl e1 1 w u (List.replicate l.ks.length 0) → Calls Try.prog 38 #[.agg #[.int .i64 l.x, .int .i64 l.z, .slice A l.ks.length c], u] w fun e w' => ∃ r, e = .returned r ∧ Sl e2 2 w' r (tens l (List.replicate l.ks.length 0)) ∧ Below w.heap.size w w') := fun u w h1 h2 =>
    (Tensions_any _ u l _ w h1 h2 hl ⟨by simp, fun n hn => by have := List.eq_of_mem_replicate hn; omega⟩).mono fun e w' ⟨r, a, b, c⟩ => ⟨r, a, b.sl e2_len, c⟩
  have HZ := Lib.hid (tens_zs l (List.replicate l.ks.length 0) (by simp))
  have htl : (tens l (List.replicate l.ks.length 0)).length = l.ks.length := tens_len _ _ (by simp)
  have hn10 : (tens l (List.replicate l.ks.length 0)).length ≤ 10 := by omega
  have HTL := Lib.hid htl
  clear hs hl htl
  generalize tens l (List.replicate l.ks.length 0) = ts at *
  go_enter Try.func98, Try.ntmps98
  go_wp2_with fail
  obtain ⟨W0, hW0⟩ : ∃ W0, W0 = w.alloc (.cells #[.int .i64 l.x, .int .i64 l.z, .slice A l.ks.length c] 26) := ⟨_, rfl⟩
  rw [← hW0]
  have HX : Hid (∀ W, Below W0.drew.heap.size W0.drew W → (At W ⟨w.heap.size, 0, none⟩ (.int .i64 l.x) ∧ At W ⟨w.heap.size, 1, none⟩ (.int .i64 l.z) ∧ At W ⟨w.heap.size, 2, none⟩ (.slice A l.ks.length c)) ∧ Sl e3 3 W (.slice A l.ks.length c) l.ks ∧ Below w.heap.size w W) := by
    intro W h
    rw [hW0] at h
    have bx := fun j v hv => (At.new w #[.int .i64 l.x, .int .i64 l.z, .slice A l.ks.length c] 26 j v hv).drew.below h
    have hb : Below w.heap.size w W := below_tr (below_alloc1 _ _) (Below.trans (Below.drew (Below.refl _ _)) h)
    exact ⟨⟨bx 0 _ rfl, bx 1 _ rfl, bx 2 _ rfl⟩, HS.out.below hb, hb⟩
  clear hW0
  refine wp_region_mono 6 [6, 7, 8, 9, 10, 11] [[], [], [1], [2], [3], [0, 4]] [fun v _ => v = .agg #[.int .i64 l.x, .int .i64 l.z, .slice A l.ks.length c], fun v _ => v = .pointer (some ⟨w.heap.size, 2, none⟩), fun v _ => v = .slice A l.ks.length c, fun v _ => v = .int .i64 l.ks.length, fun v w => Sl e1 1 w v (List.replicate l.ks.length 0), fun v w => Sl e2 2 w v ts] (by kernel_rfl) (by kernel_rfl) ⟨st_eq _, st_eq _, st_eq _, st_eq _, st_sl _ _ _, st_sl _ _ _, trivial⟩ ?_ ?_
  · simp only [List.take_succ_cons, List.take_zero, steps, and_true]
    refine ⟨?_, ?_, ?_, ?_, ?_, ?_⟩
    · intro x W hB _; simp only [putX, setX, List.foldl_cons, List.foldl_nil]; obtain ⟨⟨⟨c0, _⟩, ⟨c1, _⟩, ⟨c2, _⟩⟩, _⟩ := HX.out W hB; refine ⟨?_⟩; go_simp; exact ⟨rfl, Below.refl _ _⟩
    · intro x W hB _; simp only [putX, setX, List.foldl_cons, List.foldl_nil]; refine ⟨?_⟩; go_simp; exact ⟨rfl, Below.refl _ _⟩
    · intro x W hB hN; simp only [needs, sAt, dAt] at hN; simp only [putX, setX, List.foldl_cons, List.foldl_nil]; obtain ⟨⟨⟨c0, _⟩, ⟨c1, _⟩, ⟨c2, _⟩⟩, _⟩ := HX.out W hB; refine ⟨?_⟩; go_simp; exact ⟨rfl, Below.refl _ _⟩
    · intro x W hB hN; simp only [needs, sAt, dAt] at hN; simp only [putX, setX, List.foldl_cons, List.foldl_nil]; refine ⟨?_⟩; go_simp; exact ⟨rfl, Below.refl _ _⟩
    · intro x W hB hN; simp only [needs, sAt, dAt] at hN; simp only [putX, setX, List.foldl_cons, List.foldl_nil]; obtain ⟨w', hrun, hsl, hbw⟩ := HM.out W; exact mono_make rfl (by go_simp) (by go_simp) hrun ⟨hsl, hbw⟩
    · intro x W hB hN; simp only [needs, sAt, dAt] at hN; simp only [putX, setX, List.foldl_cons, List.foldl_nil]; refine ⟨?_⟩; go_simp; refine (HT.out _ _ (HX.out W hB).2.1 hN.2.1).mono ?_; rintro e w' ⟨r, rfl, hr, hb⟩; exact ⟨_, rfl, hr, hb⟩
  · intro y W hB hA
    simp only [allSp] at hA
    have q1 := hA.2.2.2.2.2.1
    obtain ⟨Ar, cr, e8, _⟩ := q1.form
    rw [e8] at q1
    have HSB := Lib.hid q1
    have HBW := Lib.hid (HX.out W hB).2.2
    clear hA hB q1
    simp only [putX, setX, List.foldl_cons, List.foldl_nil, List.drop_succ_cons, List.drop_zero, e8, List.setIfInBounds_toArray, List.set_cons_succ, List.set_cons_zero]
    go_wp2_with fail
    go_loopw [3, 5] (fun r i wr => ∃ k : Nat, k ≤ ts.length ∧ i = .int .i64 k ∧ Ow e1 1 3 W.heap.size wr r ((zs l).take k) ∧ Below W.heap.size W wr) (fun _ i _ => ts.length - (intOf i).toNat)
    case atStart => exact ⟨0, Nat.zero_le _, rfl, Ow.nil _ _ _ _ _, Below.refl _ _⟩
    case round =>
      obtain ⟨k, hk, rfl, hown, hb⟩ := hrel
      have HO := Lib.hid hown
      have HB := Lib.hid hb
      clear hown
      by_cases hlt : k < ts.length
      · obtain ⟨bt, ot, rfl, hbt, hc0, hc1⟩ := (HSB.out.below hb).at2 hlt
        have hzl : k < (zs l).length := by rw [zs_len, ← HTL.out]; exact hlt
        have hlen : ((zs l).take k).length ≤ k := List.length_take_le _ _
        have HTK := Lib.hid (List.take_succ_eq_append_getElem (l := zs l) (i := k) hzl)
        have HZK : Hid ((zs l)[k] = ts[k].2) := by
          have h : (zs l)[k]? = (ts.map (·.2))[k]? := by rw [HZ.out]
          rw [List.getElem?_eq_getElem hzl, List.getElem?_map, List.getElem?_eq_getElem hlt] at h
          exact Option.some.inj h
        clear hb
        generalize ts[k] = t at *
        obtain ⟨t1, t2⟩ := t
        simp only at *
        have HO7 : Hid (World.ownsRow (wr.alloc (.cells #[.int .i64 t2] 3)) W.heap.size 3 1 u3 ((zs l).take k).length (((zs l).take k).flatMap e1)) := HO.out.own.alloc _
        go_wp2_with (at_builtin; refine wpList_append_own _ rfl _ _ 36 rfl W.heap.size 3 i0 _ 1 8 Try.underlying36 hi hz0 hz1 hz2 rfl (by decide) _ _ _ rfl HO7.out ⟨_, 0, none⟩ 1 1 (e1 t2) rfl rfl (cells_new _ _ _) (e1_one _) (by simp only [maxLen]; omega) (by omega) (by simp; have := HB.out.size; omega) ?_; intro v1 w6 hown1 hg1 _; have HO6 := Lib.hid hown1; have HG := Lib.hid hg1; clear hown1 hg1)
        go_roundw
        case rel => exact ⟨k + 1, by omega, by go_num, by rw [HTK.out, HZK.out]; exact Ow.snoc HO6.out, (HO.out.alloc _).grown HG.out (below_al HB.out _) (Nat.le_refl _)⟩
        case measure => simp [intOf]; omega
      · clear hb
        obtain rfl : k = ts.length := by omega
        have hfin : (zs l).take ts.length = zs l := List.take_of_length_le (by rw [zs_len, ← HTL.out]; exact Nat.le_refl _)
        rw [hfin] at HO
        go_wp2_with fail
        go_ret
        exact ⟨_, rfl, HO.out.less HBW.out.size, below_tr HBW.out HB.out⟩
end Go.Proofs.Ytghglgaimhfedaa

namespace Go.Proofs.Ytghglgaimhfedaa
open Go.RowKit Go.Shelf
attribute [local go_sem] monoUpon_value monoUpon_skip monoUpon_enter

theorem slackF_take (xs : List Int) (k : Nat) (h : k < xs.length) : slackF (xs.take (k + 1)) 0 = if xs[k] ≤ 0 then slackF (xs.take k) 0 ++ [(k : Int)] else slackF (xs.take k) 0 := by
  rw [slackF_acc, slackF_acc, List.take_succ_eq_append_getElem h, List.zipIdx_append, List.filter_append, List.map_append]
  have hl : (xs.take k).length = k := by rw [List.length_take]; omega
  rw [hl]
  by_cases hz : xs[k] ≤ 0 <;> simp [hz]
theorem slackF_len (xs : List Int) (k : Nat) : (slackF xs k).length ≤ xs.length := by
  induction xs generalizing k with
  | nil => exact Nat.le_refl _
  | cons z r ih =>
    have := ih (k + 1)
    rw [slackF]
    split
    · simp only [List.length_cons]; omega
    · simp only [List.length_cons]; omega
set_option maxRecDepth 100000 in
set_option maxHeartbeats 1000000 in
theorem Slack_any (v : Value) (l : Ln) (w : World) (hs : Sl e3 3 w v l.ks) (hl : LnOk l) :
    Calls Try.prog 25 #[.agg #[.int .i64 l.x, .int .i64 l.z, v]] w fun e w' => ∃ r, e = .returned r ∧ Ow e1 1 3 w.heap.size w' r (slack l) ∧ Below w.heap.size w w' := by
  obtain ⟨i0, hi, hz0, hz1, hz2⟩ := info_parts intinfo
  have HH := Lib.hid (heights_any v l _ (hs.alloc (.cells #[.int .i64 l.x, .int .i64 l.z, v] 26)) hl)
  obtain ⟨A, c, rfl, hcap⟩ := hs.form
  have hn10 : (zs l).length ≤ 10 := by rw [zs_len]; exact hl.n1
  have E : Hid (slack l = slackF (zs l) 0) := rfl
  clear hs hl
  rw [E.out]
  clear E
  generalize zs l = ts at *
  go_enter Try.func25, Try.ntmps25
  go_wp2_with (go_at_call 98; refine HH.out.mono ?_; rintro e w2 ⟨r, rfl, ho, hb2⟩; have HSB := Lib.hid (ho.sl e1_len); obtain ⟨Ab, ct, rfl, hct⟩ := HSB.out.form; have HB2 := Lib.hid (below_tr (below_alloc1 _ _) hb2); clear hb2 ho)
  go_loopw [3, 5] (fun r i wr => ∃ k : Nat, k ≤ ts.length ∧ i = .int .i64 k ∧ Ow e1 1 3 w2.heap.size wr r (slackF (ts.take k) 0) ∧ Below w2.heap.size w2 wr) (fun _ i _ => ts.length - (intOf i).toNat)
  case atStart => exact ⟨0, Nat.zero_le _, rfl, Ow.nil _ _ _ _ _, Below.refl _ _⟩
  case round =>
    obtain ⟨k, hk, rfl, hown, hb⟩ := hrel
    have HO := Lib.hid hown
    have HB := Lib.hid hb
    clear hown
    by_cases hlt : k < ts.length
    · obtain ⟨bt, ot, rfl, hbt, hc0⟩ := (HSB.out.below hb).at1 hlt
      have hlen : (slackF (ts.take k) 0).length ≤ k := Nat.le_trans (slackF_len _ _) (List.length_take_le _ _)
      have htk := slackF_take ts k hlt
      clear hb
      generalize ts[k] = z at *
      have hwz := HB.out.size
      by_cases hz : z ≤ 0
      · rw [if_pos hz] at htk
        have HTK := Lib.hid htk
        clear htk
        have HO7 : Hid (World.ownsRow (wr.alloc (.cells #[.int .i64 k] 3)) w2.heap.size 3 1 u3 (slackF (ts.take k) 0).length ((slackF (ts.take k) 0).flatMap e1)) := HO.out.own.alloc _
        go_wp2_with (at_builtin; refine wpList_append_own _ rfl _ _ 36 rfl w2.heap.size 3 i0 _ 1 8 Try.underlying36 hi hz0 hz1 hz2 rfl (by decide) _ _ _ rfl HO7.out ⟨_, 0, none⟩ 1 1 (e1 k) rfl rfl (cells_new _ _ _) (e1_one _) (by simp only [maxLen]; omega) (by omega) (by simp; omega) ?_; intro v1 w6 hown1 hg1 _; have HO6 := Lib.hid hown1; have HG := Lib.hid hg1; clear hown1 hg1)
        go_roundw
        case rel => exact ⟨k + 1, by omega, by go_num, by rw [HTK.out]; exact Ow.snoc HO6.out, (HO.out.alloc _).grown HG.out (below_al HB.out _) (Nat.le_refl _)⟩
        case measure => simp [intOf]; omega
      · rw [if_neg hz] at htk
        have HTK := Lib.hid htk
        clear htk
        go_wp2_with fail
        go_roundw
        case rel => exact ⟨k + 1, by omega, by go_num, by rw [HTK.out]; exact HO.out, HB.out⟩
        case measure => simp [intOf]; omega
    · clear hb
      obtain rfl : k = ts.length := by omega
      rw [List.take_of_length_le (Nat.le_refl _)] at HO
      go_wp2_with fail
      go_ret
      exact ⟨_, rfl, HO.out.less HB2.out.size, below_tr HB2.out HB.out⟩

/-! ### the least load -/
theorem minF_take (m : Int) (xs : List Int) (k : Nat) (h : k < xs.length) : minF m (xs.take (k + 1)) = min (minF m (xs.take k)) xs[k] := by
  rw [List.take_succ_eq_append_getElem h, minF_snoc]
theorem minF_bdB (m : Int) (xs : List Int) (B : Int) (hm : -B ≤ m ∧ m ≤ B) (h : ∀ x ∈ xs, -B ≤ x ∧ x ≤ B) : -B ≤ minF m xs ∧ minF m xs ≤ B := by
  induction xs generalizing m with
  | nil => exact hm
  | cons x r ih =>
    have := h x (by simp)
    exact ih _ (by omega) (fun y hy => h y (by simp [hy]))
set_option maxRecDepth 100000 in
set_option maxHeartbeats 1000000 in
theorem Least_any (v : Value) (l : Ln) (w : World) (hs : Sl e3 3 w v l.ks) (hl : LnOk l) :
    Calls Try.prog 26 #[.agg #[.int .i64 l.x, .int .i64 l.z, v]] w fun e w' => e = .returned (.int .i64 (least l)) ∧ Below w.heap.size w w' := by
  have HH := Lib.hid (heights_any v l _ (hs.alloc (.cells #[.int .i64 l.x, .int .i64 l.z, v] 26)) hl)
  obtain ⟨A, c, rfl, hcap⟩ := hs.form
  have hn10 : (zs l).length ≤ 10 := by rw [zs_len]; exact hl.n1
  have hn0 : 0 < (zs l).length := by rw [zs_len]; exact hl.n0
  have HBD := Lib.hid (zs_bd hl)
  have z0 := hl.z0
  have z1 := hl.z1
  have E : Hid (least l = l.z - minF ((zs l).headD 0) (zs l) + 1) := rfl
  clear hs hl
  generalize zs l = ts at *
  have hhd : ts.headD 0 = ts[0] := by cases ts with | nil => simp at hn0 | cons x r => rfl
  rw [hhd] at E
  have HB0 := HBD.out _ (List.getElem_mem hn0)
  have HMB := Lib.hid (fun k => minF_bdB ts[0] (ts.take k) 20000 HB0 (fun x hx => HBD.out x (List.mem_of_mem_take hx)))
  have hpos : (0 : Int) < (ts.length : Int) := by omega
  clear hhd HB0
  go_enter Try.func26, Try.ntmps26
  go_wp2_with (go_at_call 98; refine HH.out.mono ?_; rintro e w2 ⟨r, rfl, ho, hb2⟩; have HSB := Lib.hid (ho.sl e1_len); obtain ⟨Ab, ct, rfl, hct⟩ := HSB.out.form; obtain ⟨b0, o0, rfl, hbt0, hc0⟩ := HSB.out.at1 hn0; rw [Nat.add_zero] at hc0; obtain ⟨m0, hm0⟩ : ∃ m, m = ts[0] := ⟨_, rfl⟩; rw [← hm0] at hc0 E HMB; clear hm0; have bx := fun j u hu => (At.new w #[.int .i64 l.x, .int .i64 l.z, .slice A l.ks.length c] 26 j u hu).below hb2; have hz := bx 1 _ rfl; have HZ := Lib.hid hz; clear hz bx; have HB2 := Lib.hid (below_tr (below_alloc1 _ _) hb2); clear hb2 ho)
  go_loopw [4, 5] (fun lo i wr => ∃ k : Nat, k ≤ ts.length ∧ i = .int .i64 k ∧ lo = .int .i64 (minF m0 (ts.take k)) ∧ Below w2.heap.size w2 wr) (fun _ i _ => ts.length - (intOf i).toNat)
  case atStart => exact ⟨0, Nat.zero_le _, rfl, rfl, Below.refl _ _⟩
  case round =>
    obtain ⟨k, hk, rfl, rfl, hb⟩ := hrel
    have HB := Lib.hid hb
    by_cases hlt : k < ts.length
    · obtain ⟨b1, o1, e1', _, cb1⟩ := (HSB.out.below hb).at1 (k := k) hlt
      injection e1' with e1'
      injection e1' with e11 e12
      subst e11; subst e12
      have HTK := Lib.hid (minF_take m0 ts k hlt)
      clear hb hc0
      generalize ts[k] = z at *
      generalize minF m0 (ts.take k) = m at *
      go_wp2_with fail
      go_roundw
      case rel => exact ⟨k + 1, by omega, by go_num, by rw [HTK.out]; congr 1; split <;> omega, HB.out⟩
      case measure => simp [intOf]; omega
    · clear hb hc0
      obtain rfl : k = ts.length := by omega
      obtain ⟨hz, _⟩ := HZ.out.below HB.out
      have hmb := HMB.out ts.length
      rw [List.take_of_length_le (Nat.le_refl _)] at hmb ⊢
      generalize minF m0 ts = m at *
      have hw1 : IntKind.i64.wrap (l.z - m) = l.z - m := IntWalk.i64_in _ (by omega)
      have hw2 : IntKind.i64.wrap (l.z - m + 1) = l.z - m + 1 := IntWalk.i64_in _ (by omega)
      go_wp2_with fail
      go_ret
      exact ⟨ret_int E.out.symm, below_tr HB2.out HB.out⟩
end Go.Proofs.Ytghglgaimhfedaa
