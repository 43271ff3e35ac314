/-
  Walks of chapter 1's lines: the least load.
-/
import Derived.Test.YtnodlldceojoaaaQI
import Derived.BigRegionIn
import Derived.Test.YtnodlldceojoaaaQL
namespace Go.Proofs.Ytnodlldceojoaaa
open Go.RowKit Go.Shelf
attribute [local go_sem] Oper.semAt_some wide_fn wide_depth round_fn round_depth

theorem minF_snoc (m : Int) (xs : List Int) (x : Int) : minF m (xs ++ [x]) = min (minF m xs) x := by
  induction xs generalizing m with
  | nil => rfl
  | cons y r ih => simp only [List.cons_append, minF, ih]
theorem minF_bd (m : Int) (xs : List Int) (h : -20000 ≤ m ∧ m ≤ 20000) (hx : ∀ x ∈ xs, -20000 ≤ x ∧ x ≤ 20000) : -20000 ≤ minF m xs ∧ minF m xs ≤ 20000 := by
  induction xs generalizing m with
  | nil => exact h
  | cons y r ih =>
    have := hx y (by simp)
    exact ih _ (by omega) (fun x hx' => hx x (by simp [hx']))
def minAcc (l : Ln) (pre : List (Nat × Int)) : Int := minF ((zs l).headD 0) (pre.map (·.2))
theorem minAcc_snoc (l : Ln) (pre : List (Nat × Int)) (i : Nat) (z : Int) : minAcc l (pre ++ [(i, z)]) = min (minAcc l pre) z := by unfold minAcc; rw [List.map_append]; exact minF_snoc _ _ _
theorem headD_zs (l : Ln) (h : 0 < l.ks.length) : (zs l).headD 0 = l.z + l.ks[0].2.1 := by
  unfold zs
  obtain ⟨x, z, ks⟩ := l
  cases ks with
  | nil => simp at h
  | cons k r => rfl
theorem headD_mem (l : Ln) (h : 0 < l.ks.length) : (zs l).headD 0 ∈ zs l := by
  unfold zs
  obtain ⟨x, z, ks⟩ := l
  cases ks with
  | nil => simp at h
  | cons k r => simp [zsF]
def leastLoad (l : Ln) : Int × Int := if lineErr l = 0 then (least l, 0) else (0, lineErr l)
theorem least_acc (l : Ln) : l.z - minAcc l (lifts l) + 1 = least l := by unfold least minAcc; rw [lifts_zs]

end Go.Proofs.Ytnodlldceojoaaa

namespace Go.Proofs.Ytnodlldceojoaaa
open Go.RowKit Go.Shelf
attribute [local go_sem] monoUpon_value monoUpon_skip monoUpon_enter

theorem rangeErr_size1 {r : Int × Int} (h : inR 50 r.1 = false) : rangeErr 50 r = 2 := by unfold rangeErr; simp [h]
theorem rangeErr_size2 {r : Int × Int} (h : inR 50 r.2 = false) : rangeErr 50 r = 2 := by unfold rangeErr; simp [h]
theorem rangeErr_order {r : Int × Int} (h : inR 50 r.1 = true) (h' : inR 50 r.2 = true) : rangeErr 50 r = if r.2 < r.1 then 9 else 0 := by unfold rangeErr; simp [h, h']
set_option maxRecDepth 100000 in
set_option maxHeartbeats 1000000 in
theorem rCheckBox_any (v u : Value) (l : Ln) (b : List (Int × Int)) (w : World) (hs : Sl e3 3 w v l.ks) (hu : Sl e2 2 w u b) (hbig' : b.length ≤ 1000) :
    Calls Try.prog 97 #[.agg #[.int .i64 l.x, .int .i64 l.z, v], u] w fun e w' => e = .returned (.tuple #[.int .i64 (boxErr1 l b).1, .int .i64 (boxErr1 l b).2]) ∧ Below w.heap.size w w' := by
  obtain ⟨A, c, rfl, hcap⟩ := hs.form
  obtain ⟨A', c', rfl, hcap'⟩ := hu.form
  have HU := Lib.hid hu
  clear hs hu
  by_cases h2 : b.length = l.ks.length
  · have E : Hid (boxErr1 l b = fb (rangeErr 50) (b.drop 0) 0) := if_pos h2
    have h2' := lenb h2
    clear h2
    go_enter Try.func97, Try.ntmps97
    go_wp2_with fail
    go_loopw [6] (fun i wr => ∃ k : Nat, k ≤ b.length ∧ i = .int .i64 k ∧ fb (rangeErr 50) (b.drop k) k = fb (rangeErr 50) (b.drop 0) 0 ∧ Below w.heap.size w wr) (fun i _ => b.length - (intOf i).toNat)
    case atStart => exact ⟨0, Nat.zero_le _, rfl, rfl, below_alloc1 _ _⟩
    case round =>
      obtain ⟨k, hk, rfl, hfb, hb⟩ := hrel
      have HF := Lib.hid hfb
      have HB := Lib.hid hb
      clear hfb
      by_cases hlt : k < b.length
      · obtain ⟨bb, off, rfl, hbl, hc0, hc1⟩ := (HU.out.below hb).at2 hlt
        have hd := fb_drop (rangeErr 50) b k hlt
        clear hb
        generalize b[k] = r at *
        obtain ⟨r1, r2⟩ := r
        simp only at *
        cases hy : inR 50 r1
        · rw [rangeErr_size1 (r := (r1, r2)) hy, if_neg (by decide)] at hd
          have HD := Lib.hid hd
          go_wp2_with (go_at_call 84; refine (isCurrent_any _ _).mono ?_; rintro e w' ⟨rfl, rfl⟩)
          go_ret2
          exact ⟨ret_pair' (by rw [E.out, ← HF.out, HD.out]), HB.out⟩
        · cases hy2 : inR 50 r2
          · rw [rangeErr_size2 (r := (r1, r2)) hy2, if_neg (by decide)] at hd
            have HD := Lib.hid hd
            go_wp2_with (go_at_call 84; refine (isCurrent_any _ _).mono ?_; rintro e w' ⟨rfl, rfl⟩)
            go_ret2
            exact ⟨ret_pair' (by rw [E.out, ← HF.out, HD.out]), HB.out⟩
          · rw [rangeErr_order (r := (r1, r2)) hy hy2] at hd
            simp only at hd
            by_cases hlo : r2 < r1
            · rw [if_pos hlo, if_neg (by decide)] at hd
              have HD := Lib.hid hd
              clear hd
              go_wp2_with (go_at_call 84; refine (isCurrent_any _ _).mono ?_; rintro e w' ⟨rfl, rfl⟩)
              go_quiet (fail)
              go_wp2_with fail
              go_ret2
              exact ⟨ret_pair' (by rw [E.out, ← HF.out, HD.out]), below_drN HB.out _⟩
            · rw [if_neg hlo, if_pos rfl] at hd
              have HD := Lib.hid hd
              clear hd
              go_wp2_with (go_at_call 84; refine (isCurrent_any _ _).mono ?_; rintro e w' ⟨rfl, rfl⟩)
              go_quiet (fail)
              go_wp2_with fail
              go_roundw
              case rel => exact ⟨k + 1, by omega, by go_num, by rw [← HF.out, HD.out], below_drN HB.out _⟩
              case measure => simp [intOf]; omega
      · clear hb
        obtain rfl : k = b.length := by omega
        go_wp2_with fail
        go_ret2
        exact ⟨ret_pair' (by rw [E.out, ← HF.out, fb_end _ _ _ (Nat.le_refl _)]), HB.out⟩
  · have E : Hid (boxErr1 l b = (0, 10)) := if_neg h2
    have h2' := lenb' h2
    clear h2
    go_enter Try.func97, Try.ntmps97
    go_wp2_with fail
    go_ret2
    exact ⟨ret_pair' E.out, below_alloc1 _ _⟩

/-! ### heights -/
theorem tensF_zs (x z : Int) (ks : List Lk) (c : List Int) (h : c.length = ks.length) : (tensF x z ks c).map (·.2) = zsF z ks := by
  induction ks generalizing x z c with
  | nil => cases c <;> rfl
  | cons k r ih =>
    cases c with
    | nil => simp at h
    | cons n c => simp only [tensF, List.map_cons, zsF]; rw [ih _ _ c (by simpa using h)]
theorem tens_zs (l : Ln) (c : List Int) (h : c.length = l.ks.length) : (tens l c).map (·.2) = zs l := tensF_zs _ _ _ _ h
theorem run_made1 (w : World) (n : Nat) (hn : n ≤ 1000) : ∃ w', (Instr.makeSlice 27 (.int .i64 (n : Int)) (.int .i64 (n : Int))).run Try.prog w = .ok (.slice (some ⟨w.heap.size, 0, none⟩) n n) w' ∧ Sl e1 1 w' (.slice (some ⟨w.heap.size, 0, none⟩) n n) (List.replicate n 0) ∧ Below w.heap.size w w' := by
  obtain ⟨i0, hi, hz0, hz1, hz2⟩ := info_parts intinfo
  have h := run_make (P := Try.prog) w 27 3 i0 _ (by kernel_rfl) hi hz0 .i64 .i64 n n (by omega) (Int.le_refl _) (by rw [hz2]; omega) (by omega)
  rw [hz1] at h
  simp only [Int.toNat_natCast, Nat.mul_one] at h
  refine ⟨_, h, ⟨some ⟨w.heap.size, 0, none⟩, n, by simp, by simp, fun _ => ⟨w.heap.size, 0, rfl, by simp, fun k hk j hj => ?_⟩⟩, below_alloc1 _ _⟩
  obtain rfl : j = 0 := by omega
  have hk' : k < n := by simpa using hk
  refine (cell_of_row _ _ _ _ _ _ (heap_alloc_new w _)).trans ?_
  simp [madeCells, Value.cells, e1, hk', List.getElem_replicate, Nat.mod_one]
theorem mono_make {P : Program} {o : Oper} {a : Act} {w w' : World} {R : Value → World → Prop} {n m : Operand} {t : TypeId} {vn vm v' : Value} (ho : o.op = .makeSlice t n m)
    (hn : a.eval n = vn) (hm : a.eval m = vm) (hrun : (Instr.makeSlice t vn vm).run P w = .ok v' w') (h : R v' w') : mono P o a w R := by
  refine ⟨?_⟩
  unfold execOp
  simp only [ho, Sem.run_bind, Sem.run_pure, Result.andThen_ok, hn, hm, hrun]
  exact h
set_option maxRecDepth 100000 in
set_option maxHeartbeats 1000000 in
theorem heights_any (v : Value) (l : Ln) (w : World) (hs : Sl e3 3 w v l.ks) (hl : LnOk l) :
    Calls Try.prog 99 #[.agg #[.int .i64 l.x, .int .i64 l.z, v]] w fun e w' => ∃ r, e = .returned r ∧ Ow e1 1 3 w.heap.size w' r (zs l) ∧ Below w.heap.size w w' := by
  obtain ⟨i0, hi, hz0, hz1, hz2⟩ := info_parts intinfo
  obtain ⟨A, c, rfl, hcap⟩ := hs.form
  have HS := Lib.hid hs
  have hn1 := hl.n1
  have HM := Lib.hid (fun w => run_made1 w l.ks.length (by omega))
  have HT : Hid (∀ u w, Sl e3 3 w (.slice A l.ks.length c) l.ks → Sl e1 1 w u (List.replicate l.ks.length 0) → Calls Try.prog 86 #[.agg #[.int .i64 l.x, .int .i64 l.z, .slice A l.ks.length c], u] w fun e w' => ∃ r, e = .returned r ∧ Sl e2 2 w' r (tens l (List.replicate l.ks.length 0)) ∧ Below w.heap.size w w') := fun u w h1 h2 =>
    (Tensions_any _ u l _ w h1 h2 hl ⟨by simp, fun n hn => by have := List.eq_of_mem_replicate hn; omega⟩).mono fun e w' ⟨r, a, b, c⟩ => ⟨r, a, b.sl e2_len, c⟩
  have HZ := Lib.hid (tens_zs l (List.replicate l.ks.length 0) (by simp))
  have htl : (tens l (List.replicate l.ks.length 0)).length = l.ks.length := tens_len _ _ (by simp)
  have hn10 : (tens l (List.replicate l.ks.length 0)).length ≤ 10 := by omega
  have HTL := Lib.hid htl
  clear hs hl htl
  generalize tens l (List.replicate l.ks.length 0) = ts at *
  go_enter Try.func99, Try.ntmps99
  go_wp2_with fail
  obtain ⟨W0, hW0⟩ : ∃ W0, W0 = w.alloc (.cells #[.int .i64 l.x, .int .i64 l.z, .slice A l.ks.length c] 26) := ⟨_, rfl⟩
  rw [← hW0]
  have HX : Hid (∀ W, Below W0.drew.heap.size W0.drew W → (At W ⟨w.heap.size, 0, none⟩ (.int .i64 l.x) ∧ At W ⟨w.heap.size, 1, none⟩ (.int .i64 l.z) ∧ At W ⟨w.heap.size, 2, none⟩ (.slice A l.ks.length c)) ∧ Sl e3 3 W (.slice A l.ks.length c) l.ks ∧ Below w.heap.size w W) := by
    intro W h
    rw [hW0] at h
    have bx := fun j v hv => (At.new w #[.int .i64 l.x, .int .i64 l.z, .slice A l.ks.length c] 26 j v hv).drew.below h
    have hb : Below w.heap.size w W := below_tr (below_alloc1 _ _) (Below.trans (Below.drew (Below.refl _ _)) h)
    exact ⟨⟨bx 0 _ rfl, bx 1 _ rfl, bx 2 _ rfl⟩, HS.out.below hb, hb⟩
  clear hW0
  refine wp_region_mono 6 [6, 7, 8, 9, 10, 11] [[], [], [1], [2], [3], [0, 4]] [fun v _ => v = .agg #[.int .i64 l.x, .int .i64 l.z, .slice A l.ks.length c], fun v _ => v = .pointer (some ⟨w.heap.size, 2, none⟩), fun v _ => v = .slice A l.ks.length c, fun v _ => v = .int .i64 l.ks.length, fun v w => Sl e1 1 w v (List.replicate l.ks.length 0), fun v w => Sl e2 2 w v ts] (by kernel_rfl) (by kernel_rfl) ⟨st_eq _, st_eq _, st_eq _, st_eq _, st_sl _ _ _, st_sl _ _ _, trivial⟩ ?_ ?_
  · simp only [List.take_succ_cons, List.take_zero, steps, and_true]
    refine ⟨?_, ?_, ?_, ?_, ?_, ?_⟩
    · intro x W hB _; simp only [putX, setX, List.foldl_cons, List.foldl_nil]; obtain ⟨⟨⟨c0, _⟩, ⟨c1, _⟩, ⟨c2, _⟩⟩, _⟩ := HX.out W hB; refine ⟨?_⟩; go_simp; exact ⟨rfl, Below.refl _ _⟩
    · intro x W hB _; simp only [putX, setX, List.foldl_cons, List.foldl_nil]; refine ⟨?_⟩; go_simp; exact ⟨rfl, Below.refl _ _⟩
    · intro x W hB hN; simp only [needs, sAt, dAt] at hN; simp only [putX, setX, List.foldl_cons, List.foldl_nil]; obtain ⟨⟨⟨c0, _⟩, ⟨c1, _⟩, ⟨c2, _⟩⟩, _⟩ := HX.out W hB; refine ⟨?_⟩; go_simp; exact ⟨rfl, Below.refl _ _⟩
    · intro x W hB hN; simp only [needs, sAt, dAt] at hN; simp only [putX, setX, List.foldl_cons, List.foldl_nil]; refine ⟨?_⟩; go_simp; exact ⟨rfl, Below.refl _ _⟩
    · intro x W hB hN; simp only [needs, sAt, dAt] at hN; simp only [putX, setX, List.foldl_cons, List.foldl_nil]; obtain ⟨w', hrun, hsl, hbw⟩ := HM.out W; exact mono_make rfl (by go_simp) (by go_simp) hrun ⟨hsl, hbw⟩
    · intro x W hB hN; simp only [needs, sAt, dAt] at hN; simp only [putX, setX, List.foldl_cons, List.foldl_nil]; refine ⟨?_⟩; go_simp; refine (HT.out _ _ (HX.out W hB).2.1 hN.2.1).mono ?_; rintro e w' ⟨r, rfl, hr, hb⟩; exact ⟨_, rfl, hr, hb⟩
  · intro y W hB hA
    simp only [allSp] at hA
    have q1 := hA.2.2.2.2.2.1
    obtain ⟨Ar, cr, e8, _⟩ := q1.form
    rw [e8] at q1
    have HSB := Lib.hid q1
    have HBW := Lib.hid (HX.out W hB).2.2
    clear hA hB q1
    simp only [putX, setX, List.foldl_cons, List.foldl_nil, List.drop_succ_cons, List.drop_zero, e8, List.setIfInBounds_toArray, List.set_cons_succ, List.set_cons_zero]
    go_wp2_with fail
    go_loopw [3, 5] (fun r i wr => ∃ k : Nat, k ≤ ts.length ∧ i = .int .i64 k ∧ Ow e1 1 3 W.heap.size wr r ((zs l).take k) ∧ Below W.heap.size W wr) (fun _ i _ => ts.length - (intOf i).toNat)
    case atStart => exact ⟨0, Nat.zero_le _, rfl, Ow.nil _ _ _ _ _, Below.refl _ _⟩
    case round =>
      obtain ⟨k, hk, rfl, hown, hb⟩ := hrel
      have HO := Lib.hid hown
      have HB := Lib.hid hb
      clear hown
      by_cases hlt : k < ts.length
      · obtain ⟨bt, ot, rfl, hbt, hc0, hc1⟩ := (HSB.out.below hb).at2 hlt
        have hzl : k < (zs l).length := by rw [zs_len, ← HTL.out]; exact hlt
        have hlen : ((zs l).take k).length ≤ k := List.length_take_le _ _
        have HTK := Lib.hid (List.take_succ_eq_append_getElem (l := zs l) (i := k) hzl)
        have HZK : Hid ((zs l)[k] = ts[k].2) := by
          have h : (zs l)[k]? = (ts.map (·.2))[k]? := by rw [HZ.out]
          rw [List.getElem?_eq_getElem hzl, List.getElem?_map, List.getElem?_eq_getElem hlt] at h
          exact Option.some.inj h
        clear hb
        generalize ts[k] = t at *
        obtain ⟨t1, t2⟩ := t
        simp only at *
        have HO7 : Hid (World.ownsRow (wr.alloc (.cells #[.int .i64 t2] 3)) W.heap.size 3 1 u3 ((zs l).take k).length (((zs l).take k).flatMap e1)) := HO.out.own.alloc _
        go_wp2_with (at_builtin; refine wpList_append_own _ rfl _ _ 27 rfl W.heap.size 3 i0 _ 1 8 Try.underlying27 hi hz0 hz1 hz2 rfl (by decide) _ _ _ rfl HO7.out ⟨_, 0, none⟩ 1 1 (e1 t2) rfl rfl (cells_new _ _ _) (e1_one _) (by simp only [maxLen]; omega) (by omega) (by simp; have := HB.out.size; omega) ?_; intro v1 w6 hown1 hg1 _; have HO6 := Lib.hid hown1; have HG := Lib.hid hg1; clear hown1 hg1)
        go_roundw
        case rel => exact ⟨k + 1, by omega, by go_num, by rw [HTK.out, HZK.out]; exact Ow.snoc HO6.out, (HO.out.alloc _).grown HG.out (below_al HB.out _) (Nat.le_refl _)⟩
        case measure => simp [intOf]; omega
      · clear hb
        obtain rfl : k = ts.length := by omega
        have hfin : (zs l).take ts.length = zs l := List.take_of_length_le (by rw [zs_len, ← HTL.out]; exact Nat.le_refl _)
        rw [hfin] at HO
        go_wp2_with fail
        go_ret
        exact ⟨_, rfl, HO.out.less HBW.out.size, below_tr HBW.out HB.out⟩
end Go.Proofs.Ytnodlldceojoaaa

namespace Go.Proofs.Ytnodlldceojoaaa
open Go.RowKit Go.Shelf
attribute [local go_sem] monoUpon_value monoUpon_skip monoUpon_enter

theorem slackF_take (xs : List Int) (k : Nat) (h : k < xs.length) : slackF (xs.take (k + 1)) 0 = if xs[k] ≤ 0 then slackF (xs.take k) 0 ++ [(k : Int)] else slackF (xs.take k) 0 := by
  rw [slackF_acc, slackF_acc, List.take_succ_eq_append_getElem h, List.zipIdx_append, List.filter_append, List.map_append]
  have hl : (xs.take k).length = k := by rw [List.length_take]; omega
  rw [hl]
  by_cases hz : xs[k] ≤ 0 <;> simp [hz]
theorem slackF_len (xs : List Int) (k : Nat) : (slackF xs k).length ≤ xs.length := by
  induction xs generalizing k with
  | nil => exact Nat.le_refl _
  | cons z r ih =>
    have := ih (k + 1)
    rw [slackF]
    split
    · simp only [List.length_cons]; omega
    · simp only [List.length_cons]; omega
set_option maxRecDepth 100000 in
set_option maxHeartbeats 1000000 in
theorem Slack_any (v : Value) (l : Ln) (w : World) (hs : Sl e3 3 w v l.ks) (hl : LnOk l) :
    Calls Try.prog 85 #[.agg #[.int .i64 l.x, .int .i64 l.z, v]] w fun e w' => ∃ r, e = .returned r ∧ Ow e1 1 3 w.heap.size w' r (slack l) ∧ Below w.heap.size w w' := by
  obtain ⟨i0, hi, hz0, hz1, hz2⟩ := info_parts intinfo
  have HH := Lib.hid (heights_any v l _ (hs.alloc (.cells #[.int .i64 l.x, .int .i64 l.z, v] 26)) hl)
  obtain ⟨A, c, rfl, hcap⟩ := hs.form
  have hn10 : (zs l).length ≤ 10 := by rw [zs_len]; exact hl.n1
  have E : Hid (slack l = slackF (zs l) 0) := rfl
  clear hs hl
  rw [E.out]
  clear E
  generalize zs l = ts at *
  go_enter Try.func85, Try.ntmps85
  go_wp2_with (go_at_call 99; refine HH.out.mono ?_; rintro e w2 ⟨r, rfl, ho, hb2⟩; have HSB := Lib.hid (ho.sl e1_len); obtain ⟨Ab, ct, rfl, hct⟩ := HSB.out.form; have HB2 := Lib.hid (below_tr (below_alloc1 _ _) hb2); clear hb2 ho)
  go_loopw [3, 5] (fun r i wr => ∃ k : Nat, k ≤ ts.length ∧ i = .int .i64 k ∧ Ow e1 1 3 w2.heap.size wr r (slackF (ts.take k) 0) ∧ Below w2.heap.size w2 wr) (fun _ i _ => ts.length - (intOf i).toNat)
  case atStart => exact ⟨0, Nat.zero_le _, rfl, Ow.nil _ _ _ _ _, Below.refl _ _⟩
  case round =>
    obtain ⟨k, hk, rfl, hown, hb⟩ := hrel
    have HO := Lib.hid hown
    have HB := Lib.hid hb
    clear hown
    by_cases hlt : k < ts.length
    · obtain ⟨bt, ot, rfl, hbt, hc0⟩ := (HSB.out.below hb).at1 hlt
      have hlen : (slackF (ts.take k) 0).length ≤ k := Nat.le_trans (slackF_len _ _) (List.length_take_le _ _)
      have htk := slackF_take ts k hlt
      clear hb
      generalize ts[k] = z at *
      have hwz := HB.out.size
      by_cases hz : z ≤ 0
      · rw [if_pos hz] at htk
        have HTK := Lib.hid htk
        clear htk
        have HO7 : Hid (World.ownsRow (wr.alloc (.cells #[.int .i64 k] 3)) w2.heap.size 3 1 u3 (slackF (ts.take k) 0).length ((slackF (ts.take k) 0).flatMap e1)) := HO.out.own.alloc _
        go_wp2_with (at_builtin; refine wpList_append_own _ rfl _ _ 27 rfl w2.heap.size 3 i0 _ 1 8 Try.underlying27 hi hz0 hz1 hz2 rfl (by decide) _ _ _ rfl HO7.out ⟨_, 0, none⟩ 1 1 (e1 k) rfl rfl (cells_new _ _ _) (e1_one _) (by simp only [maxLen]; omega) (by omega) (by simp; omega) ?_; intro v1 w6 hown1 hg1 _; have HO6 := Lib.hid hown1; have HG := Lib.hid hg1; clear hown1 hg1)
        go_roundw
        case rel => exact ⟨k + 1, by omega, by go_num, by rw [HTK.out]; exact Ow.snoc HO6.out, (HO.out.alloc _).grown HG.out (below_al HB.out _) (Nat.le_refl _)⟩
        case measure => simp [intOf]; omega
      · rw [if_neg hz] at htk
        have HTK := Lib.hid htk
        clear htk
        go_wp2_with fail
        go_roundw
        case rel => exact ⟨k + 1, by omega, by go_num, by rw [HTK.out]; exact HO.out, HB.out⟩
        case measure => simp [intOf]; omega
    · clear hb
      obtain rfl : k = ts.length := by omega
      rw [List.take_of_length_le (Nat.le_refl _)] at HO
      go_wp2_with fail
      go_ret
      exact ⟨_, rfl, HO.out.less HB2.out.size, below_tr HB2.out HB.out⟩

/-! ### the least load -/
theorem minF_take (m : Int) (xs : List Int) (k : Nat) (h : k < xs.length) : minF m (xs.take (k + 1)) = min (minF m (xs.take k)) xs[k] := by
  rw [List.take_succ_eq_append_getElem h, minF_snoc]
theorem minF_bdB (m : Int) (xs : List Int) (B : Int) (hm : -B ≤ m ∧ m ≤ B) (h : ∀ x ∈ xs, -B ≤ x ∧ x ≤ B) : -B ≤ minF m xs ∧ minF m xs ≤ B := by
  induction xs generalizing m with
  | nil => exact hm
  | cons x r ih =>
    have := h x (by simp)
    exact ih _ (by omega) (fun y hy => h y (by simp [hy]))
end Go.Proofs.Ytnodlldceojoaaa
