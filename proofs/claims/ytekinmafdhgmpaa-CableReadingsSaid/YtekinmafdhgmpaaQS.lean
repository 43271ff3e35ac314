/-
  Walks of the reference of readings: their errors, a copy, the distance of ranges.
-/
import Derived.Test.YtekinmafdhgmpaaQR
import Derived.Test.YtekinmafdhgmpaaZOd
namespace Go.Proofs.Ytekinmafdhgmpaa
open Go.RowKit Go.Shelf
attribute [local go_sem] monoUpon_value monoUpon_skip monoUpon_enter

theorem readinfo : (Try.prog.info? 63).map (fun i => (i.zero, i.size, i.bytes)) = some (some (.agg #[.int .i64 0, .int .i64 0, .int .i64 0]), 3, 24) := by kernel_rfl
set_option maxHeartbeats 400000 in
theorem CopyReadings_any (v : Value) (xs : List Rd) (w : World) (hs : Sl e3 3 w v xs) (hbig : xs.length ≤ 1000) :
    Calls Try.prog 14 #[v] w fun e w' => ∃ r, e = .returned r ∧ Ow e3 3 63 w.heap.size w' r xs ∧ Below w.heap.size w w' := by
  have HS := Lib.hid hs
  obtain ⟨A, c, rfl, hcap⟩ := hs.form
  obtain ⟨i0, hi, hz0, hz1, hz2⟩ := info_parts readinfo
  have ho : Ow e3 3 63 w.heap.size (w.alloc (.cells #[] 63)) (.slice (some ⟨w.heap.size, 0, none⟩) 0 0) [] := Ow.lit w #[] [] (Nat.le_refl _) (by simp) rfl rfl
  have HO := Lib.hid ho
  clear hs ho
  go_enter Try.func14, Try.ntmps14
  go_wp2_with (at_builtin; refine wpList_append_sl _ rfl _ _ 28 rfl w.heap.size 63 i0 _ 3 24 Try.underlying28 hi hz0 hz1 hz2 rfl (by decide) e3_len e3_one _ [] rfl HO.out _ _ _ xs rfl (HS.out.alloc _) (by simp; omega) (by decide) (by simp) ?_; intro v1 w2 hown1 hg1; have HO2 := Lib.hid hown1; have HG := Lib.hid hg1; clear hown1 hg1)
  go_ret
  exact ⟨_, rfl, by simpa using HO2.out, HO.out.grown HG.out (below_alloc1 _ _) (Nat.le_refl _)⟩
set_option maxHeartbeats 1000000 in
theorem distance_any (a b : Int × Int) (w : World) (h1 : -1000000 ≤ a.1 ∧ a.1 ≤ 1000000) (h2 : -1000000 ≤ a.2 ∧ a.2 ≤ 1000000) (h3 : -1000000 ≤ b.1 ∧ b.1 ≤ 1000000) (h4 : -1000000 ≤ b.2 ∧ b.2 ≤ 1000000) :
    Calls Try.prog 107 #[.agg #[.int .i64 a.1, .int .i64 a.2], .agg #[.int .i64 b.1, .int .i64 b.2]] w fun e w' => e = .returned (.int .i64 (distR a b)) ∧ Below w.heap.size w w' := by
  have hw1 : IntKind.i64.wrap (a.1 - b.2) = a.1 - b.2 := IntWalk.i64_in _ (by omega)
  have hw2 : IntKind.i64.wrap (b.1 - a.2) = b.1 - a.2 := IntWalk.i64_in _ (by omega)
  have E : Hid (distR a b = max (a.1 - b.2) (b.1 - a.2)) := rfl
  obtain ⟨a1, a2⟩ := a
  obtain ⟨b1, b2⟩ := b
  simp only at *
  clear h1 h2 h3 h4
  go_enter Try.func107, Try.ntmps107
  go_wp2_with fail
  all_goals
    go_ret
    exact ⟨ret_int (by have := E.out; omega), (by repeat (first | assumption | exact Below.refl _ _ | refine below_al ?_ _ | refine below_dr ?_ | refine below_tr ?_ (by assumption)))⟩
theorem rd_size1 {r : Int × Int} (h : inB r.1 (-20000) 20000 = false) : rangeErr 20000 r = 2 := by unfold rangeErr inR; simp [h]
theorem rd_size2 {r : Int × Int} (h : inB r.2 (-20000) 20000 = false) : rangeErr 20000 r = 2 := by unfold rangeErr inR; simp [h]
theorem rd_order {r : Int × Int} (h : inB r.1 (-20000) 20000 = true) (h' : inB r.2 (-20000) 20000 = true) : rangeErr 20000 r = if r.2 < r.1 then 9 else 0 := by unfold rangeErr inR; simp [h, h']
set_option maxRecDepth 100000 in
set_option maxHeartbeats 4000000 in
theorem rReadingsErr_any (v t : Value) (l : Ln) (r : List Rd) (w : World) (hs : Sl e3 3 w v l.ks) (ht : Sl e3 3 w t r) (hl : LnOk l) :
    Calls Try.prog 19 #[.agg #[.int .i64 l.x, .int .i64 l.z, v], t] w fun e w' => e = .returned (.int .i64 (rdsErr l r)) ∧ Below w.heap.size w w' := by
  obtain ⟨A, c, rfl, hcap⟩ := hs.form
  obtain ⟨A', c', rfl, hcap'⟩ := ht.form
  have HT := Lib.hid ht
  have hn1 := hl.n1
  clear hs ht hl
  by_cases h2 : 12 < r.length
  · have E : Hid (rdsErr l r = 8) := if_pos h2
    have d1 : (12 : Int) < (r.length : Int) := by omega
    have d1' : decide ((12 : Int) < (r.length : Int)) = true := decide_eq_true d1
    clear h2
    go_enter Try.func19, Try.ntmps19
    go_wp2_with fail
    go_ret
    exact ⟨ret_int E.out.symm, below_alloc1 _ _⟩
  · have E : Hid (rdsErr l r = (fb (rdErr l.ks.length) (r.drop 0) 0).2) := if_neg h2
    have d1 : ¬ (12 : Int) < (r.length : Int) := by omega
    have d1' : decide ((12 : Int) < (r.length : Int)) = false := decide_eq_false d1
    clear h2
    have hw0 : IntKind.i64.wrap ((l.ks.length : Int) - 1) = (l.ks.length : Int) - 1 := IntWalk.i64_in _ (by omega)
    have HWI := Lib.hid (fun (n lo hi : Int) (w : World) => Within_any n lo hi w)
    go_enter Try.func19, Try.ntmps19
    go_wp2_with fail
    go_loopw [6] (fun i wr => ∃ k : Nat, k ≤ r.length ∧ i = .int .i64 k ∧ (fb (rdErr l.ks.length) (r.drop k) k).2 = (fb (rdErr l.ks.length) (r.drop 0) 0).2 ∧ Below (w.alloc (.cells #[.int .i64 l.x, .int .i64 l.z, .slice A l.ks.length c] 26)).heap.size (w.alloc (.cells #[.int .i64 l.x, .int .i64 l.z, .slice A l.ks.length c] 26)) wr) (fun i _ => r.length - (intOf i).toNat)
    case atStart => exact ⟨0, Nat.zero_le _, rfl, rfl, Below.refl _ _⟩
    case round =>
      obtain ⟨k, hk, rfl, hfb, hb⟩ := hrel
      have HF := Lib.hid hfb
      have HB := Lib.hid (below_tr (below_alloc1 _ _) hb)
      have HB0 := Lib.hid hb
      clear hfb hb
      by_cases hlt : k < r.length
      · obtain ⟨bb, off, rfl, hbl, hc0, hc1, hc2⟩ := (HT.out.below HB.out).at3 hlt
        have HTK := Lib.hid (fun W (h : Below w.heap.size w W) => (HT.out.below h).at3 (k := k) hlt)
        have hd := congrArg Prod.snd (fb_drop (rdErr l.ks.length) r k hlt)
        have hkl : (k : Int) < (r.length : Int) := by omega
        have hk0 : (0 : Int) ≤ (k : Int) := by omega
        generalize r[k] = y at *
        obtain ⟨y0, y1, y2⟩ := y
        simp only at hc0 hc1 hc2 HTK
        have HX : Hid (∀ W, Below wr.drew.heap.size wr.drew W → (W.cell? ⟨bb, off + k * 3, none⟩ = some (.int .i64 y0) ∧ W.cell? ⟨bb, off + k * 3 + 1, none⟩ = some (.int .i64 y1) ∧ W.cell? ⟨bb, off + k * 3 + 2, none⟩ = some (.int .i64 y2)) ∧ W.cell? ⟨w.heap.size, 2, none⟩ = some (.slice A l.ks.length c) ∧ Below (w.alloc (.cells #[.int .i64 l.x, .int .i64 l.z, .slice A l.ks.length c] 26)).heap.size (w.alloc (.cells #[.int .i64 l.x, .int .i64 l.z, .slice A l.ks.length c] 26)) W) := by
          intro W h
          have h' := below_tr HB0.out (Below.trans (Below.drew (Below.refl _ _)) h)
          obtain ⟨_, _, ep, _, c0, c1, c2⟩ := HTK.out W (below_tr (below_alloc1 _ _) h')
          injection ep with ep
          injection ep with ep1 ep2
          subst ep1; subst ep2
          exact ⟨⟨c0, c1, c2⟩, ((At.new w #[.int .i64 l.x, .int .i64 l.z, .slice A l.ks.length c] 26 2 _ rfl).below h').1, h'⟩
        clear hc0 hc1 hc2 HTK
        obtain ⟨bw, hbw⟩ : ∃ bw, bw = inB y0 0 ((l.ks.length : Int) - 1) := ⟨_, rfl⟩
        have HBW := Lib.hid hbw
        clear hbw
        go_wp2_with fail
        refine wp_region_mono 10 [16, 17, 18, 19, 20, 21, 22, 23, 24, 25] [[], [], [0, 1], [2], [3], [], [5], [6], [7], [4, 8]] [fun v _ => v = .slice (some ⟨bb, off, none⟩) r.length c', fun v _ => v = .int .i64 k, fun v _ => v = .pointer (some ⟨bb, off + k * 3, none⟩), fun v _ => v = .pointer (some ⟨bb, off + k * 3, none⟩), fun v _ => v = .int .i64 y0, fun v _ => v = .pointer (some ⟨w.heap.size, 2, none⟩), fun v _ => v = .slice A l.ks.length c, fun v _ => v = .int .i64 l.ks.length, fun v _ => v = .int .i64 ((l.ks.length : Int) - 1), fun v _ => v = .bool bw] (by kernel_rfl) (by kernel_rfl) ⟨st_eq _, st_eq _, st_eq _, st_eq _, st_eq _, st_eq _, st_eq _, st_eq _, st_eq _, st_eq _, trivial⟩ ?_ ?_
        · simp only [List.take_succ_cons, List.take_zero, steps, and_true]
          refine ⟨?_, ?_, ?_, ?_, ?_, ?_, ?_, ?_, ?_, ?_⟩
          · intro x W hB _; simp only [putX, setX, List.foldl_cons, List.foldl_nil]; refine ⟨?_⟩; go_simp; exact ⟨rfl, Below.refl _ _⟩
          · intro x W hB _; simp only [putX, setX, List.foldl_cons, List.foldl_nil]; refine ⟨?_⟩; go_simp; exact ⟨rfl, Below.refl _ _⟩
          · intro x W hB hN; simp only [needs, sAt, dAt] at hN; simp only [putX, setX, List.foldl_cons, List.foldl_nil]; refine ⟨?_⟩; go_simp; exact ⟨rfl, Below.refl _ _⟩
          · intro x W hB hN; simp only [needs, sAt, dAt] at hN; simp only [putX, setX, List.foldl_cons, List.foldl_nil]; refine ⟨?_⟩; go_simp; exact ⟨rfl, Below.refl _ _⟩
          · intro x W hB hN; simp only [needs, sAt, dAt] at hN; simp only [putX, setX, List.foldl_cons, List.foldl_nil]; obtain ⟨⟨c0, c1, c2⟩, _⟩ := HX.out W hB; refine ⟨?_⟩; go_simp; exact ⟨rfl, Below.refl _ _⟩
          · intro x W hB _; simp only [putX, setX, List.foldl_cons, List.foldl_nil]; refine ⟨?_⟩; go_simp; exact ⟨rfl, Below.refl _ _⟩
          · intro x W hB hN; simp only [needs, sAt, dAt] at hN; simp only [putX, setX, List.foldl_cons, List.foldl_nil]; obtain ⟨_, c0, _⟩ := HX.out W hB; refine ⟨?_⟩; go_simp; exact ⟨rfl, Below.refl _ _⟩
          · intro x W hB hN; simp only [needs, sAt, dAt] at hN; simp only [putX, setX, List.foldl_cons, List.foldl_nil]; refine ⟨?_⟩; go_simp; exact ⟨rfl, Below.refl _ _⟩
          · intro x W hB hN; simp only [needs, sAt, dAt] at hN; simp only [putX, setX, List.foldl_cons, List.foldl_nil]; refine ⟨?_⟩; go_simp; exact ⟨rfl, Below.refl _ _⟩
          · intro x W hB hN; simp only [needs, sAt, dAt] at hN; simp only [putX, setX, List.foldl_cons, List.foldl_nil]; refine ⟨?_⟩; go_simp; refine (HWI.out _ _ _ _).mono ?_; rintro e w' ⟨rfl, rfl⟩; exact ⟨_, rfl, congrArg Value.bool HBW.out.symm, Below.refl _ _⟩
        · intro x W hB hA
          simp only [allSp] at hA
          have s1 := hA.2.2.2.2.2.2.2.2.2.1
          obtain ⟨⟨c0, c1, c2⟩, _, hbW⟩ := HX.out W hB
          have HBL := Lib.hid hbW
          have HBM := Lib.hid (below_tr (below_alloc1 _ _) hbW)
          clear hA hB HX hbW
          simp only [putX, setX, List.foldl_cons, List.foldl_nil, List.drop_succ_cons, List.drop_zero]
          cases bw with
          | false =>
            have h6 : rdErr l.ks.length (y0, y1, y2) = 6 := by
              have := inB_no HBW.out.symm
              unfold rdErr; rw [if_neg (by simp only; omega)]
            rw [h6, if_neg (by decide)] at hd
            have HD := Lib.hid hd
            clear hd h6
            go_wp2_with fail
            go_ret
            exact ⟨ret_int (by rw [E.out, ← HF.out, HD.out]), HBM.out⟩
          | true =>
            have h6 : rdErr l.ks.length (y0, y1, y2) = rangeErr 20000 (y1, y2) := by
              have := inB_iff.1 HBW.out.symm
              unfold rdErr; rw [if_pos (by simp only; omega)]
            rw [h6] at hd
            clear h6
            cases hy : inB y1 (-20000) 20000 with
            | false =>
              rw [rd_size1 (r := (y1, y2)) hy, if_neg (by decide)] at hd
              have HD := Lib.hid hd
              clear hd
              go_wp2_with (go_at_call 26; refine (Within_any _ _ _ _).mono ?_; rintro e w' ⟨rfl, rfl⟩)
              go_ret
              exact ⟨ret_int (by rw [E.out, ← HF.out, HD.out]), HBM.out⟩
            | true =>
              cases hy2 : inB y2 (-20000) 20000 with
              | false =>
                rw [rd_size2 (r := (y1, y2)) hy2, if_neg (by decide)] at hd
                have HD := Lib.hid hd
                clear hd
                go_wp2_with (go_at_call 26; refine (Within_any _ _ _ _).mono ?_; rintro e w' ⟨rfl, rfl⟩)
                go_ret
                exact ⟨ret_int (by rw [E.out, ← HF.out, HD.out]), HBM.out⟩
              | true =>
                rw [rd_order (r := (y1, y2)) hy hy2] at hd
                simp only at hd
                by_cases hlo : y2 < y1
                · rw [if_pos hlo, if_neg (by decide)] at hd
                  have HD := Lib.hid hd
                  clear hd
                  go_wp2_with (go_at_call 26; refine (Within_any _ _ _ _).mono ?_; rintro e w' ⟨rfl, rfl⟩)
                  go_quiet (fail)
                  go_wp2_with fail
                  go_ret
                  exact ⟨ret_int (by rw [E.out, ← HF.out, HD.out]), below_drN HBM.out _⟩
                · rw [if_neg hlo, if_pos rfl] at hd
                  have HD := Lib.hid hd
                  clear hd
                  go_wp2_with (go_at_call 26; refine (Within_any _ _ _ _).mono ?_; rintro e w' ⟨rfl, rfl⟩)
                  go_quiet (fail)
                  go_wp2_with fail
                  go_roundw
                  case rel => exact ⟨k + 1, by omega, by go_num, by rw [← HF.out, HD.out], below_drN HBL.out _⟩
                  case measure => simp [intOf]; omega
      · obtain rfl : k = r.length := by omega
        go_wp2_with fail
        go_ret
        exact ⟨ret_int (by rw [E.out, ← HF.out, fb_end _ _ _ (Nat.le_refl _)]), HB.out⟩
end Go.Proofs.Ytekinmafdhgmpaa

namespace Go.Proofs.Ytekinmafdhgmpaa
open Go.RowKit Go.Shelf
attribute [local go_sem] monoUpon_value monoUpon_skip monoUpon_enter

theorem distR_comm (a b : Int × Int) : distR a b = distR b a := by unfold distR; omega
theorem carr_cons (k : Lk) (ks : List Lk) (q : Int × Int) (b : List (Int × Int)) (x : Int × Int) : ∀ n, carr (k :: ks) (q :: b) x 0 (n + 1) = carr ks b (x.1 + k.2.2 * q.1, x.2 + k.2.2 * q.2) 0 n
  | 0 => rfl
  | n + 1 => by
    have ih := carr_cons k ks q b x n
    show ((carr (k :: ks) (q :: b) x 0 (n + 1)).1 + ((k :: ks).getD (0 + (n + 1)) (0, 0, 0)).2.2 * ((q :: b).getD (0 + (n + 1)) (0, 0)).1, (carr (k :: ks) (q :: b) x 0 (n + 1)).2 + ((k :: ks).getD (0 + (n + 1)) (0, 0, 0)).2.2 * ((q :: b).getD (0 + (n + 1)) (0, 0)).2) = _
    rw [ih]
    show _ = ((carr ks b (x.1 + k.2.2 * q.1, x.2 + k.2.2 * q.2) 0 n).1 + (ks.getD (0 + n) (0, 0, 0)).2.2 * (b.getD (0 + n) (0, 0)).1, (carr ks b (x.1 + k.2.2 * q.1, x.2 + k.2.2 * q.2) 0 n).2 + (ks.getD (0 + n) (0, 0, 0)).2.2 * (b.getD (0 + n) (0, 0)).2)
    rw [show 0 + (n + 1) = (0 + n) + 1 by omega]
    rfl
theorem pullsF_carr : ∀ (ks : List Lk) (b : List (Int × Int)) (lo hi z : Int) (k : Nat) (h : k < (pullsF lo hi z ks b).length), ((pullsF lo hi z ks b)[k].lo, (pullsF lo hi z ks b)[k].hi) = carr ks b (lo, hi) 0 (k + 1)
  | [], _, _, _, _, k, h => by simp [pullsF] at h
  | _ :: _, [], _, _, _, k, h => by simp [pullsF] at h
  | a :: ks, q :: b, lo, hi, z, 0, h => by
    rw [carr_cons]
    rfl
  | a :: ks, q :: b, lo, hi, z, k + 1, h => by
    rw [carr_cons]
    exact pullsF_carr ks b _ _ _ k (by simpa [pullsF] using h)
theorem loHi_carr {l : Ln} {b : List (Int × Int)} {k : Nat} (h : k < (loHi l b).length) : (loHi l b)[k] = carr l.ks b (l.x, l.x) 0 (k + 1) := by
  have h' : k < (pulls l b).length := by unfold loHi at h; simpa using h
  rw [← pullsF_carr l.ks b l.x l.x l.z k h']
  simp only [loHi, pulls, List.getElem_map]
  rfl
set_option maxRecDepth 100000 in
set_option maxHeartbeats 4000000 in
theorem rApart1_any (v u t y : Value) (l : Ln) (b : List (Int × Int)) (r : List Rd) (i : Nat) (w : World) (hs : Sl e3 3 w v l.ks) (hu : Sl e2 2 w u b) (ht : Sl e3 3 w t r) (hy : Sl e1 1 w y [(i : Int)]) (hl : LnOk l) (hb : BoxOk l b) (hi : i < r.length) (hx : RdOk l.ks.length r[i]) :
    Calls Try.prog 60 #[.agg #[.int .i64 l.x, .int .i64 l.z, v], u, t, y] w fun e w' => e = .returned (.int .i64 (fR l b r i)) ∧ Below w.heap.size w w' := by
  have HS := Lib.hid hs
  have HU := Lib.hid hu
  have hlen : (loHi l b).length = l.ks.length := by unfold loHi; rw [List.length_map]; exact pulls_len hb
  have HP := Lib.hid (fun W h1 h2 => rPulls_any v u l b W h1 h2 hl hb)
  obtain ⟨A, c, rfl, _⟩ := hs.form
  obtain ⟨A', c', rfl, _⟩ := hu.form
  obtain ⟨A'', c'', rfl, _⟩ := ht.form
  obtain ⟨A3, c3, rfl, _⟩ := hy.form
  obtain ⟨br, or', rfl, hbr, k0, k1, k2⟩ := ht.at3 (k := i) hi
  simp only [List.length_cons, List.length_nil, Nat.zero_add] at hy
  obtain ⟨bs, os, rfl, hbs, k3⟩ := hy.at1 (k := 0) (by simp)
  simp only [Nat.add_zero, List.getElem_cons_zero] at k3
  have hil : (i : Int) < (r.length : Int) := by omega
  have hi0 : (0 : Int) ≤ (i : Int) := by omega
  have E0 : fR l b r i = loadD l b r[i] := by unfold fR; rw [getD_eq _ _ _ hi]
  generalize fR l b r i = d at *
  generalize r[i] = x at *
  obtain ⟨x0, x1, x2⟩ := x
  obtain ⟨h1, h2, h3, h4, h5⟩ := hx
  simp only at h1 h2 h3 h4 h5 k0 k1 k2
  obtain ⟨kx, rfl⟩ : ∃ kx : Nat, x0 = (kx : Int) := ⟨x0.toNat, by omega⟩
  have hkx : kx < (loHi l b).length := by omega
  have E : Hid (d = distR (x1, x2) ((loHi l b)[kx])) := by
    unfold Hid
    rw [E0, loHi_carr hkx, distR_comm]
    show distR (carr l.ks b (l.x, l.x) 0 (((kx : Nat) : Int) + 1).toNat) (x1, x2) = _
    rw [show (((kx : Nat) : Int) + 1).toNat = kx + 1 by omega]
  have hbd := carr_rd hl hb (l.x, l.x) (by have := hl.x0; have := hl.x1; simp only; omega) 0 (kx + 1) (by omega)
  rw [← loHi_carr hkx] at hbd
  have HAT := Lib.hid (fun W A9 c9 (h : Sl e2 2 W (.slice A9 (loHi l b).length c9) (loHi l b)) => h.at2 (k := kx) hkx)
  have hkl : (kx : Int) < ((loHi l b).length : Int) := by omega
  have hk0 : (0 : Int) ≤ (kx : Int) := by omega
  generalize (loHi l b)[kx] = q at *
  obtain ⟨q1, q2⟩ := q
  simp only at hbd HAT E
  have HD := Lib.hid (fun W => distance_any (x1, x2) (q1, q2) W (by simp only; omega) (by simp only; omega) hbd.1 hbd.2)
  generalize loHi l b = ps at *
  clear hs hu ht hy hl hb E0 hbd hlen h1 h2 h3 h4 h5
  go_enter Try.func60, Try.ntmps60
  go_wp2_with fail
  obtain ⟨W0, hW0⟩ : ∃ W0, W0 = (w.alloc (.cells #[.int .i64 l.x, .int .i64 l.z, .slice A l.ks.length c] 26)).alloc (.cells #[.int .i64 kx, .int .i64 x1, .int .i64 x2] 63) := ⟨_, rfl⟩
  rw [← hW0]
  have HX : Hid (∀ W, Below W0.drew.heap.size W0.drew W → (W.cell? ⟨w.heap.size, 0, none⟩ = some (.int .i64 l.x) ∧ W.cell? ⟨w.heap.size, 1, none⟩ = some (.int .i64 l.z) ∧ W.cell? ⟨w.heap.size, 2, none⟩ = some (.slice A l.ks.length c)) ∧
      (W.cell? ⟨w.heap.size + 1, 0, none⟩ = some (.int .i64 kx) ∧ W.cell? ⟨w.heap.size + 1, 1, none⟩ = some (.int .i64 x1) ∧ W.cell? ⟨w.heap.size + 1, 2, none⟩ = some (.int .i64 x2)) ∧ Sl e3 3 W (.slice A l.ks.length c) l.ks ∧ Sl e2 2 W (.slice A' b.length c') b ∧ Below w.heap.size w W) := by
    intro W h
    have hb0 : Below w.heap.size w W0 := by rw [hW0]; exact below_al (below_alloc1 _ _) _
    have hb : Below w.heap.size w W := below_tr hb0 (Below.trans (Below.drew (Below.refl _ _)) h)
    rw [hW0] at h
    obtain ⟨bx, by'⟩ := box2 w #[.int .i64 l.x, .int .i64 l.z, .slice A l.ks.length c] #[.int .i64 kx, .int .i64 x1, .int .i64 x2] 26 63
    have bx' := fun j v hv => (bx j v hv).drew.below h
    have by'' := fun j v hv => (by' j v hv).drew.below h
    exact ⟨⟨(bx' 0 _ rfl).1, (bx' 1 _ rfl).1, (bx' 2 _ rfl).1⟩, ⟨(by'' 0 _ rfl).1, (by'' 1 _ rfl).1, (by'' 2 _ rfl).1⟩, HS.out.below hb, HU.out.below hb, hb⟩
  clear hW0 k0 k1 k2 k3
  refine wp_region_mono 10 [23, 24, 25, 26, 27, 28, 29, 30, 31, 32] [[], [0], [], [], [2, 3], [], [5], [4, 6], [7], [1, 8]] [fun v _ => v = .pointer (some ⟨w.heap.size + 1, 1, none⟩), fun v _ => v = .agg #[.int .i64 x1, .int .i64 x2], fun v _ => v = .agg #[.int .i64 l.x, .int .i64 l.z, .slice A l.ks.length c], fun v _ => v = .slice A' b.length c', fun v w => Sl e2 2 w v ps, fun v _ => v = .pointer (some ⟨w.heap.size + 1, 0, none⟩), fun v _ => v = .int .i64 kx, fun v w => (∃ b o, v = .pointer (some ⟨b, o, none⟩) ∧ b < w.heap.size ∧ w.cell? ⟨b, o, none⟩ = some (.int .i64 q1) ∧ w.cell? ⟨b, o + 1, none⟩ = some (.int .i64 q2)), fun v _ => v = .agg #[.int .i64 q1, .int .i64 q2], fun v _ => v = .int .i64 (distR (x1, x2) (q1, q2))] (by kernel_rfl) (by kernel_rfl) ⟨st_eq _, st_eq _, st_eq _, st_eq _, st_sl _ _ _, st_eq _, st_eq _, (fun _ _ _ ⟨b, o, e, h, h1, h2⟩ hb => ⟨b, o, e, Nat.lt_of_lt_of_le h hb.size, (hb.cell (p := ⟨b, o, none⟩) h).trans h1, (hb.cell (p := ⟨b, o + 1, none⟩) h).trans h2⟩), st_eq _, st_eq _, trivial⟩ ?_ ?_
  · simp only [List.take_succ_cons, List.take_zero, steps, and_true]
    refine ⟨?_, ?_, ?_, ?_, ?_, ?_, ?_, ?_, ?_, ?_⟩
    · intro x W hB _; simp only [putX, setX, List.foldl_cons, List.foldl_nil]; refine ⟨?_⟩; go_simp; exact ⟨rfl, Below.refl _ _⟩
    · intro x W hB hN; simp only [needs, sAt, dAt] at hN; simp only [putX, setX, List.foldl_cons, List.foldl_nil]; obtain ⟨_, ⟨c0, c1, c2⟩, _⟩ := HX.out W hB; refine ⟨?_⟩; go_simp; exact ⟨rfl, Below.refl _ _⟩
    · intro x W hB _; simp only [putX, setX, List.foldl_cons, List.foldl_nil]; obtain ⟨⟨c0, c1, c2⟩, _⟩ := HX.out W hB; refine ⟨?_⟩; go_simp; exact ⟨rfl, Below.refl _ _⟩
    · intro x W hB _; simp only [putX, setX, List.foldl_cons, List.foldl_nil]; refine ⟨?_⟩; go_simp; exact ⟨rfl, Below.refl _ _⟩
    · intro x W hB hN; simp only [needs, sAt, dAt] at hN; simp only [putX, setX, List.foldl_cons, List.foldl_nil]; refine ⟨?_⟩; go_simp; refine (HP.out _ (HX.out W hB).2.2.1 (HX.out W hB).2.2.2.1).mono ?_; rintro e w' ⟨g, rfl, o, b1⟩; exact ⟨_, rfl, o.sl e2_len, b1⟩
    · intro x W hB _; simp only [putX, setX, List.foldl_cons, List.foldl_nil]; refine ⟨?_⟩; go_simp; exact ⟨rfl, Below.refl _ _⟩
    · intro x W hB hN; simp only [needs, sAt, dAt] at hN; simp only [putX, setX, List.foldl_cons, List.foldl_nil]; obtain ⟨_, ⟨c0, c1, c2⟩, _⟩ := HX.out W hB; refine ⟨?_⟩; go_simp; exact ⟨rfl, Below.refl _ _⟩
    · intro x W hB hN; simp only [needs, sAt, dAt] at hN; simp only [putX, setX, List.foldl_cons, List.foldl_nil]; obtain ⟨h27, h29, _⟩ := hN; obtain ⟨A9, c9, e27, _⟩ := h27.form; rw [e27] at h27; obtain ⟨bp, op, rfl, hbp, c0, c1⟩ := HAT.out _ _ _ h27; refine ⟨?_⟩; go_simp; exact ⟨⟨_, _, rfl, hbp, c0, c1⟩, Below.refl _ _⟩
    · intro x W hB hN; simp only [needs, sAt, dAt] at hN; simp only [putX, setX, List.foldl_cons, List.foldl_nil]; obtain ⟨⟨b9, o9, e30, _, c0, c1⟩, _⟩ := hN; refine ⟨?_⟩; go_simp; exact ⟨rfl, Below.refl _ _⟩
    · intro x W hB hN; simp only [needs, sAt, dAt] at hN; simp only [putX, setX, List.foldl_cons, List.foldl_nil]; refine ⟨?_⟩; go_simp; refine (HD.out _).mono ?_; rintro e w' ⟨rfl, b1⟩; exact ⟨_, rfl, rfl, b1⟩
  · intro x W hB hA
    simp only [allSp] at hA
    have s1 := hA.2.2.2.2.2.2.2.2.2.1
    have hb := (HX.out W hB).2.2.2.2
    clear hA hB HX
    simp only [putX, setX, List.foldl_cons, List.foldl_nil, List.drop_succ_cons, List.drop_zero]
    go_wp2_with fail
    go_ret
    exact ⟨ret_int E.out.symm, hb⟩
end Go.Proofs.Ytekinmafdhgmpaa
