/-
  Walks of chapter 1's checks of lines and links.
-/
import Derived.Test.YtghglgaimhfedaaQC
import Derived.Test.YtghglgaimhfedaaQA
import Derived.Test.YtghglgaimhfedaaQD
import Derived.Test.YtghglgaimhfedaaQE
namespace Go.Proofs.Ytghglgaimhfedaa
open Go.RowKit Go.Shelf

attribute [local go_sem] monoUpon_value monoUpon_skip monoUpon_enter

theorem linkErr_first (k : Lk) : firstErr [limErr 1 1000 k.1, szErr 1000 [k.2.1], limErr 0 20 k.2.2] = linkErr k := by
  obtain ⟨h, wt, d⟩ := k
  have hw : szErr 1000 [wt] = if -1000 ≤ wt ∧ wt ≤ 1000 then 0 else 2 := by simp [szErr, inR, inB]
  simp only [firstErr, hw, limErr, linkErr]
  by_cases a : 1 ≤ h <;> by_cases b : h ≤ 1000 <;> by_cases c : -1000 ≤ wt <;> by_cases e : wt ≤ 1000 <;> by_cases f : 0 ≤ d <;> by_cases g : d ≤ 20 <;> simp [a, b, c, e, f, g]
set_option maxRecDepth 100000 in
set_option maxHeartbeats 1000000 in
theorem link1_any (k : Lk) (w : World) :
    Calls Try.prog 89 #[.agg #[.int .i64 k.1, .int .i64 k.2.1, .int .i64 k.2.2]] w fun e w' => e = .returned (.int .i64 (linkErr k)) ∧ Below w.heap.size w w' := by
  have E := Lib.hid (linkErr_first k)
  obtain ⟨h, wt, d⟩ := k
  simp only at *
  have H1 := Lib.hid (rfl : limErr 1 1000 h = limErr 1 1000 h)
  generalize he1 : limErr 1 1000 h = q1 at *
  generalize he2 : szErr 1000 [wt] = q2 at *
  generalize he3 : limErr 0 20 d = q3 at *
  have HE := Lib.hid (And.intro he1 (And.intro he2 he3))
  clear he1 he2 he3 H1
  go_enter Try.func89, Try.ntmps89
  go_wp2_with fail
  obtain ⟨W0, hW0⟩ : ∃ W0, W0 = w.alloc (.cells #[.int .i64 h, .int .i64 wt, .int .i64 d] 63) := ⟨_, rfl⟩
  rw [← hW0]
  have HB0 : Hid (Below w.heap.size w W0) := by rw [hW0]; exact below_alloc1 _ _
  have HX : Hid (∀ W, Below W0.drew.heap.size W0.drew W → W.cell? ⟨w.heap.size, 0, none⟩ = some (.int .i64 h) ∧ W.cell? ⟨w.heap.size, 1, none⟩ = some (.int .i64 wt) ∧ W.cell? ⟨w.heap.size, 2, none⟩ = some (.int .i64 d)) := by
    intro W h'
    rw [hW0] at h'
    have bx := fun j v hv => (At.new w #[.int .i64 h, .int .i64 wt, .int .i64 d] 63 j v hv).drew.below h'
    exact ⟨(bx 0 _ rfl).1, (bx 1 _ rfl).1, (bx 2 _ rfl).1⟩
  clear hW0
  refine wp_region_mono 12 [3, 4, 5, 6, 7, 8, 9, 10, 11, 12, 13, 14] [[], [0], [1], [], [3], [4], [5], [], [7], [8], [2, 6, 9], [10]] [fun v _ => v = .pointer (some ⟨w.heap.size, 0, none⟩), fun v _ => v = .int .i64 h, fun v _ => v = .int .i64 q1, fun v _ => v = .pointer (some ⟨w.heap.size, 1, none⟩), fun v _ => v = .int .i64 wt, fun v w => Sl e1 1 w v [wt], fun v _ => v = .int .i64 q2, fun v _ => v = .pointer (some ⟨w.heap.size, 2, none⟩), fun v _ => v = .int .i64 d, fun v _ => v = .int .i64 q3, fun v w => Sl e1 1 w v [q1, q2, q3], fun v _ => v = .int .i64 (firstErr [q1, q2, q3])] (by kernel_rfl) (by kernel_rfl) ⟨st_eq _, st_eq _, st_eq _, st_eq _, st_eq _, st_sl _ _ _, st_eq _, st_eq _, st_eq _, st_eq _, st_sl _ _ _, st_eq _, trivial⟩ ?_ ?_
  · simp only [List.take_succ_cons, List.take_zero, steps, and_true]
    refine ⟨?_, ?_, ?_, ?_, ?_, ?_, ?_, ?_, ?_, ?_, ?_, ?_⟩
    · intro x W hB _; simp only [putX, setX, List.foldl_cons, List.foldl_nil]; refine ⟨?_⟩; go_simp; exact ⟨rfl, Below.refl _ _⟩
    · intro x W hB hN; simp only [needs, sAt, dAt] at hN; simp only [putX, setX, List.foldl_cons, List.foldl_nil]; obtain ⟨c0, c1, c2⟩ := HX.out W hB; refine ⟨?_⟩; go_simp; exact ⟨rfl, Below.refl _ _⟩
    · intro x W hB hN; simp only [needs, sAt, dAt] at hN; simp only [putX, setX, List.foldl_cons, List.foldl_nil]; refine ⟨?_⟩; go_simp; refine (LimitError_any _ _ _ _).mono ?_; rintro e w' ⟨rfl, rfl⟩; exact ⟨_, rfl, by rw [HE.out.1]; rfl, Below.refl _ _⟩
    · intro x W hB _; simp only [putX, setX, List.foldl_cons, List.foldl_nil]; refine ⟨?_⟩; go_simp; exact ⟨rfl, Below.refl _ _⟩
    · intro x W hB hN; simp only [needs, sAt, dAt] at hN; simp only [putX, setX, List.foldl_cons, List.foldl_nil]; obtain ⟨c0, c1, c2⟩ := HX.out W hB; refine ⟨?_⟩; go_simp; exact ⟨rfl, Below.refl _ _⟩
    · intro x W hB hN; simp only [needs, sAt, dAt] at hN; simp only [putX, setX, List.foldl_cons, List.foldl_nil]; refine ⟨?_⟩; go_simp; exact ⟨sl1 _ _ _, below_alloc1 _ _⟩
    · intro x W hB hN; simp only [needs, sAt, dAt] at hN; simp only [putX, setX, List.foldl_cons, List.foldl_nil]; refine ⟨?_⟩; go_simp; refine (SizeError_any 1000 _ [wt] _ (by omega) (by omega) hN.1 (by simp)).mono ?_; rintro e w' ⟨rfl, rfl⟩; exact ⟨_, rfl, by rw [HE.out.2.1]; rfl, Below.refl _ _⟩
    · intro x W hB _; simp only [putX, setX, List.foldl_cons, List.foldl_nil]; refine ⟨?_⟩; go_simp; exact ⟨rfl, Below.refl _ _⟩
    · intro x W hB hN; simp only [needs, sAt, dAt] at hN; simp only [putX, setX, List.foldl_cons, List.foldl_nil]; obtain ⟨c0, c1, c2⟩ := HX.out W hB; refine ⟨?_⟩; go_simp; exact ⟨rfl, Below.refl _ _⟩
    · intro x W hB hN; simp only [needs, sAt, dAt] at hN; simp only [putX, setX, List.foldl_cons, List.foldl_nil]; refine ⟨?_⟩; go_simp; refine (LimitError_any _ _ _ _).mono ?_; rintro e w' ⟨rfl, rfl⟩; exact ⟨_, rfl, by rw [HE.out.2.2]; rfl, Below.refl _ _⟩
    · intro x W hB hN; simp only [needs, sAt, dAt] at hN; simp only [putX, setX, List.foldl_cons, List.foldl_nil]; refine ⟨?_⟩; go_simp; exact ⟨sl3 _ _ _ _ _, below_alloc1 _ _⟩
    · intro x W hB hN; simp only [needs, sAt, dAt] at hN; simp only [putX, setX, List.foldl_cons, List.foldl_nil]; refine ⟨?_⟩; go_simp; refine (FirstError_any _ [q1, q2, q3] _ hN.1 (by simp)).mono ?_; rintro e w' ⟨rfl, rfl⟩; exact ⟨_, rfl, rfl, Below.refl _ _⟩
  · intro x W hB hA
    simp only [allSp] at hA
    have q := hA.2.2.2.2.2.2.2.2.2.2.2.1
    clear hA
    simp only [putX, setX, List.foldl_cons, List.foldl_nil, List.drop_succ_cons, List.drop_zero]
    go_wp2_with fail
    go_ret
    exact ⟨ret_int E.out, below_tr HB0.out (Below.trans (Below.drew (Below.refl _ _)) hB)⟩

theorem ret_pair' {q : Int × Int} {a b : Int} (h : q = (a, b)) : Ending.returned (.tuple #[.int .i64 a, .int .i64 b]) = .returned (.tuple #[.int .i64 q.1, .int .i64 q.2]) := by rw [h]
theorem checkLine_cl (x z : Int) (ks : List Lk) : checkLine ⟨x, z, ks⟩ = if szErr 10000 [x, z] = 0 then clErr 1 10 linkErr ks else (0, szErr 10000 [x, z]) := by
  have e : (if ks.length = 0 then ((0, 10) : Int × Int) else if 10 < ks.length then (0, 8) else fb linkErr ks 0) = clErr 1 10 linkErr ks := by
    unfold clErr
    by_cases h0 : ks.length = 0
    · rw [if_pos h0, if_pos (show (ks.length : Int) < 1 by omega)]
    · rw [if_neg h0, if_neg (show ¬ (ks.length : Int) < 1 by omega)]
      by_cases h1 : 10 < ks.length
      · rw [if_pos h1, if_pos (show (10 : Int) < (ks.length : Int) by omega)]
      · rw [if_neg h1, if_neg (show ¬ (10 : Int) < (ks.length : Int) by omega)]
  rw [← e]
  unfold checkLine szErr
  cases h1 : inR 10000 x <;> cases h2 : inR 10000 z <;> simp [h1, h2]
set_option maxHeartbeats 1000000 in
theorem CheckLine_any (v : Value) (l : Ln) (w : World) (hs : Sl e3 3 w v l.ks) (hbig : l.ks.length ≤ 1000) :
    Calls Try.prog 16 #[.agg #[.int .i64 l.x, .int .i64 l.z, v]] w fun e w' => e = .returned (.tuple #[.int .i64 (checkLine l).1, .int .i64 (checkLine l).2]) ∧ Below w.heap.size w w' := by
  have HS := Lib.hid hs
  obtain ⟨A, c, rfl, hcap⟩ := hs.form
  clear hs
  obtain ⟨x, z, ks⟩ := l
  simp only at *
  have E0 := checkLine_cl x z ks
  generalize checkLine ⟨x, z, ks⟩ = res at *
  generalize hq : szErr 10000 [x, z] = q at *
  have HE := Lib.hid hq
  clear hq
  have H := Lib.hid (sl2 (w.alloc (.cells #[.int .i64 x, .int .i64 z, .slice A ks.length c] 26)) x z 3)
  by_cases h : q = 0
  · rw [if_pos h] at E0
    have h' := ne0 h
    have E := Lib.hid E0
    clear h E0
    go_enter Try.func16, Try.ntmps16
    go_wp2_with (first
      | (go_at_call 87; refine (SizeError_any _ _ [x, z] _ (by omega) (by omega) (by simpa using H.out) (by simp)).mono ?_; rw [HE.out]; rintro e w' ⟨rfl, rfl⟩)
      | (go_at_call 88; refine (cll_any 89 #[] (enters_of Try.func89 (by kernel_rfl) rfl) linkErr 1 10 _ ks _ ((HS.out.alloc _).alloc _) hbig (fun _ => True) (fun _ _ _ _ => trivial) trivial (fun k _ W _ => link1_any k W)).mono ?_; rintro e w1 ⟨rfl, hb1⟩))
    go_ret2
    exact ⟨by rw [E.out]; rfl, below_tr (below_al (below_alloc1 _ _) _) hb1⟩
  · rw [if_neg h] at E0
    have h' := ne1 h
    have E := Lib.hid E0
    clear h E0
    go_enter Try.func16, Try.ntmps16
    go_wp2_with (go_at_call 87; refine (SizeError_any _ _ [x, z] _ (by omega) (by omega) (by simpa using H.out) (by simp)).mono ?_; rw [HE.out]; rintro e w' ⟨rfl, rfl⟩)
    go_ret2
    exact ⟨ret_pair' E.out, (by repeat (first | assumption | exact Below.refl _ _ | refine below_al ?_ _ | refine below_dr ?_ | refine below_tr ?_ (by assumption)))⟩
end Go.Proofs.Ytghglgaimhfedaa

namespace Go.Proofs.Ytghglgaimhfedaa
open Go.RowKit

theorem inB_inR (m n : Int) : inR m n = inB n (-m) m := rfl
theorem inB_iff {n lo hi : Int} : inB n lo hi = true ↔ lo ≤ n ∧ n ≤ hi := by simp [inB]
theorem inB_no {n lo hi : Int} (h : inB n lo hi = false) : ¬ (lo ≤ n ∧ n ≤ hi) := by simpa [inB] using h
set_option maxRecDepth 100000 in
set_option maxHeartbeats 2000000 in
theorem rCheckLine_any (v : Value) (l : Ln) (w : World) (hs : Sl e3 3 w v l.ks) (hbig : l.ks.length ≤ 1000) :
    Calls Try.prog 22 #[.agg #[.int .i64 l.x, .int .i64 l.z, v]] w fun e w' => e = .returned (.tuple #[.int .i64 (checkLine l).1, .int .i64 (checkLine l).2]) ∧ Below w.heap.size w w' := by
  have HS := Lib.hid hs
  obtain ⟨A, c, rfl, hcap⟩ := hs.form
  clear hs
  obtain ⟨x, z, ks⟩ := l
  simp only at *
  have both : Hid (inB x (-10000) 10000 = true → inB z (-10000) 10000 = true → checkLine ⟨x, z, ks⟩ = if ks.length = 0 then (0, 10) else if 10 < ks.length then (0, 8) else fb linkErr ks 0) := fun h1 h2 => if_pos ⟨h1, h2⟩
  have bad : Hid (¬ (inB x (-10000) 10000 = true ∧ inB z (-10000) 10000 = true) → checkLine ⟨x, z, ks⟩ = (0, 2)) := fun h => if_neg h
  cases hx : inB x (-10000) 10000
  · have E := Lib.hid (bad.out (by rw [hx]; simp))
    clear both bad
    go_enter Try.func22, Try.ntmps22
    go_wp2_with (go_at_call 27; refine (Within_any _ _ _ _).mono ?_; rintro e w' ⟨rfl, rfl⟩)
    go_ret2
    exact ⟨ret_pair' E.out, below_alloc1 _ _⟩
  · cases hz : inB z (-10000) 10000
    · have E := Lib.hid (bad.out (by rw [hz]; simp))
      clear both bad
      go_enter Try.func22, Try.ntmps22
      go_wp2_with (go_at_call 27; refine (Within_any _ _ _ _).mono ?_; rintro e w' ⟨rfl, rfl⟩)
      go_ret2
      exact ⟨ret_pair' E.out, below_alloc1 _ _⟩
    · have E0 := both.out hx hz
      clear both bad
      by_cases h0 : ks.length = 0
      · rw [if_pos h0] at E0
        have E := Lib.hid E0
        have h0' := eq0 (n := (ks.length : Int)) (by omega)
        clear E0 h0
        go_enter Try.func22, Try.ntmps22
        go_wp2_with (go_at_call 27; refine (Within_any _ _ _ _).mono ?_; rintro e w' ⟨rfl, rfl⟩)
        go_ret2
        exact ⟨ret_pair' E.out, below_alloc1 _ _⟩
      · rw [if_neg h0] at E0
        have h0' := eq1 (n := (ks.length : Int)) (by omega)
        clear h0
        by_cases h1 : 10 < ks.length
        · rw [if_pos h1] at E0
          have E := Lib.hid E0
          clear E0
          go_enter Try.func22, Try.ntmps22
          go_wp2_with (go_at_call 27; refine (Within_any _ _ _ _).mono ?_; rintro e w' ⟨rfl, rfl⟩)
          go_ret2
          exact ⟨ret_pair' E.out, below_alloc1 _ _⟩
        · rw [if_neg h1] at E0
          have E := Lib.hid E0
          clear E0
          go_enter Try.func22, Try.ntmps22
          go_wp2_with (go_at_call 27; refine (Within_any _ _ _ _).mono ?_; rintro e w' ⟨rfl, rfl⟩)
          go_loopw [5, 6] (fun i _ wr => ∃ k : Nat, k ≤ ks.length ∧ i = .int .i64 k ∧ fb linkErr (ks.drop k) k = fb linkErr ks 0 ∧ Below w.heap.size w wr ∧ At wr ⟨w.heap.size, 2, none⟩ (.slice A ks.length c)) (fun i _ _ => ks.length - (intOf i).toNat)
          case atStart => exact ⟨0, Nat.zero_le _, rfl, rfl, below_alloc1 _ _, At.new w #[.int .i64 x, .int .i64 z, .slice A ks.length c] 26 2 _ rfl⟩
          case round =>
            obtain ⟨k, hk, rfl, hfb, hb, hat⟩ := hrel
            have HF := Lib.hid hfb
            have HB := Lib.hid hb
            have HA := Lib.hid hat
            have ha := hat.1
            clear hfb hat hx hz
            by_cases hlt : k < ks.length
            · obtain ⟨b, off, rfl, hbl, hc0, hc1, hc2⟩ := (HS.out.below hb).at3 hlt
              have hf := fb_drop linkErr ks k hlt
              have HD := Lib.hid hf
              clear hf hb
              have hle : linkErr ks[k] = if 1 ≤ ks[k].1 ∧ ks[k].1 ≤ 1000 ∧ -1000 ≤ ks[k].2.1 ∧ ks[k].2.1 ≤ 1000 ∧ 0 ≤ ks[k].2.2 ∧ ks[k].2.2 ≤ 20 then 0 else 2 := rfl
              rw [hle] at HD
              clear hle
              generalize ks[k] = kk at *
              obtain ⟨q1, q2, q3⟩ := kk
              simp only at *
              cases g1 : inB q1 1 1000
              · have hn := inB_no g1
                rw [if_neg (by omega), if_neg (by omega)] at HD
                go_wp2_with (go_at_call 27; refine (Within_any _ _ _ _).mono ?_; rintro e w' ⟨rfl, rfl⟩)
                go_ret2
                exact ⟨ret_pair' (by rw [E.out, ← HF.out, HD.out]), below_al HB.out _⟩
              · have hy1 := inB_iff.1 g1
                cases g2 : inB q2 (-1000) 1000
                · have hn := inB_no g2
                  rw [if_neg (by omega), if_neg (by omega)] at HD
                  go_wp2_with (go_at_call 27; refine (Within_any _ _ _ _).mono ?_; rintro e w' ⟨rfl, rfl⟩)
                  go_ret2
                  exact ⟨ret_pair' (by rw [E.out, ← HF.out, HD.out]), below_al HB.out _⟩
                · have hy2 := inB_iff.1 g2
                  cases g3 : inB q3 0 20
                  · have hn := inB_no g3
                    rw [if_neg (by omega), if_neg (by omega)] at HD
                    go_wp2_with (go_at_call 27; refine (Within_any _ _ _ _).mono ?_; rintro e w' ⟨rfl, rfl⟩)
                    go_ret2
                    exact ⟨ret_pair' (by rw [E.out, ← HF.out, HD.out]), below_al HB.out _⟩
                  · have hy3 := inB_iff.1 g3
                    rw [if_pos (by omega)] at HD

                    go_wp2_with (go_at_call 27; refine (Within_any _ _ _ _).mono ?_; rintro e w' ⟨rfl, rfl⟩)
                    go_roundw
                    case rel => exact ⟨k + 1, by omega, by go_num, by rw [← HF.out, HD.out], below_al HB.out _, HA.out.al _⟩
                    case measure => simp [intOf]; omega
            · clear hb
              obtain rfl : k = ks.length := by omega
              go_wp2_with fail
              go_ret2
              exact ⟨ret_pair' (by rw [E.out, ← HF.out, fb_end _ _ _ (Nat.le_refl _)]), HB.out⟩

set_option maxHeartbeats 400000 in
theorem lineError_any (v : Value) (l : Ln) (w : World) (hs : Sl e3 3 w v l.ks) (hbig : l.ks.length ≤ 1000) :
    Calls Try.prog 95 #[.agg #[.int .i64 l.x, .int .i64 l.z, v]] w fun e w' => e = .returned (.int .i64 (lineErr l)) ∧ Below w.heap.size w w' := by
  have HC := Lib.hid (CheckLine_any v l _ (hs.alloc (.cells #[.int .i64 l.x, .int .i64 l.z, v] 26)) hbig)
  obtain ⟨A, c, rfl, hcap⟩ := hs.form
  clear hs
  go_enter Try.func95, Try.ntmps95
  go_wp2_with (go_at_call 16; refine HC.out.mono ?_; rintro e w1 ⟨rfl, hb1⟩)
  go_ret
  exact ⟨rfl, below_tr (below_alloc1 _ _) hb1⟩
set_option maxHeartbeats 400000 in
theorem LineErr_any (v : Value) (l : Ln) (w : World) (hs : Sl e3 3 w v l.ks) (hbig : l.ks.length ≤ 1000) :
    Calls Try.prog 33 #[.agg #[.int .i64 l.x, .int .i64 l.z, v]] w fun e w' => e = .returned (.int .i64 (lineErr l)) ∧ Below w.heap.size w w' := by
  have HC := Lib.hid (rCheckLine_any v l _ (hs.alloc (.cells #[.int .i64 l.x, .int .i64 l.z, v] 26)) hbig)
  obtain ⟨A, c, rfl, hcap⟩ := hs.form
  clear hs
  go_enter Try.func33, Try.ntmps33
  go_wp2_with (go_at_call 22; refine HC.out.mono ?_; rintro e w1 ⟨rfl, hb1⟩)
  go_ret
  exact ⟨rfl, below_tr (below_alloc1 _ _) hb1⟩
end Go.Proofs.Ytghglgaimhfedaa

namespace Go.Proofs.Ytghglgaimhfedaa
open Go.RowKit

theorem box1_any (r : Int × Int) (w : World) :
    Calls Try.prog 93 #[.agg #[.int .i64 r.1, .int .i64 r.2]] w fun e w' => e = .returned (.int .i64 (rangeErr 50 r)) ∧ Below w.heap.size w w' := by
  have HO := Lib.hid (fun w => RangeError_any r 50 w (by omega) (by omega))
  obtain ⟨lo, hi⟩ := r
  simp only at *
  go_enter Try.func93, Try.ntmps93
  go_wp2_with (go_at_call 94; refine (HO.out _).mono ?_; rintro e w1 ⟨rfl, hb1⟩)
  go_ret
  exact ⟨rfl, below_tr (below_alloc1 _ _) hb1⟩
theorem cursErr_sz (cu : List Int) : szErr 50 cu = (fb curErr cu 0).2 := by
  have : ∀ (i : Nat), szErr 50 cu = (fb curErr cu i).2 := by
    induction cu with
    | nil => intro i; rfl
    | cons x r ih =>
      intro i
      rw [fb]
      unfold curErr szErr at *
      cases h : inR 50 x
      · simp [h]
      · simp only [h, List.all_cons, Bool.true_and, if_true]; exact ih (i + 1)
  exact this 0
theorem lenb {a b : Nat} (h : a = b) : ((a : Int) != (b : Int)) = false := by rw [bne_eq_false_iff_eq]; omega
theorem lenb' {a b : Nat} (h : ¬ a = b) : ((a : Int) != (b : Int)) = true := by rw [bne_iff_ne]; omega
set_option maxHeartbeats 1000000 in
theorem CheckBox_any (v u : Value) (l : Ln) (b : List (Int × Int)) (w : World) (hs : Sl e3 3 w v l.ks) (hu : Sl e2 2 w u b) (hbig : l.ks.length ≤ 1000) (hbig' : b.length ≤ 1000) :
    Calls Try.prog 18 #[.agg #[.int .i64 l.x, .int .i64 l.z, v], u] w fun e w' => e = .returned (.tuple #[.int .i64 (checkBox l b).1, .int .i64 (checkBox l b).2]) ∧ Below w.heap.size w w' := by
  obtain ⟨A, c, rfl, hcap⟩ := hs.form
  obtain ⟨A', c', rfl, hcap'⟩ := hu.form
  have HC := Lib.hid (CheckLine_any _ l _ (hs.alloc (.cells #[.int .i64 l.x, .int .i64 l.z, .slice A l.ks.length c] 26)) hbig)
  have HU := Lib.hid (hu.alloc (.cells #[.int .i64 l.x, .int .i64 l.z, .slice A l.ks.length c] 26))
  clear hs hu
  by_cases h1 : lineErr l = 0
  · have E0 : checkBox l b = boxErr1 l b := if_pos h1
    rw [checkLine_ok h1] at HC
    clear h1
    by_cases h2 : b.length = l.ks.length
    · have E : Hid (checkBox l b = fb (rangeErr 50) b 0) := E0.trans (if_pos h2)
      have h2' := lenb h2
      clear E0 h2
      go_enter Try.func18, Try.ntmps18
      go_wp2_with (first
        | (go_at_call 16; refine HC.out.mono ?_; rintro e w1 ⟨rfl, hb1⟩; obtain ⟨q1, _⟩ := (At.new w #[.int .i64 l.x, .int .i64 l.z, .slice A l.ks.length c] 26 2 _ rfl).below hb1; have HB1 := Lib.hid hb1; clear hb1)
        | (go_at_call 92; refine (fbr_any 93 #[] (enters_of Try.func93 (by kernel_rfl) rfl) (rangeErr 50) _ b _ (HU.out.below HB1.out) hbig' (fun _ => True) (fun _ _ _ _ => trivial) trivial (fun k _ W _ => box1_any k W)).mono ?_; rintro e w2 ⟨rfl, hb2⟩))
      go_ret2
      exact ⟨by rw [E.out]; rfl, below_tr (below_tr (below_alloc1 _ _) HB1.out) hb2⟩
    · have E : Hid (checkBox l b = (0, 10)) := E0.trans (if_neg h2)
      have h2' := lenb' h2
      clear E0 h2
      go_enter Try.func18, Try.ntmps18
      go_wp2_with (go_at_call 16; refine HC.out.mono ?_; rintro e w1 ⟨rfl, hb1⟩; obtain ⟨q1, _⟩ := (At.new w #[.int .i64 l.x, .int .i64 l.z, .slice A l.ks.length c] 26 2 _ rfl).below hb1; have HB1 := Lib.hid hb1; clear hb1)
      go_ret2
      exact ⟨ret_pair' E.out, below_tr (below_alloc1 _ _) HB1.out⟩
  · have E : Hid (checkBox l b = checkLine l) := if_neg h1
    have h1' : ((checkLine l).2 != 0) = true := ne1 h1
    generalize checkLine l = q at *
    obtain ⟨q1, q2⟩ := q
    clear h1
    simp only at *
    go_enter Try.func18, Try.ntmps18
    go_wp2_with (go_at_call 16; refine HC.out.mono ?_; rintro e w1 ⟨rfl, hb1⟩)
    go_ret2
    exact ⟨ret_pair' E.out, below_tr (below_alloc1 _ _) hb1⟩
set_option maxHeartbeats 400000 in
theorem boxError_any (v u : Value) (l : Ln) (b : List (Int × Int)) (w : World) (hs : Sl e3 3 w v l.ks) (hu : Sl e2 2 w u b) (hbig : l.ks.length ≤ 1000) (hbig' : b.length ≤ 1000) :
    Calls Try.prog 119 #[.agg #[.int .i64 l.x, .int .i64 l.z, v], u] w fun e w' => e = .returned (.int .i64 (boxErr l b)) ∧ Below w.heap.size w w' := by
  have HC := Lib.hid (CheckBox_any v u l b _ (hs.alloc (.cells #[.int .i64 l.x, .int .i64 l.z, v] 26)) (hu.alloc (.cells #[.int .i64 l.x, .int .i64 l.z, v] 26)) hbig hbig')
  obtain ⟨A, c, rfl, hcap⟩ := hs.form
  obtain ⟨A', c', rfl, hcap'⟩ := hu.form
  clear hs hu
  go_enter Try.func119, Try.ntmps119
  go_wp2_with (go_at_call 18; refine HC.out.mono ?_; rintro e w1 ⟨rfl, hb1⟩)
  go_ret
  exact ⟨rfl, below_tr (below_alloc1 _ _) hb1⟩
set_option maxHeartbeats 1000000 in
theorem currentsError_any (v u : Value) (l : Ln) (cu : List Int) (w : World) (hs : Sl e3 3 w v l.ks) (hu : Sl e1 1 w u cu) (hbig : l.ks.length ≤ 1000) (hbig' : cu.length ≤ 1000) :
    Calls Try.prog 99 #[.agg #[.int .i64 l.x, .int .i64 l.z, v], u] w fun e w' => e = .returned (.int .i64 (currentsErr l cu)) ∧ Below w.heap.size w w' := by
  obtain ⟨A, c, rfl, hcap⟩ := hs.form
  obtain ⟨A', c', rfl, hcap'⟩ := hu.form
  have HC := Lib.hid (lineError_any _ l _ (hs.alloc (.cells #[.int .i64 l.x, .int .i64 l.z, .slice A l.ks.length c] 26)) hbig)
  have HU := Lib.hid (hu.alloc (.cells #[.int .i64 l.x, .int .i64 l.z, .slice A l.ks.length c] 26))
  clear hs hu
  by_cases h1 : lineErr l = 0
  · have E0 : currentsErr l cu = cursErr l cu := if_pos h1
    rw [h1] at HC
    clear h1
    by_cases h2 : cu.length = l.ks.length
    · have E : Hid (currentsErr l cu = (fb curErr cu 0).2) := E0.trans (if_pos h2)
      have h2' := lenb h2
      clear E0 h2
      go_enter Try.func99, Try.ntmps99
      go_wp2_with (first
        | (go_at_call 95; refine HC.out.mono ?_; rintro e w1 ⟨rfl, hb1⟩; obtain ⟨q1, _⟩ := (At.new w #[.int .i64 l.x, .int .i64 l.z, .slice A l.ks.length c] 26 2 _ rfl).below hb1; have HB1 := Lib.hid hb1; clear hb1)
        | (go_at_call 87; refine (SizeError_any 50 _ cu _ (by omega) (by omega) (HU.out.below HB1.out) (by omega)).mono ?_; rintro e w2 ⟨rfl, rfl⟩))
      go_ret
      exact ⟨ret_int ((cursErr_sz cu).trans E.out.symm), below_tr (below_alloc1 _ _) HB1.out⟩
    · have E : Hid (currentsErr l cu = 10) := E0.trans (if_neg h2)
      have h2' := lenb' h2
      clear E0 h2
      go_enter Try.func99, Try.ntmps99
      go_wp2_with (go_at_call 95; refine HC.out.mono ?_; rintro e w1 ⟨rfl, hb1⟩; obtain ⟨q1, _⟩ := (At.new w #[.int .i64 l.x, .int .i64 l.z, .slice A l.ks.length c] 26 2 _ rfl).below hb1; have HB1 := Lib.hid hb1; clear hb1)
      go_ret
      exact ⟨ret_int E.out.symm, below_tr (below_alloc1 _ _) HB1.out⟩
  · have E : Hid (currentsErr l cu = lineErr l) := if_neg h1
    have h1' := ne1 h1
    generalize lineErr l = q at *
    clear h1
    go_enter Try.func99, Try.ntmps99
    go_wp2_with (go_at_call 95; refine HC.out.mono ?_; rintro e w1 ⟨rfl, hb1⟩)
    go_ret
    exact ⟨ret_int E.out.symm, below_tr (below_alloc1 _ _) hb1⟩
end Go.Proofs.Ytghglgaimhfedaa

namespace Go.Proofs.Ytghglgaimhfedaa
open Go.RowKit Go.Shelf
attribute [local go_sem] Oper.semAt_some wide_fn wide_depth round_fn round_depth

def lifts (l : Ln) : List (Nat × Int) := (List.range l.ks.length).map fun i => (i, (zs l).getD i 0)
def encL (x : Nat × Int) : Array Value := #[.int .i64 (x.1 : Int), .int .i64 x.2]
theorem lifts_len (l : Ln) : (lifts l).length = l.ks.length := by simp [lifts]
theorem lifts_at (l : Ln) (i : Nat) (h : i < (lifts l).length) : (lifts l)[i] = (i, (zs l).getD i 0) := by simp [lifts]
theorem zs_len (l : Ln) : (zs l).length = l.ks.length := zsF_len _ _
/-- Z before the link k. -/
def zb (l : Ln) (k : Nat) : Int := (l.z :: zs l).getD k 0
theorem zb_succ (l : Ln) (k : Nat) (h : k < l.ks.length) : zb l (k + 1) = zb l k + l.ks[k].2.1 ∧ (zs l).getD k 0 = zb l (k + 1) := by
  have := zsF_at l.z l.ks k h
  have e : zb l (k + 1) = (zs l).getD k 0 := by unfold zb; rw [List.getD_cons_succ]
  refine ⟨?_, e.symm⟩
  rw [e]
  unfold zb zs
  rw [List.getD_eq_getElem?_getD, this]
  rfl
theorem zb_bd {l : Ln} (hl : LnOk l) (k : Nat) (h : k ≤ l.ks.length) : -20000 ≤ zb l k ∧ zb l k ≤ 20000 := by
  unfold zb
  cases k with
  | zero => have := hl.z0; have := hl.z1; simp; omega
  | succ k =>
    rw [List.getD_cons_succ]
    have hk : k < (zs l).length := by rw [zs_len]; omega
    rw [getD_eq _ _ _ hk]
    exact zs_bd hl _ (List.getElem_mem _)
theorem lifts_any (l : Ln) (v : Value) (w : World) (hv : ∃ A n c, v = .slice A n c) :
    Calls Try.prog 96 #[.agg #[.int .i64 l.x, .int .i64 l.z, v]] w fun e w' => e = .returned (.func (.func 139) #[] #[.pointer (some ⟨w.heap.size, 0, none⟩)]) ∧ w.alloc (.cells #[.int .i64 l.x, .int .i64 l.z, v] 137) = w' := by
  obtain ⟨A, n, c, rfl⟩ := hv
  go_enter Try.func96, Try.ntmps96
  go_wp2
  go_ret
  exact ⟨rfl, rfl⟩

set_option maxHeartbeats 2000000 in
theorem lifts_seq (Bx : Nat) (v : Value) (l : Ln) (w : World) (hl : LnOk l) (hb1 : w.cell? ⟨Bx, 1, none⟩ = some (.int .i64 l.z)) (hb2 : w.cell? ⟨Bx, 2, none⟩ = some v) (hs : Sl e3 3 w v l.ks)
    (S : Nat → Prop) (_hS : S Bx) (hSv : ∀ b, v.ownBlock = some b → S b) :
    SeqX Try.prog 139 #[.pointer (some ⟨Bx, 0, none⟩)] encL S (lifts l) w := by
  intro lp J Jx W hW hJ hJx hY h0
  have hBx := cell_lt hb2
  simp only at hBx
  have hBxW : Bx < W.heap.size := Nat.lt_of_lt_of_le hBx hW.size
  have hzW : W.cell? ⟨Bx, 1, none⟩ = some (.int .i64 l.z) := (hW.cell (p := ⟨Bx, 1, none⟩) hBx).trans hb1
  have hbW : W.cell? ⟨Bx, 2, none⟩ = some v := (hW.cell (p := ⟨Bx, 2, none⟩) hBx).trans hb2
  have hsW : Sl e3 3 W v l.ks := hs.below hW
  clear hb1 hb2 hs hW hBx
  obtain ⟨A, c, rfl, hcap⟩ := hsW.form
  have hn1 := hl.n1
  have HL := Lib.hid hl
  have HY := Lib.hid hY
  have HJ := Lib.hid hJ
  have HJx := Lib.hid hJx
  have HSW := Lib.hid hsW
  clear hY hJ hJx hl hsW
  refine callsIn_of_wp Try.func139 rfl trivial ?_ rfl
  simp only [Try.ntmps139, List.size_toArray, List.length_cons, List.length_nil, Nat.reduceAdd, Nat.reduceSub, Array.replicate_succ, Array.replicate_zero, List.push_toArray, List.append_toArray, List.nil_append, List.cons_append]
  gi_wp2
  gi_loopw [3, 4, 5, 14] (fun z _ _ i wr => ∃ k : Nat, k ≤ l.ks.length ∧ i = .int .i64 k ∧ z = .int .i64 (zb l k) ∧ J ((lifts l).take k) wr ∧ Bx < wr.heap.size ∧ Sl e3 3 wr (.slice A l.ks.length c) l.ks)
    (fun _ _ _ i _ => l.ks.length - (intOf i).toNat)
  case atStart => exact ⟨0, Nat.zero_le _, rfl, rfl, h0, hBxW, HSW.out⟩
  case round =>
    obtain ⟨k, hk, rfl, rfl, hJs, hBr, hsr⟩ := hrel
    by_cases hlt : k < l.ks.length
    · obtain ⟨b, off, rfl, hbl, hc0, hc1, hc2⟩ := hsr.at3 hlt
      obtain ⟨hz1, hz2⟩ := zb_succ l k hlt
      have hwl : k < (lifts l).length := by rw [lifts_len]; exact hlt
      have hway : (lifts l)[k] = (k, zb l (k + 1)) := by rw [lifts_at, hz2]
      have hpre : (lifts l).take k ++ [(k, zb l (k + 1))] <+: lifts l := by rw [← hway]; exact take_pre _ _ hwl
      have hbd := zb_bd HL.out k (by omega)
      have hkk := HL.out.ok _ (List.getElem_mem hlt)
      have hJ1 := OwnFrom.alloc HJ.out (.cells #[.int .i64 l.ks[k].1, .int .i64 l.ks[k].2.1, .int .i64 l.ks[k].2.2] 63) hJs
      obtain ⟨fn, tmps, assign, body, hy, hR⟩ := HY.out _ _ _ hpre hJ1
      dsimp only [encL] at hy
      rw [hz1] at hy
      have hR1 := yout hR
      clear hR
      have Hs := Lib.hid hsr
      have HP := Lib.hid hpre
      have HW := Lib.hid hway
      have HZ := Lib.hid hz1
      obtain ⟨g1, g2⟩ := hbd
      obtain ⟨_, _, g3, g4, _, _⟩ := hkk
      clear hway hpre hsr hbW h0 hJ1 hz1 hz2
      gi_wp2_with (refine hR1.mono ?_; rintro e W3 ⟨bb, rfl, hO⟩; have HO := Lib.hid hO; clear hO)
      · have hbt : bb = false := by
          have h : (!bb) = true := by assumption
          cases bb
          · rfl
          · cases h
        refine bodyPost_ret (results_none rfl _ _ _) rfl ?_
        refine ⟨⟨_, rfl⟩, .inr ⟨_, HP.out, ?_⟩⟩
        rcases HO.out with h | h
        · rw [hbt] at h; cases h.1
        · exact h.2
      · have hbt : bb = true := by
          have h : (!bb) = false := by assumption
          cases bb
          · cases h
          · rfl
        obtain ⟨_, hJ3, hk3⟩ : bb = true ∧ J ((lifts l).take k ++ [(k, zb l (k + 1))]) W3 ∧ Kpt S _ W3 := by
          rcases HO.out with h | h
          · exact h
          · rw [hbt] at h; cases h.1
        have hs3 := Sl.kpt (Hs.out.alloc (.cells #[.int .i64 l.ks[k].1, .int .i64 l.ks[k].2.1, .int .i64 l.ks[k].2.2] 63)) hk3 hSv
        have hz3 := hk3.size
        simp at hz3
        go_roundw
        case rel => exact ⟨k + 1, by omega, by go_num, by rw [HZ.out], by rw [List.take_succ_eq_append_getElem hwl, HW.out]; exact hJ3, by omega, hs3⟩
        case measure => simp [intOf]; omega
    · obtain rfl : k = l.ks.length := by omega
      gi_wp2
      go_end0
      exact ⟨⟨_, rfl⟩, .inl (by rw [List.take_of_length_le (by rw [lifts_len]; omega)] at hJs; exact hJs)⟩
end Go.Proofs.Ytghglgaimhfedaa

namespace Go.Proofs.Ytghglgaimhfedaa
open Go.RowKit Go.Shelf
attribute [local go_sem] Oper.semAt_some wide_fn wide_depth round_fn round_depth

def NoSlack (x : List (Nat × Int)) : Prop := ∀ p ∈ x, 0 < p.2
def SomeSlack (x : List (Nat × Int)) : Prop := ∃ p ∈ x, p.2 ≤ 0
theorem NoSlack.snoc {x : List (Nat × Int)} {p : Nat × Int} (h : NoSlack x) (hp : 0 < p.2) : NoSlack (x ++ [p]) := by
  intro y hy
  rcases List.mem_append.1 hy with hy | hy
  · exact h y hy
  · rw [List.mem_singleton.1 hy]; exact hp
theorem lifts_zs (l : Ln) : (lifts l).map (·.2) = zs l := by
  apply List.ext_getElem
  · simp [lifts_len, zs_len]
  · intro i h1 h2
    simp [lifts, h2]
theorem slackErr_no {l : Ln} (h : NoSlack (lifts l)) : slackErr l = 0 := by
  unfold slackErr
  rw [if_neg]
  intro hc
  obtain ⟨z, hz, h1⟩ := List.any_eq_true.1 hc
  rw [← lifts_zs] at hz
  obtain ⟨p, hp, rfl⟩ := List.mem_map.1 hz
  have := h p hp
  simp at h1
  omega
theorem slackErr_some {l : Ln} (h : SomeSlack (lifts l)) : slackErr l = 21 := by
  unfold slackErr
  rw [if_pos]
  obtain ⟨p, hp, h1⟩ := h
  exact List.any_eq_true.2 ⟨p.2, by rw [← lifts_zs]; exact List.mem_map.2 ⟨p, hp, rfl⟩, by simpa using h1⟩

set_option maxHeartbeats 2000000 in
theorem slackError_any (v : Value) (l : Ln) (w : World) (hs : Sl e3 3 w v l.ks) (hl : LnOk l) :
    Calls Try.prog 142 #[.agg #[.int .i64 l.x, .int .i64 l.z, v]] w fun e w' => e = .returned (.int .i64 (slackErr l)) ∧ Below w.heap.size w w' := by
  have hvb := hs.blk hl.n0
  obtain ⟨A, c, rfl, hcap⟩ := hs.form
  have HV := Lib.hid hvb
  have HS := Lib.hid hs
  have HL := Lib.hid hl
  clear hvb hs hl
  refine (callsIn_wide (n := 0)).1 ?_
  refine callsIn_of_wp_marks Try.func142 rfl trivial ?_ rfl
  simp only [Try.ntmps142, List.size_toArray, List.length_cons, List.length_nil, Nat.reduceAdd, Nat.reduceSub, Array.replicate_succ, Array.replicate_zero, List.push_toArray, List.append_toArray, List.nil_append, List.cons_append]
  gi_wp2_with (gi_at_call 96; refine (atWide (lifts_any l _ _ ⟨_, _, _, rfl⟩)).mono ?_; rintro e w2 ⟨rfl, rfl⟩)
  obtain ⟨W1, hW1⟩ : ∃ W1, W1 = (w.alloc (.cells #[.int .i64 l.x, .int .i64 l.z, .slice A l.ks.length c] 26)).alloc (.cells #[.int .i64 0] 30) := ⟨_, rfl⟩
  obtain ⟨W0, hW0⟩ : ∃ W0, W0 = W1.alloc (.cells #[.int .i64 l.x, .int .i64 l.z, .slice A l.ks.length c] 137) := ⟨_, rfl⟩
  rw [← hW1, ← hW0]
  have hb1 : Below w.heap.size w W1 := by rw [hW1]; exact below_al (below_alloc1 _ _) _
  have hb0 : Below w.heap.size w W0 := by rw [hW0]; exact below_al hb1 _
  have hz1 : w.heap.size + 2 ≤ W1.heap.size := by rw [hW1]; simp
  have hz0 : W1.heap.size + 1 ≤ W0.heap.size := by rw [hW0]; simp
  have aR : At W0 ⟨w.heap.size + 1, 0, none⟩ (.int .i64 0) := by
    rw [hW0, hW1]
    have h1 := (At.new (w.alloc (.cells #[.int .i64 l.x, .int .i64 l.z, .slice A l.ks.length c] 26)) #[.int .i64 0] 30 0 _ rfl).al (.cells #[.int .i64 l.x, .int .i64 l.z, .slice A l.ks.length c] 137)
    simpa using h1
  have aL : ∀ j v, (#[Value.int .i64 l.x, .int .i64 l.z, .slice A l.ks.length c] : Array Value)[j]? = some v → W0.cell? ⟨W1.heap.size, j, none⟩ = some v := by
    intro j v hv
    rw [hW0]; exact (At.new W1 _ 137 j v hv).1
  have aL1 := aL 1 _ rfl
  have aL2 := aL 2 _ rfl
  have hsW := HS.out.below hb0
  have hxe : (⟨w.heap.size + 1 + 1, 0, none⟩ : Addr) = ⟨W1.heap.size, 0, none⟩ := by rw [hW1]; simp
  rw [hxe]
  clear aL hW0 hW1 hxe
  refine wp_rangeX (gf := 139) (lb := #[.pointer (some ⟨W1.heap.size, 0, none⟩)]) rfl (enters_of Try.func139 (by kernel_rfl) rfl)
    (lifts_seq W1.heap.size _ l W0 HL.out aL1 aL2 hsW (fun k => k = W1.heap.size ∨ (Value.slice A l.ks.length c).ownBlock = some k) (.inl rfl) (fun b hb => .inr hb)) (Below.refl _ _)
    (by
      rintro k (rfl | hk)
      · omega
      · have := HV.out k hk; omega) (fun _ => rfl)
    (fun pre W => At W ⟨w.heap.size + 1, 0, none⟩ (.int .i64 0) ∧ Below w.heap.size w W ∧ NoSlack pre)
    (fun c pre W => c = .ret ∧ At W ⟨w.heap.size + 1, 0, none⟩ (.int .i64 21) ∧ Below w.heap.size w W ∧ SomeSlack pre)
    (OwnFrom.and (own_at _ _ fun _ => _) (OwnFrom.and (ownFrom_below (Nat.le_refl _) (by omega)) (ownFrom_pure _ _)))
    (fun c => OwnFrom.and (ownFrom_pure _ _) (OwnFrom.and (own_at _ _ fun _ => _) (OwnFrom.and (ownFrom_below (Nat.le_refl _) (by omega)) (ownFrom_pure _ _)))) ⟨aR, hb0, fun x hx => by simp at hx⟩ ?round ?done ?stop
  case round =>
    rintro lp pre ⟨i, z⟩ W hlp hlt hpre ⟨hT, hB, hno⟩
    have HNO := Lib.hid hno
    have HP := Lib.hid hpre
    have HB := Lib.hid hB
    have HT := Lib.hid hT
    clear hno hpre hT hB
    simp only [encL]
    gi_wp2
    refine ⟨Kep.refl _ _ _, fun W2 hTn => ?_⟩
    have hB2 : Below w.heap.size w W2 := HB.out.trans (hTn.below (by omega))
    have hT2 := HT.out.turn hTn
    have KB := Lib.hid hB2
    have KT := Lib.hid hT2
    obtain ⟨c5, f5⟩ := hT2
    clear hTn hB2
    by_cases hz : z ≤ 0
    · gi_wp2
      refine ⟨Kep.setCell (Kep.refl _ _ _) ?_ _, rfl, KT.out.set, below_set KB.out (by show w.heap.size ≤ w.heap.size + 1; omega) _, ⟨(i, z), by simp, hz⟩⟩
      rintro (h | h)
      · simp only at h; omega
      · have := HV.out _ h; simp only at this; omega
    · gi_wp2
      exact ⟨Kep.refl _ _ _, KT.out, KB.out, HNO.out.snoc (by simp only; omega)⟩
  case done =>
    rintro D W hD ⟨hT, hB, hno⟩ hK
    have E : Hid (slackErr l = 0) := slackErr_no hno
    have KT := Lib.hid hT
    obtain ⟨hT1, hT2⟩ := hT
    have HB := Lib.hid hB
    clear hno hB
    gi_wp2
    have hK2 := (KeepsOthers.setCell W ⟨w.heap.size + 1, 0, none⟩ (.int .i64 0)).same D _ hK rfl
    have k5 := ((KT.out.set (u := .int .i64 0)).put (o' := .deferred none) hK2 rfl rfl).1
    refine ⟨by simp, .inl ⟨_, _, rfl, run_takeDeferred hK2, ?_⟩⟩
    exact ⟨.int .i64 0, by simp [results, Try.results142, go_sem, k5], ret_int E.out.symm, below_put (below_set HB.out (by show w.heap.size ≤ w.heap.size + 1; omega) _) (Nat.le_refl _) (by omega) hK2⟩
  case stop =>
    rintro D c pre W hD hpre ⟨rfl, hT, hB, x, hx, hon⟩ hK
    have E : Hid (slackErr l = 21) := slackErr_some ⟨x, hpre.subset hx, hon⟩
    have KT := Lib.hid hT
    obtain ⟨hT1, hT2⟩ := hT
    have HB := Lib.hid hB
    clear hB hx hon hpre
    gi_wp2
    have k5 := (KT.out.put (o' := .deferred none) hK rfl rfl).1
    refine ⟨by simp, .inl ⟨_, _, rfl, run_takeDeferred hK, ?_⟩⟩
    exact ⟨.int .i64 21, by simp [results, Try.results142, go_sem, k5], ret_int E.out.symm, below_put HB.out (Nat.le_refl _) (by omega) hK⟩
end Go.Proofs.Ytghglgaimhfedaa
