/-
  Walks of chapter 1's checks of lines and links.
-/
import Derived.Test.YtegkppphaglpgaaWf
import Derived.Test.YtegkppphaglpgaaSl
import Derived.Test.YtegkppphaglpgaaWy
import Derived.Test.YtegkppphaglpgaaRv
namespace Go.Proofs.Ytegkppphaglpgaa
open Go.RowKit Go.Shelf

attribute [local go_sem] monoUpon_value monoUpon_skip monoUpon_enter

theorem linkErr_first (k : Lk) : firstErr [limErr 1 1000 k.1, szErr 1000 [k.2.1], limErr 0 20 k.2.2] = linkErr k := by
  obtain ⟨h, wt, d⟩ := k
  have hw : szErr 1000 [wt] = if -1000 ≤ wt ∧ wt ≤ 1000 then 0 else 2 := by simp [szErr, inR, inB]
  simp only [firstErr, hw, limErr, linkErr]
  by_cases a : 1 ≤ h <;> by_cases b : h ≤ 1000 <;> by_cases c : -1000 ≤ wt <;> by_cases e : wt ≤ 1000 <;> by_cases f : 0 ≤ d <;> by_cases g : d ≤ 20 <;> simp [a, b, c, e, f, g]
set_option maxRecDepth 100000 in
set_option maxHeartbeats 1000000 in
theorem link1_any (k : Lk) (w : World) :
    Calls Try.prog 88 #[.agg #[.int .i64 k.1, .int .i64 k.2.1, .int .i64 k.2.2]] w fun e w' => e = .returned (.int .i64 (linkErr k)) ∧ Below w.heap.size w w' := by
  have E := Lib.hid (linkErr_first k)
  obtain ⟨h, wt, d⟩ := k
  simp only at *
  have H1 := Lib.hid (rfl : limErr 1 1000 h = limErr 1 1000 h)
  generalize he1 : limErr 1 1000 h = q1 at *
  generalize he2 : szErr 1000 [wt] = q2 at *
  generalize he3 : limErr 0 20 d = q3 at *
  have HE := Lib.hid (And.intro he1 (And.intro he2 he3))
  clear he1 he2 he3 H1
  go_enter Try.func88, Try.ntmps88
  go_wp2_with fail
  obtain ⟨W0, hW0⟩ : ∃ W0, W0 = w.alloc (.cells #[.int .i64 h, .int .i64 wt, .int .i64 d] 63) := ⟨_, rfl⟩
  rw [← hW0]
  have HB0 : Hid (Below w.heap.size w W0) := by rw [hW0]; exact below_alloc1 _ _
  have HX : Hid (∀ W, Below W0.drew.heap.size W0.drew W → W.cell? ⟨w.heap.size, 0, none⟩ = some (.int .i64 h) ∧ W.cell? ⟨w.heap.size, 1, none⟩ = some (.int .i64 wt) ∧ W.cell? ⟨w.heap.size, 2, none⟩ = some (.int .i64 d)) := by
    intro W h'
    rw [hW0] at h'
    have bx := fun j v hv => (At.new w #[.int .i64 h, .int .i64 wt, .int .i64 d] 63 j v hv).drew.below h'
    exact ⟨(bx 0 _ rfl).1, (bx 1 _ rfl).1, (bx 2 _ rfl).1⟩
  clear hW0
  refine wp_region_mono 12 [3, 4, 5, 6, 7, 8, 9, 10, 11, 12, 13, 14] [[], [0], [1], [], [3], [4], [5], [], [7], [8], [2, 6, 9], [10]] [fun v _ => v = .pointer (some ⟨w.heap.size, 0, none⟩), fun v _ => v = .int .i64 h, fun v _ => v = .int .i64 q1, fun v _ => v = .pointer (some ⟨w.heap.size, 1, none⟩), fun v _ => v = .int .i64 wt, fun v w => Sl e1 1 w v [wt], fun v _ => v = .int .i64 q2, fun v _ => v = .pointer (some ⟨w.heap.size, 2, none⟩), fun v _ => v = .int .i64 d, fun v _ => v = .int .i64 q3, fun v w => Sl e1 1 w v [q1, q2, q3], fun v _ => v = .int .i64 (firstErr [q1, q2, q3])] (by kernel_rfl) (by kernel_rfl) ⟨st_eq _, st_eq _, st_eq _, st_eq _, st_eq _, st_sl _ _ _, st_eq _, st_eq _, st_eq _, st_eq _, st_sl _ _ _, st_eq _, trivial⟩ ?_ ?_
  · simp only [List.take_succ_cons, List.take_zero, steps, and_true]
    refine ⟨?_, ?_, ?_, ?_, ?_, ?_, ?_, ?_, ?_, ?_, ?_, ?_⟩
    · intro x W hB hN; simp only [needs, sAt, dAt] at hN; simp only [putX, setX, List.foldl_cons, List.foldl_nil]; refine ⟨?_⟩; go_simp; exact ⟨rfl, Below.refl _ _⟩
    · intro x W hB hN; simp only [needs, sAt, dAt] at hN; simp only [putX, setX, List.foldl_cons, List.foldl_nil]; obtain ⟨c0, c1, c2⟩ := HX.out W hB; refine ⟨?_⟩; go_simp; exact ⟨rfl, Below.refl _ _⟩
    · intro x W hB hN; simp only [needs, sAt, dAt] at hN; simp only [putX, setX, List.foldl_cons, List.foldl_nil]; refine ⟨?_⟩; go_simp; refine (LimitError_any _ _ _ _).mono ?_; rintro e w' ⟨rfl, rfl⟩; exact ⟨_, rfl, by rw [HE.out.1]; rfl, Below.refl _ _⟩
    · intro x W hB hN; simp only [needs, sAt, dAt] at hN; simp only [putX, setX, List.foldl_cons, List.foldl_nil]; refine ⟨?_⟩; go_simp; exact ⟨rfl, Below.refl _ _⟩
    · intro x W hB hN; simp only [needs, sAt, dAt] at hN; simp only [putX, setX, List.foldl_cons, List.foldl_nil]; obtain ⟨c0, c1, c2⟩ := HX.out W hB; refine ⟨?_⟩; go_simp; exact ⟨rfl, Below.refl _ _⟩
    · intro x W hB hN; simp only [needs, sAt, dAt] at hN; simp only [putX, setX, List.foldl_cons, List.foldl_nil]; refine ⟨?_⟩; go_simp; exact ⟨sl1 _ _ _, below_alloc1 _ _⟩
    · intro x W hB hN; simp only [needs, sAt, dAt] at hN; simp only [putX, setX, List.foldl_cons, List.foldl_nil]; refine ⟨?_⟩; go_simp; refine (SizeError_any 1000 _ [wt] _ (by omega) (by omega) hN.1 (by simp)).mono ?_; rintro e w' ⟨rfl, rfl⟩; exact ⟨_, rfl, by rw [HE.out.2.1]; rfl, Below.refl _ _⟩
    · intro x W hB hN; simp only [needs, sAt, dAt] at hN; simp only [putX, setX, List.foldl_cons, List.foldl_nil]; refine ⟨?_⟩; go_simp; exact ⟨rfl, Below.refl _ _⟩
    · intro x W hB hN; simp only [needs, sAt, dAt] at hN; simp only [putX, setX, List.foldl_cons, List.foldl_nil]; obtain ⟨c0, c1, c2⟩ := HX.out W hB; refine ⟨?_⟩; go_simp; exact ⟨rfl, Below.refl _ _⟩
    · intro x W hB hN; simp only [needs, sAt, dAt] at hN; simp only [putX, setX, List.foldl_cons, List.foldl_nil]; refine ⟨?_⟩; go_simp; refine (LimitError_any _ _ _ _).mono ?_; rintro e w' ⟨rfl, rfl⟩; exact ⟨_, rfl, by rw [HE.out.2.2]; rfl, Below.refl _ _⟩
    · intro x W hB hN; simp only [needs, sAt, dAt] at hN; simp only [putX, setX, List.foldl_cons, List.foldl_nil]; refine ⟨?_⟩; go_simp; exact ⟨sl3 _ _ _ _ _, below_alloc1 _ _⟩
    · intro x W hB hN; simp only [needs, sAt, dAt] at hN; simp only [putX, setX, List.foldl_cons, List.foldl_nil]; refine ⟨?_⟩; go_simp; refine (FirstError_any _ [q1, q2, q3] _ hN.1 (by simp)).mono ?_; rintro e w' ⟨rfl, rfl⟩; exact ⟨_, rfl, rfl, Below.refl _ _⟩
  · intro x W hB hA
    simp only [allSp] at hA
    have q := hA.2.2.2.2.2.2.2.2.2.2.2.1
    clear hA
    simp only [putX, setX, List.foldl_cons, List.foldl_nil, List.drop_succ_cons, List.drop_zero]
    go_wp2_with fail
    go_ret
    exact ⟨ret_int E.out, below_tr HB0.out (Below.trans (Below.drew (Below.refl _ _)) hB)⟩

theorem ret_pair' {q : Int × Int} {a b : Int} (h : q = (a, b)) : Ending.returned (.tuple #[.int .i64 a, .int .i64 b]) = .returned (.tuple #[.int .i64 q.1, .int .i64 q.2]) := by rw [h]
theorem checkLine_sz (x z : Int) (ks : List Lk) : checkLine ⟨x, z, ks⟩ = if szErr 10000 [x, z] = 0 then (if ks.length = 0 then (0, 10) else if 10 < ks.length then (0, 8) else fb linkErr ks 0) else (0, szErr 10000 [x, z]) := by
  unfold checkLine szErr
  cases h1 : inR 10000 x <;> cases h2 : inR 10000 z <;> simp [h1, h2]
set_option maxHeartbeats 1000000 in
theorem CheckLine_any (v : Value) (l : Ln) (w : World) (hs : Sl e3 3 w v l.ks) (hbig : l.ks.length ≤ 1000) :
    Calls Try.prog 16 #[.agg #[.int .i64 l.x, .int .i64 l.z, v]] w fun e w' => e = .returned (.tuple #[.int .i64 (checkLine l).1, .int .i64 (checkLine l).2]) ∧ Below w.heap.size w w' := by
  have HS := Lib.hid hs
  obtain ⟨A, c, rfl, hcap⟩ := hs.form
  clear hs
  obtain ⟨x, z, ks⟩ := l
  simp only at *
  have E0 := checkLine_sz x z ks
  generalize checkLine ⟨x, z, ks⟩ = res at *
  have HQ := Lib.hid (rfl : szErr 10000 [x, z] = szErr 10000 [x, z])
  generalize hq : szErr 10000 [x, z] = q at *
  have HE := Lib.hid hq
  clear hq HQ
  have H := Lib.hid (sl2 (w.alloc (.cells #[.int .i64 x, .int .i64 z, .slice A ks.length c] 26)) x z 3)
  by_cases h : q = 0
  · rw [if_pos h] at E0
    have h' := ne0 h
    clear h
    by_cases h0 : ks.length = 0
    · rw [if_pos h0] at E0
      have E := Lib.hid E0
      have h0' := eq0 (n := (ks.length : Int)) (by omega)
      clear E0 h0
      go_enter Try.func16, Try.ntmps16
      go_wp2_with (go_at_call 86; refine (SizeError_any _ _ [x, z] _ (by omega) (by omega) (by simpa using H.out) (by simp)).mono ?_; rw [HE.out]; rintro e w' ⟨rfl, rfl⟩)
      go_ret2
      exact ⟨ret_pair' E.out, (by repeat (first | assumption | exact Below.refl _ _ | refine below_al ?_ _ | refine below_dr ?_ | refine below_tr ?_ (by assumption)))⟩
    · rw [if_neg h0] at E0
      have h0' := eq1 (n := (ks.length : Int)) (by omega)
      clear h0
      by_cases h1 : 10 < ks.length
      · rw [if_pos h1] at E0
        have E := Lib.hid E0
        clear E0
        go_enter Try.func16, Try.ntmps16
        go_wp2_with (go_at_call 86; refine (SizeError_any _ _ [x, z] _ (by omega) (by omega) (by simpa using H.out) (by simp)).mono ?_; rw [HE.out]; rintro e w' ⟨rfl, rfl⟩)
        go_ret2
        exact ⟨ret_pair' E.out, (by repeat (first | assumption | exact Below.refl _ _ | refine below_al ?_ _ | refine below_dr ?_ | refine below_tr ?_ (by assumption)))⟩
      · rw [if_neg h1] at E0
        have E := Lib.hid E0
        clear E0
        go_enter Try.func16, Try.ntmps16
        go_wp2_with (first
          | (go_at_call 86; refine (SizeError_any _ _ [x, z] _ (by omega) (by omega) (by simpa using H.out) (by simp)).mono ?_; rw [HE.out]; rintro e w' ⟨rfl, rfl⟩)
          | (go_at_call 87; refine (fbl_any 88 #[] (enters_of Try.func88 (by kernel_rfl) rfl) linkErr _ ks _ ((HS.out.alloc _).alloc _) hbig (fun _ => True) (fun _ _ _ _ => trivial) trivial (fun k _ W _ => link1_any k W)).mono ?_; rintro e w1 ⟨rfl, hb1⟩))
        go_ret2
        exact ⟨by rw [E.out]; rfl, below_tr (below_al (below_alloc1 _ _) _) hb1⟩
  · rw [if_neg h] at E0
    have h' := ne1 h
    have E := Lib.hid E0
    clear h E0
    go_enter Try.func16, Try.ntmps16
    go_wp2_with (go_at_call 86; refine (SizeError_any _ _ [x, z] _ (by omega) (by omega) (by simpa using H.out) (by simp)).mono ?_; rw [HE.out]; rintro e w' ⟨rfl, rfl⟩)
    go_ret2
    exact ⟨ret_pair' E.out, (by repeat (first | assumption | exact Below.refl _ _ | refine below_al ?_ _ | refine below_dr ?_ | refine below_tr ?_ (by assumption)))⟩
end Go.Proofs.Ytegkppphaglpgaa
