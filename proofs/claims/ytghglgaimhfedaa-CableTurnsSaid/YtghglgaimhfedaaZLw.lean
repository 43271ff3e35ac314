/-
  The law CableTurns, walked: what the program says of windings is what the reference says.
-/
import Derived.Test.YtghglgaimhfedaaQK
import Derived.Test.YtghglgaimhfedaaQD
import Derived.Test.YtghglgaimhfedaaQH
namespace Go.Proofs.Ytghglgaimhfedaa
open Go.RowKit Go.Shelf
attribute [local go_sem] monoUpon_value monoUpon_skip monoUpon_enter

theorem awakeB (w : World) : Calls Try.prog 14 #[] w fun e w' => e = .returned (.bool true) ∧ Below w.heap.size w w' := awake_any w
set_option maxRecDepth 100000 in
set_option maxHeartbeats 1000000 in
theorem turns_far (v u : Value) (n m : Nat) (p : Pt) (w : World) (A : Option Addr) (c : Nat) (A' : Option Addr) (c' : Nat) (hv : v = .slice A n c) (hu : u = .slice A' m c') (h : 32 < n ∨ 12 < m) :
    Calls Try.prog 11 #[v, u, .agg #[.int .i64 p.1, .int .i64 p.2]] w fun e w' => e = .returned (.bool true) ∧ Below w.heap.size w w' := by
  subst hv; subst hu
  by_cases h1 : 32 < n
  · go_enter Try.func11, Try.ntmps11
    go_wp2_with (go_at_call 14; refine (awakeB _).mono ?_; rintro e w1 ⟨rfl, b1⟩)
    go_ret
    exact ⟨rfl, below_tr (below_alloc1 _ _) b1⟩
  · have h2 : 12 < m := by omega
    go_enter Try.func11, Try.ntmps11
    go_wp2_with (go_at_call 14; refine (awakeB _).mono ?_; rintro e w1 ⟨rfl, b1⟩)
    go_ret
    exact ⟨rfl, below_tr (below_alloc1 _ _) b1⟩
theorem wound_len (path : List Pt) : ∀ (posts : List Pt) (i : Nat), (wound path posts i).length ≤ posts.length
  | [], _ => Nat.le_refl _
  | q :: r, i => by
    have := wound_len path r (i + 1)
    rw [wound]
    split
    · simp only [List.length_cons]; omega
    · simp only [List.length_cons]; omega
set_option maxRecDepth 100000 in
set_option maxHeartbeats 4000000 in
theorem turns_any (v u : Value) (path posts : List Pt) (p : Pt) (w : World) (hs : Sl e2 2 w v path) (hu : Sl e2 2 w u posts) (hn : path.length ≤ 32) (hm : posts.length ≤ 12) :
    Calls Try.prog 11 #[v, u, .agg #[.int .i64 p.1, .int .i64 p.2]] w fun e w' => e = .returned (.bool true) ∧ Below w.heap.size w w' := by
  have HS := Lib.hid hs
  have HU := Lib.hid hu
  have HWN := Lib.hid (fun v w h => WindingOf_any v path p w h (by omega))
  have HWA : Hid (∀ v u w, Sl e2 2 w v path → Sl e2 2 w u posts → Calls Try.prog 75 #[v, u] w fun e w' => ∃ r, e = .returned (.tuple #[r, .int .i64 (woundAround path posts).2]) ∧ Sl e1 1 w' r (woundAround path posts).1 ∧ Below w.heap.size w w') := fun v u w h1 h2 =>
    (WoundAround_any v u path posts w h1 h2 (by omega) (by omega)).mono fun e w' ⟨r, a, b, c⟩ => ⟨r, a, b.sl e1_len, c⟩
  obtain ⟨A, c, rfl, hcap⟩ := hs.form
  obtain ⟨A', c', rfl, hcap'⟩ := hu.form
  clear hs hu
  have HPE := Lib.hid (fun w' (h : Sl e2 2 w' (.slice A path.length c) path) => PathErr_any _ path w' h (by omega))
  by_cases h1 : pathErr path = 0
  · obtain ⟨hp1, hp2, hp3⟩ := pathErr_ok h1
    have hsm := ways_sm hp3
    have HPO := Lib.hid (fun w' (h : Sl e2 2 w' (.slice A path.length c) path) => PostErr_any _ path p w' h hp2 hsm)
    have HQE := Lib.hid (fun w' (h : Sl e2 2 w' (.slice A path.length c) path) (k : Sl e2 2 w' (.slice A' posts.length c') posts) => PostsErr_any _ _ path posts w' h k hp2 hsm (by omega))
    have k1 : windingOf path p = if postErr path p = 0 then (winding path p, 0) else (0, postErr path p) := if_pos h1
    have k2 : woundAround path posts = if postsErr path posts = 0 then (wound path posts 0, 0) else ([], postsErr path posts) := if_pos h1
    rw [h1] at HPE
    by_cases h2 : postErr path p = 0
    · rw [if_pos h2] at k1
      rw [k1] at HWN
      have HWI := Lib.hid (fun w' (h : Sl e2 2 w' (.slice A path.length c) path) => Winding_any _ path p w' h hp2 hsm (Sm.of (post_place h2)))
      rw [h2] at HPO
      simp only at HWN
      by_cases h3 : postsErr path posts = 0
      · rw [if_pos h3] at k2
        rw [k2] at HWA
        have HWO : Hid (∀ w, Sl e2 2 w (.slice A path.length c) path → Sl e2 2 w (.slice A' posts.length c') posts → Calls Try.prog 80 #[.slice A path.length c, .slice A' posts.length c'] w fun e w' => ∃ r, e = .returned r ∧ Sl e1 1 w' r (wound path posts 0) ∧ Below w.heap.size w w') := fun w h k =>
          (Wound_any _ _ path posts w h k hp2 hsm (by omega) (fun q hq => Sm.of (post_place ((postsErr_ok h3).2 q hq)))).mono fun e w' ⟨r, a, b, c⟩ => ⟨r, a, b.sl e1_len, c⟩
        have hwl := wound_len path posts 0
        rw [h3] at HQE
        simp only at HWA
        clear k1 k2 h1 h2 h3 hsm hp3
        generalize wound path posts 0 = wl at *
        generalize winding path p = wn at *
        have HIN : Hid (∀ u v w, Sl e1 1 w u wl → Sl e1 1 w v wl → Calls Try.prog 24 #[u, v] w fun e w' => e = .returned (.bool true) ∧ Below w.heap.size w w') := fun u v w h k => by
          have := Ints_any u v wl wl w h k (by omega) (by omega)
          rwa [eqL_refl] at this
        have T2 : Hid True := trivial
        have T3 : Hid True := trivial
        obtain ⟨p1, p2⟩ := p
        simp only at *
        go_enter Try.func11, Try.ntmps11
        go_wp2_with (go_at_call 14; refine (awake_any _).mono ?_; rintro e w1 ⟨rfl, b1⟩; have HBA := Lib.hid b1; clear b1)
        have HX : Hid (∀ W, Below w1.heap.size w1 W → (W.cell? ⟨w.heap.size, 0, none⟩ = some (.int .i64 p1) ∧ W.cell? ⟨w.heap.size, 1, none⟩ = some (.int .i64 p2)) ∧ Sl e2 2 W (.slice A path.length c) path ∧ Sl e2 2 W (.slice A' posts.length c') posts ∧ Below w.heap.size w W) := by
          intro W hW
          have bx := fun j v hv => ((At.new w #[.int .i64 p1, .int .i64 p2] 61 j v hv).below HBA.out).below hW
          exact ⟨⟨(bx 0 _ rfl).1, (bx 1 _ rfl).1⟩, ((HS.out.alloc _).below HBA.out).below hW, ((HU.out.alloc _).below HBA.out).below hW, below_tr (below_tr (below_alloc1 _ _) HBA.out) hW⟩
        have HD : Hid (∀ W, Below w1.drew.heap.size w1.drew W → Below w1.heap.size w1 W) := fun W hW => Below.trans (Below.drew (Below.refl _ _)) hW
        clear HBA
        refine wp_region_mono 8 [23, 24, 25, 26, 22, 27, 28, 7] [[], [0], [], [1, 2], [3], [4], [4], [5]] [fun v _ => v = .slice A path.length c, fun v w => Sl e2 2 w v path, fun v _ => v = .agg #[.int .i64 p1, .int .i64 p2], fun v _ => v = .tuple #[.int .i64 wn, .int .i64 0], fun v _ => v = .tuple #[.int .i64 wn, .int .i64 0], fun v _ => v = .int .i64 wn, fun v _ => v = .int .i64 0, fun v _ => v = .int .i64 wn] (by kernel_rfl) (by kernel_rfl) ⟨st_eq _, st_sl _ _ _, st_eq _, st_eq _, st_eq _, st_eq _, st_eq _, st_eq _, trivial⟩ ?_ ?_
        · simp only [List.take_succ_cons, List.take_zero, steps, and_true]
          refine ⟨?_, ?_, ?_, ?_, ?_, ?_, ?_, ?_⟩
          · intro x W hB _; simp only [putX, setX, List.foldl_cons, List.foldl_nil]; refine ⟨?_⟩; go_simp; exact ⟨rfl, Below.refl _ _⟩
          · intro x W hB hN; simp only [needs, sAt, dAt] at hN; simp only [putX, setX, List.foldl_cons, List.foldl_nil]; refine ⟨?_⟩; go_simp; refine (CopyPath_any _ path _ (HX.out W (HD.out W hB)).2.1 (by omega)).mono ?_; rintro e w' ⟨r, rfl, o, b⟩; exact ⟨_, rfl, o.sl e2_len, b⟩
          · intro x W hB _; simp only [putX, setX, List.foldl_cons, List.foldl_nil]; obtain ⟨⟨g0, g1⟩, _⟩ := HX.out W (HD.out W hB); refine ⟨?_⟩; go_simp; exact ⟨rfl, Below.refl _ _⟩
          · intro x W hB hN; simp only [needs, sAt, dAt] at hN; simp only [putX, setX, List.foldl_cons, List.foldl_nil]; refine ⟨?_⟩; go_simp; refine (HWN.out _ _ hN.1).mono ?_; rintro e w' ⟨rfl, b⟩; exact ⟨_, rfl, rfl, b⟩
          · intro x W hB hN; simp only [needs, sAt, dAt] at hN; simp only [putX, setX, List.foldl_cons, List.foldl_nil]; refine ⟨?_⟩; go_simp; exact ⟨rfl, Below.refl _ _⟩
          · intro x W hB hN; simp only [needs, sAt, dAt] at hN; simp only [putX, setX, List.foldl_cons, List.foldl_nil]; refine ⟨?_⟩; go_simp; exact ⟨rfl, Below.refl _ _⟩
          · intro x W hB hN; simp only [needs, sAt, dAt] at hN; simp only [putX, setX, List.foldl_cons, List.foldl_nil]; refine ⟨?_⟩; go_simp; exact ⟨rfl, Below.refl _ _⟩
          · intro x W hB hN; simp only [needs, sAt, dAt] at hN; simp only [putX, setX, List.foldl_cons, List.foldl_nil]; refine ⟨?_⟩; go_simp; exact ⟨rfl, Below.refl _ _⟩
        · intro x W hB hA
          simp only [allSp] at hA
          have q1 := hA.2.2.2.2.2.1
          have q2 := hA.2.2.2.2.2.2.1
          have q3 := hA.2.2.2.2.2.2.2.1
          have HB1 := Lib.hid (HD.out W hB)
          clear hA hB
          simp only [putX, setX, List.foldl_cons, List.foldl_nil, List.drop_succ_cons, List.drop_zero, q1, q2, q3, List.setIfInBounds_toArray, List.set_cons_succ, List.set_cons_zero]
          clear q1 q2 q3
          go_wp2_with (first
            | (go_at_call 74; clear T2; refine (CopyPath_any _ path _ (HX.out _ HB1.out).2.1 (by omega)).mono ?_; rintro e w2 ⟨r2, rfl, o2, b2⟩; have S2 := Lib.hid (o2.sl e2_len); have HB2 := Lib.hid (below_tr HB1.out b2); clear o2 b2)
            | (go_at_call 74; clear T3; refine (CopyPath_any _ posts _ (HX.out _ HB2.out).2.2.1 (by omega)).mono ?_; rintro e w3 ⟨r3, rfl, o3, b3⟩; have S3 := Lib.hid (And.intro (S2.out.below b3) (o3.sl e2_len)); have HB3 := Lib.hid (below_tr HB2.out b3); clear o3 b3)
            | (go_at_call 75; refine (HWA.out _ _ _ S3.out.1 S3.out.2).mono ?_; rintro e w4 ⟨r4, rfl, s4, b4⟩; obtain ⟨A4, c4, rfl, _⟩ := s4.form; have S4 := Lib.hid s4; have HB4 := Lib.hid (below_tr HB3.out b4); clear s4 b4)
            | (go_at_call 76; refine (HPE.out _ (HX.out _ HB4.out).2.1).mono ?_; rintro e w5 ⟨rfl, b5⟩; have HB5 := Lib.hid (below_tr HB4.out b5); obtain ⟨g0, g1⟩ := (HX.out _ HB5.out).1; have S5 := Lib.hid (S4.out.below b5); clear b5)
            | (go_at_call 77; refine (HPO.out _ (HX.out _ HB5.out).2.1).mono ?_; rintro e w6 ⟨rfl, b6⟩; have HB6 := Lib.hid (below_tr HB5.out b6); obtain ⟨g2, g3⟩ := (HX.out _ HB6.out).1; have S6 := Lib.hid (S5.out.below b6); clear b6)
            | (go_at_call 78; refine (HWI.out _ (HX.out _ HB6.out).2.1).mono ?_; rintro e w7 ⟨rfl, b7⟩; have HB7 := Lib.hid (below_tr HB6.out b7); have S7 := Lib.hid (S6.out.below b7); clear b7)
            | (go_at_call 79; refine (HQE.out _ (HX.out _ HB7.out).2.1 (HX.out _ HB7.out).2.2.1).mono ?_; rintro e w8 ⟨rfl, b8⟩; have HB8 := Lib.hid (below_tr HB7.out b8); have S8 := Lib.hid (S7.out.below b8); clear b8)
            | (go_at_call 80; refine (HWO.out _ (HX.out _ HB8.out).2.1 (HX.out _ HB8.out).2.2.1).mono ?_; rintro e w9 ⟨r9, rfl, s9, b9⟩; have HB9 := Lib.hid (below_tr HB8.out b9); have S9 := Lib.hid (And.intro (S8.out.below b9) s9); clear s9 b9)
            | (go_at_call 24; refine (HIN.out _ _ _ S9.out.1 S9.out.2).mono ?_; rintro e w10 ⟨rfl, b10⟩; have HB10 := Lib.hid (below_tr HB9.out b10); clear b10))
          go_ret
          exact ⟨rfl, (HX.out _ HB10.out).2.2.2⟩
      · rw [if_neg h3] at k2
        rw [k2] at HWA
        simp only at HWA
        have h3' := ne1 h3
        clear k1 k2 h1 h2 h3 hsm hp3
        generalize postsErr path posts = dd at *
        generalize winding path p = wn at *
        have T2 : Hid True := trivial
        have T3 : Hid True := trivial
        obtain ⟨p1, p2⟩ := p
        simp only at *
        go_enter Try.func11, Try.ntmps11
        go_wp2_with (go_at_call 14; refine (awake_any _).mono ?_; rintro e w1 ⟨rfl, b1⟩; have HBA := Lib.hid b1; clear b1)
        have HX : Hid (∀ W, Below w1.heap.size w1 W → (W.cell? ⟨w.heap.size, 0, none⟩ = some (.int .i64 p1) ∧ W.cell? ⟨w.heap.size, 1, none⟩ = some (.int .i64 p2)) ∧ Sl e2 2 W (.slice A path.length c) path ∧ Sl e2 2 W (.slice A' posts.length c') posts ∧ Below w.heap.size w W) := by
          intro W hW
          have bx := fun j v hv => ((At.new w #[.int .i64 p1, .int .i64 p2] 61 j v hv).below HBA.out).below hW
          exact ⟨⟨(bx 0 _ rfl).1, (bx 1 _ rfl).1⟩, ((HS.out.alloc _).below HBA.out).below hW, ((HU.out.alloc _).below HBA.out).below hW, below_tr (below_tr (below_alloc1 _ _) HBA.out) hW⟩
        have HD : Hid (∀ W, Below w1.drew.heap.size w1.drew W → Below w1.heap.size w1 W) := fun W hW => Below.trans (Below.drew (Below.refl _ _)) hW
        clear HBA
        refine wp_region_mono 8 [23, 24, 25, 26, 22, 27, 28, 7] [[], [0], [], [1, 2], [3], [4], [4], [5]] [fun v _ => v = .slice A path.length c, fun v w => Sl e2 2 w v path, fun v _ => v = .agg #[.int .i64 p1, .int .i64 p2], fun v _ => v = .tuple #[.int .i64 wn, .int .i64 0], fun v _ => v = .tuple #[.int .i64 wn, .int .i64 0], fun v _ => v = .int .i64 wn, fun v _ => v = .int .i64 0, fun v _ => v = .int .i64 wn] (by kernel_rfl) (by kernel_rfl) ⟨st_eq _, st_sl _ _ _, st_eq _, st_eq _, st_eq _, st_eq _, st_eq _, st_eq _, trivial⟩ ?_ ?_
        · simp only [List.take_succ_cons, List.take_zero, steps, and_true]
          refine ⟨?_, ?_, ?_, ?_, ?_, ?_, ?_, ?_⟩
          · intro x W hB _; simp only [putX, setX, List.foldl_cons, List.foldl_nil]; refine ⟨?_⟩; go_simp; exact ⟨rfl, Below.refl _ _⟩
          · intro x W hB hN; simp only [needs, sAt, dAt] at hN; simp only [putX, setX, List.foldl_cons, List.foldl_nil]; refine ⟨?_⟩; go_simp; refine (CopyPath_any _ path _ (HX.out W (HD.out W hB)).2.1 (by omega)).mono ?_; rintro e w' ⟨r, rfl, o, b⟩; exact ⟨_, rfl, o.sl e2_len, b⟩
          · intro x W hB _; simp only [putX, setX, List.foldl_cons, List.foldl_nil]; obtain ⟨⟨g0, g1⟩, _⟩ := HX.out W (HD.out W hB); refine ⟨?_⟩; go_simp; exact ⟨rfl, Below.refl _ _⟩
          · intro x W hB hN; simp only [needs, sAt, dAt] at hN; simp only [putX, setX, List.foldl_cons, List.foldl_nil]; refine ⟨?_⟩; go_simp; refine (HWN.out _ _ hN.1).mono ?_; rintro e w' ⟨rfl, b⟩; exact ⟨_, rfl, rfl, b⟩
          · intro x W hB hN; simp only [needs, sAt, dAt] at hN; simp only [putX, setX, List.foldl_cons, List.foldl_nil]; refine ⟨?_⟩; go_simp; exact ⟨rfl, Below.refl _ _⟩
          · intro x W hB hN; simp only [needs, sAt, dAt] at hN; simp only [putX, setX, List.foldl_cons, List.foldl_nil]; refine ⟨?_⟩; go_simp; exact ⟨rfl, Below.refl _ _⟩
          · intro x W hB hN; simp only [needs, sAt, dAt] at hN; simp only [putX, setX, List.foldl_cons, List.foldl_nil]; refine ⟨?_⟩; go_simp; exact ⟨rfl, Below.refl _ _⟩
          · intro x W hB hN; simp only [needs, sAt, dAt] at hN; simp only [putX, setX, List.foldl_cons, List.foldl_nil]; refine ⟨?_⟩; go_simp; exact ⟨rfl, Below.refl _ _⟩
        · intro x W hB hA
          simp only [allSp] at hA
          have q1 := hA.2.2.2.2.2.1
          have q2 := hA.2.2.2.2.2.2.1
          have q3 := hA.2.2.2.2.2.2.2.1
          have HB1 := Lib.hid (HD.out W hB)
          clear hA hB
          simp only [putX, setX, List.foldl_cons, List.foldl_nil, List.drop_succ_cons, List.drop_zero, q1, q2, q3, List.setIfInBounds_toArray, List.set_cons_succ, List.set_cons_zero]
          clear q1 q2 q3
          go_wp2_with (first
            | (go_at_call 74; clear T2; refine (CopyPath_any _ path _ (HX.out _ HB1.out).2.1 (by omega)).mono ?_; rintro e w2 ⟨r2, rfl, o2, b2⟩; have S2 := Lib.hid (o2.sl e2_len); have HB2 := Lib.hid (below_tr HB1.out b2); clear o2 b2)
            | (go_at_call 74; clear T3; refine (CopyPath_any _ posts _ (HX.out _ HB2.out).2.2.1 (by omega)).mono ?_; rintro e w3 ⟨r3, rfl, o3, b3⟩; have S3 := Lib.hid (And.intro (S2.out.below b3) (o3.sl e2_len)); have HB3 := Lib.hid (below_tr HB2.out b3); clear o3 b3)
            | (go_at_call 75; refine (HWA.out _ _ _ S3.out.1 S3.out.2).mono ?_; rintro e w4 ⟨r4, rfl, s4, b4⟩; obtain ⟨A4, c4, rfl, _⟩ := s4.form; have S4 := Lib.hid s4; have HB4 := Lib.hid (below_tr HB3.out b4); clear s4 b4)
            | (go_at_call 76; refine (HPE.out _ (HX.out _ HB4.out).2.1).mono ?_; rintro e w5 ⟨rfl, b5⟩; have HB5 := Lib.hid (below_tr HB4.out b5); obtain ⟨g0, g1⟩ := (HX.out _ HB5.out).1; have S5 := Lib.hid (S4.out.below b5); clear b5)
            | (go_at_call 77; refine (HPO.out _ (HX.out _ HB5.out).2.1).mono ?_; rintro e w6 ⟨rfl, b6⟩; have HB6 := Lib.hid (below_tr HB5.out b6); obtain ⟨g2, g3⟩ := (HX.out _ HB6.out).1; have S6 := Lib.hid (S5.out.below b6); clear b6)
            | (go_at_call 78; refine (HWI.out _ (HX.out _ HB6.out).2.1).mono ?_; rintro e w7 ⟨rfl, b7⟩; have HB7 := Lib.hid (below_tr HB6.out b7); have S7 := Lib.hid (S6.out.below b7); clear b7)
            | (go_at_call 79; refine (HQE.out _ (HX.out _ HB7.out).2.1 (HX.out _ HB7.out).2.2.1).mono ?_; rintro e w8 ⟨rfl, b8⟩; have HB8 := Lib.hid (below_tr HB7.out b8); have S8 := Lib.hid (S7.out.below b8); clear b8))
          go_ret
          exact ⟨rfl, (HX.out _ HB8.out).2.2.2⟩
    · rw [if_neg h2] at k1
      rw [k1] at HWN
      simp only at HWN
      have h2' := ne1 h2
      have h2'' := eq1 h2
      by_cases h3 : postsErr path posts = 0
      · rw [if_pos h3] at k2
        rw [k2] at HWA
        have HWO : Hid (∀ w, Sl e2 2 w (.slice A path.length c) path → Sl e2 2 w (.slice A' posts.length c') posts → Calls Try.prog 80 #[.slice A path.length c, .slice A' posts.length c'] w fun e w' => ∃ r, e = .returned r ∧ Sl e1 1 w' r (wound path posts 0) ∧ Below w.heap.size w w') := fun w h k =>
          (Wound_any _ _ path posts w h k hp2 hsm (by omega) (fun q hq => Sm.of (post_place ((postsErr_ok h3).2 q hq)))).mono fun e w' ⟨r, a, b, c⟩ => ⟨r, a, b.sl e1_len, c⟩
        have hwl := wound_len path posts 0
        rw [h3] at HQE
        simp only at HWA
        clear k1 k2 h1 h2 h3 hsm hp3
        generalize wound path posts 0 = wl at *
        generalize postErr path p = d at *
        have HIN : Hid (∀ u v w, Sl e1 1 w u wl → Sl e1 1 w v wl → Calls Try.prog 24 #[u, v] w fun e w' => e = .returned (.bool true) ∧ Below w.heap.size w w') := fun u v w h k => by
          have := Ints_any u v wl wl w h k (by omega) (by omega)
          rwa [eqL_refl] at this
        have T2 : Hid True := trivial
        have T3 : Hid True := trivial
        obtain ⟨p1, p2⟩ := p
        simp only at *
        go_enter Try.func11, Try.ntmps11
        go_wp2_with (go_at_call 14; refine (awake_any _).mono ?_; rintro e w1 ⟨rfl, b1⟩; have HBA := Lib.hid b1; clear b1)
        have HX : Hid (∀ W, Below w1.heap.size w1 W → (W.cell? ⟨w.heap.size, 0, none⟩ = some (.int .i64 p1) ∧ W.cell? ⟨w.heap.size, 1, none⟩ = some (.int .i64 p2)) ∧ Sl e2 2 W (.slice A path.length c) path ∧ Sl e2 2 W (.slice A' posts.length c') posts ∧ Below w.heap.size w W) := by
          intro W hW
          have bx := fun j v hv => ((At.new w #[.int .i64 p1, .int .i64 p2] 61 j v hv).below HBA.out).below hW
          exact ⟨⟨(bx 0 _ rfl).1, (bx 1 _ rfl).1⟩, ((HS.out.alloc _).below HBA.out).below hW, ((HU.out.alloc _).below HBA.out).below hW, below_tr (below_tr (below_alloc1 _ _) HBA.out) hW⟩
        have HD : Hid (∀ W, Below w1.drew.heap.size w1.drew W → Below w1.heap.size w1 W) := fun W hW => Below.trans (Below.drew (Below.refl _ _)) hW
        clear HBA
        refine wp_region_mono 8 [23, 24, 25, 26, 22, 27, 28, 7] [[], [0], [], [1, 2], [3], [4], [4], [5]] [fun v _ => v = .slice A path.length c, fun v w => Sl e2 2 w v path, fun v _ => v = .agg #[.int .i64 p1, .int .i64 p2], fun v _ => v = .tuple #[.int .i64 0, .int .i64 d], fun v _ => v = .tuple #[.int .i64 0, .int .i64 d], fun v _ => v = .int .i64 0, fun v _ => v = .int .i64 d, fun v _ => v = .int .i64 0] (by kernel_rfl) (by kernel_rfl) ⟨st_eq _, st_sl _ _ _, st_eq _, st_eq _, st_eq _, st_eq _, st_eq _, st_eq _, trivial⟩ ?_ ?_
        · simp only [List.take_succ_cons, List.take_zero, steps, and_true]
          refine ⟨?_, ?_, ?_, ?_, ?_, ?_, ?_, ?_⟩
          · intro x W hB _; simp only [putX, setX, List.foldl_cons, List.foldl_nil]; refine ⟨?_⟩; go_simp; exact ⟨rfl, Below.refl _ _⟩
          · intro x W hB hN; simp only [needs, sAt, dAt] at hN; simp only [putX, setX, List.foldl_cons, List.foldl_nil]; refine ⟨?_⟩; go_simp; refine (CopyPath_any _ path _ (HX.out W (HD.out W hB)).2.1 (by omega)).mono ?_; rintro e w' ⟨r, rfl, o, b⟩; exact ⟨_, rfl, o.sl e2_len, b⟩
          · intro x W hB _; simp only [putX, setX, List.foldl_cons, List.foldl_nil]; obtain ⟨⟨g0, g1⟩, _⟩ := HX.out W (HD.out W hB); refine ⟨?_⟩; go_simp; exact ⟨rfl, Below.refl _ _⟩
          · intro x W hB hN; simp only [needs, sAt, dAt] at hN; simp only [putX, setX, List.foldl_cons, List.foldl_nil]; refine ⟨?_⟩; go_simp; refine (HWN.out _ _ hN.1).mono ?_; rintro e w' ⟨rfl, b⟩; exact ⟨_, rfl, rfl, b⟩
          · intro x W hB hN; simp only [needs, sAt, dAt] at hN; simp only [putX, setX, List.foldl_cons, List.foldl_nil]; refine ⟨?_⟩; go_simp; exact ⟨rfl, Below.refl _ _⟩
          · intro x W hB hN; simp only [needs, sAt, dAt] at hN; simp only [putX, setX, List.foldl_cons, List.foldl_nil]; refine ⟨?_⟩; go_simp; exact ⟨rfl, Below.refl _ _⟩
          · intro x W hB hN; simp only [needs, sAt, dAt] at hN; simp only [putX, setX, List.foldl_cons, List.foldl_nil]; refine ⟨?_⟩; go_simp; exact ⟨rfl, Below.refl _ _⟩
          · intro x W hB hN; simp only [needs, sAt, dAt] at hN; simp only [putX, setX, List.foldl_cons, List.foldl_nil]; refine ⟨?_⟩; go_simp; exact ⟨rfl, Below.refl _ _⟩
        · intro x W hB hA
          simp only [allSp] at hA
          have q1 := hA.2.2.2.2.2.1
          have q2 := hA.2.2.2.2.2.2.1
          have q3 := hA.2.2.2.2.2.2.2.1
          have HB1 := Lib.hid (HD.out W hB)
          clear hA hB
          simp only [putX, setX, List.foldl_cons, List.foldl_nil, List.drop_succ_cons, List.drop_zero, q1, q2, q3, List.setIfInBounds_toArray, List.set_cons_succ, List.set_cons_zero]
          clear q1 q2 q3
          go_wp2_with (first
            | (go_at_call 74; clear T2; refine (CopyPath_any _ path _ (HX.out _ HB1.out).2.1 (by omega)).mono ?_; rintro e w2 ⟨r2, rfl, o2, b2⟩; have S2 := Lib.hid (o2.sl e2_len); have HB2 := Lib.hid (below_tr HB1.out b2); clear o2 b2)
            | (go_at_call 74; clear T3; refine (CopyPath_any _ posts _ (HX.out _ HB2.out).2.2.1 (by omega)).mono ?_; rintro e w3 ⟨r3, rfl, o3, b3⟩; have S3 := Lib.hid (And.intro (S2.out.below b3) (o3.sl e2_len)); have HB3 := Lib.hid (below_tr HB2.out b3); clear o3 b3)
            | (go_at_call 75; refine (HWA.out _ _ _ S3.out.1 S3.out.2).mono ?_; rintro e w4 ⟨r4, rfl, s4, b4⟩; obtain ⟨A4, c4, rfl, _⟩ := s4.form; have S4 := Lib.hid s4; have HB4 := Lib.hid (below_tr HB3.out b4); clear s4 b4)
            | (go_at_call 76; refine (HPE.out _ (HX.out _ HB4.out).2.1).mono ?_; rintro e w5 ⟨rfl, b5⟩; have HB5 := Lib.hid (below_tr HB4.out b5); obtain ⟨g0, g1⟩ := (HX.out _ HB5.out).1; have S5 := Lib.hid (S4.out.below b5); clear b5)
            | (go_at_call 77; refine (HPO.out _ (HX.out _ HB5.out).2.1).mono ?_; rintro e w6 ⟨rfl, b6⟩; have HB6 := Lib.hid (below_tr HB5.out b6); obtain ⟨g2, g3⟩ := (HX.out _ HB6.out).1; have S6 := Lib.hid (S5.out.below b6); clear b6)
            | (go_at_call 79; refine (HQE.out _ (HX.out _ HB6.out).2.1 (HX.out _ HB6.out).2.2.1).mono ?_; rintro e w8 ⟨rfl, b8⟩; have HB8 := Lib.hid (below_tr HB6.out b8); have S8 := Lib.hid (S6.out.below b8); clear b8)
            | (go_at_call 80; refine (HWO.out _ (HX.out _ HB8.out).2.1 (HX.out _ HB8.out).2.2.1).mono ?_; rintro e w9 ⟨r9, rfl, s9, b9⟩; have HB9 := Lib.hid (below_tr HB8.out b9); have S9 := Lib.hid (And.intro (S8.out.below b9) s9); clear s9 b9)
            | (go_at_call 24; refine (HIN.out _ _ _ S9.out.1 S9.out.2).mono ?_; rintro e w10 ⟨rfl, b10⟩; have HB10 := Lib.hid (below_tr HB9.out b10); clear b10))
          go_ret
          exact ⟨rfl, (HX.out _ HB10.out).2.2.2⟩
      · rw [if_neg h3] at k2
        rw [k2] at HWA
        simp only at HWA
        have h3' := ne1 h3
        clear k1 k2 h1 h2 h3 hsm hp3
        generalize postsErr path posts = dd at *
        generalize postErr path p = d at *
        have T2 : Hid True := trivial
        have T3 : Hid True := trivial
        obtain ⟨p1, p2⟩ := p
        simp only at *
        go_enter Try.func11, Try.ntmps11
        go_wp2_with (go_at_call 14; refine (awake_any _).mono ?_; rintro e w1 ⟨rfl, b1⟩; have HBA := Lib.hid b1; clear b1)
        have HX : Hid (∀ W, Below w1.heap.size w1 W → (W.cell? ⟨w.heap.size, 0, none⟩ = some (.int .i64 p1) ∧ W.cell? ⟨w.heap.size, 1, none⟩ = some (.int .i64 p2)) ∧ Sl e2 2 W (.slice A path.length c) path ∧ Sl e2 2 W (.slice A' posts.length c') posts ∧ Below w.heap.size w W) := by
          intro W hW
          have bx := fun j v hv => ((At.new w #[.int .i64 p1, .int .i64 p2] 61 j v hv).below HBA.out).below hW
          exact ⟨⟨(bx 0 _ rfl).1, (bx 1 _ rfl).1⟩, ((HS.out.alloc _).below HBA.out).below hW, ((HU.out.alloc _).below HBA.out).below hW, below_tr (below_tr (below_alloc1 _ _) HBA.out) hW⟩
        have HD : Hid (∀ W, Below w1.drew.heap.size w1.drew W → Below w1.heap.size w1 W) := fun W hW => Below.trans (Below.drew (Below.refl _ _)) hW
        clear HBA
        refine wp_region_mono 8 [23, 24, 25, 26, 22, 27, 28, 7] [[], [0], [], [1, 2], [3], [4], [4], [5]] [fun v _ => v = .slice A path.length c, fun v w => Sl e2 2 w v path, fun v _ => v = .agg #[.int .i64 p1, .int .i64 p2], fun v _ => v = .tuple #[.int .i64 0, .int .i64 d], fun v _ => v = .tuple #[.int .i64 0, .int .i64 d], fun v _ => v = .int .i64 0, fun v _ => v = .int .i64 d, fun v _ => v = .int .i64 0] (by kernel_rfl) (by kernel_rfl) ⟨st_eq _, st_sl _ _ _, st_eq _, st_eq _, st_eq _, st_eq _, st_eq _, st_eq _, trivial⟩ ?_ ?_
        · simp only [List.take_succ_cons, List.take_zero, steps, and_true]
          refine ⟨?_, ?_, ?_, ?_, ?_, ?_, ?_, ?_⟩
          · intro x W hB _; simp only [putX, setX, List.foldl_cons, List.foldl_nil]; refine ⟨?_⟩; go_simp; exact ⟨rfl, Below.refl _ _⟩
          · intro x W hB hN; simp only [needs, sAt, dAt] at hN; simp only [putX, setX, List.foldl_cons, List.foldl_nil]; refine ⟨?_⟩; go_simp; refine (CopyPath_any _ path _ (HX.out W (HD.out W hB)).2.1 (by omega)).mono ?_; rintro e w' ⟨r, rfl, o, b⟩; exact ⟨_, rfl, o.sl e2_len, b⟩
          · intro x W hB _; simp only [putX, setX, List.foldl_cons, List.foldl_nil]; obtain ⟨⟨g0, g1⟩, _⟩ := HX.out W (HD.out W hB); refine ⟨?_⟩; go_simp; exact ⟨rfl, Below.refl _ _⟩
          · intro x W hB hN; simp only [needs, sAt, dAt] at hN; simp only [putX, setX, List.foldl_cons, List.foldl_nil]; refine ⟨?_⟩; go_simp; refine (HWN.out _ _ hN.1).mono ?_; rintro e w' ⟨rfl, b⟩; exact ⟨_, rfl, rfl, b⟩
          · intro x W hB hN; simp only [needs, sAt, dAt] at hN; simp only [putX, setX, List.foldl_cons, List.foldl_nil]; refine ⟨?_⟩; go_simp; exact ⟨rfl, Below.refl _ _⟩
          · intro x W hB hN; simp only [needs, sAt, dAt] at hN; simp only [putX, setX, List.foldl_cons, List.foldl_nil]; refine ⟨?_⟩; go_simp; exact ⟨rfl, Below.refl _ _⟩
          · intro x W hB hN; simp only [needs, sAt, dAt] at hN; simp only [putX, setX, List.foldl_cons, List.foldl_nil]; refine ⟨?_⟩; go_simp; exact ⟨rfl, Below.refl _ _⟩
          · intro x W hB hN; simp only [needs, sAt, dAt] at hN; simp only [putX, setX, List.foldl_cons, List.foldl_nil]; refine ⟨?_⟩; go_simp; exact ⟨rfl, Below.refl _ _⟩
        · intro x W hB hA
          simp only [allSp] at hA
          have q1 := hA.2.2.2.2.2.1
          have q2 := hA.2.2.2.2.2.2.1
          have q3 := hA.2.2.2.2.2.2.2.1
          have HB1 := Lib.hid (HD.out W hB)
          clear hA hB
          simp only [putX, setX, List.foldl_cons, List.foldl_nil, List.drop_succ_cons, List.drop_zero, q1, q2, q3, List.setIfInBounds_toArray, List.set_cons_succ, List.set_cons_zero]
          clear q1 q2 q3
          go_wp2_with (first
            | (go_at_call 74; clear T2; refine (CopyPath_any _ path _ (HX.out _ HB1.out).2.1 (by omega)).mono ?_; rintro e w2 ⟨r2, rfl, o2, b2⟩; have S2 := Lib.hid (o2.sl e2_len); have HB2 := Lib.hid (below_tr HB1.out b2); clear o2 b2)
            | (go_at_call 74; clear T3; refine (CopyPath_any _ posts _ (HX.out _ HB2.out).2.2.1 (by omega)).mono ?_; rintro e w3 ⟨r3, rfl, o3, b3⟩; have S3 := Lib.hid (And.intro (S2.out.below b3) (o3.sl e2_len)); have HB3 := Lib.hid (below_tr HB2.out b3); clear o3 b3)
            | (go_at_call 75; refine (HWA.out _ _ _ S3.out.1 S3.out.2).mono ?_; rintro e w4 ⟨r4, rfl, s4, b4⟩; obtain ⟨A4, c4, rfl, _⟩ := s4.form; have S4 := Lib.hid s4; have HB4 := Lib.hid (below_tr HB3.out b4); clear s4 b4)
            | (go_at_call 76; refine (HPE.out _ (HX.out _ HB4.out).2.1).mono ?_; rintro e w5 ⟨rfl, b5⟩; have HB5 := Lib.hid (below_tr HB4.out b5); obtain ⟨g0, g1⟩ := (HX.out _ HB5.out).1; have S5 := Lib.hid (S4.out.below b5); clear b5)
            | (go_at_call 77; refine (HPO.out _ (HX.out _ HB5.out).2.1).mono ?_; rintro e w6 ⟨rfl, b6⟩; have HB6 := Lib.hid (below_tr HB5.out b6); obtain ⟨g2, g3⟩ := (HX.out _ HB6.out).1; have S6 := Lib.hid (S5.out.below b6); clear b6)
            | (go_at_call 79; refine (HQE.out _ (HX.out _ HB6.out).2.1 (HX.out _ HB6.out).2.2.1).mono ?_; rintro e w8 ⟨rfl, b8⟩; have HB8 := Lib.hid (below_tr HB6.out b8); have S8 := Lib.hid (S6.out.below b8); clear b8))
          go_ret
          exact ⟨rfl, (HX.out _ HB8.out).2.2.2⟩
  · have k1 : windingOf path p = (0, pathErr path) := if_neg h1
    have k2 : woundAround path posts = ([], pathErr path) := if_neg h1
    rw [k1] at HWN
    rw [k2] at HWA
    simp only at HWN HWA
    have h1' := ne1 h1
    clear k1 k2 h1
    generalize pathErr path = d at *
    have T2 : Hid True := trivial
    have T3 : Hid True := trivial
    obtain ⟨p1, p2⟩ := p
    simp only at *
    go_enter Try.func11, Try.ntmps11
    go_wp2_with (go_at_call 14; refine (awake_any _).mono ?_; rintro e w1 ⟨rfl, b1⟩; have HBA := Lib.hid b1; clear b1)
    have HX : Hid (∀ W, Below w1.heap.size w1 W → (W.cell? ⟨w.heap.size, 0, none⟩ = some (.int .i64 p1) ∧ W.cell? ⟨w.heap.size, 1, none⟩ = some (.int .i64 p2)) ∧ Sl e2 2 W (.slice A path.length c) path ∧ Sl e2 2 W (.slice A' posts.length c') posts ∧ Below w.heap.size w W) := by
      intro W hW
      have bx := fun j v hv => ((At.new w #[.int .i64 p1, .int .i64 p2] 61 j v hv).below HBA.out).below hW
      exact ⟨⟨(bx 0 _ rfl).1, (bx 1 _ rfl).1⟩, ((HS.out.alloc _).below HBA.out).below hW, ((HU.out.alloc _).below HBA.out).below hW, below_tr (below_tr (below_alloc1 _ _) HBA.out) hW⟩
    have HD : Hid (∀ W, Below w1.drew.heap.size w1.drew W → Below w1.heap.size w1 W) := fun W hW => Below.trans (Below.drew (Below.refl _ _)) hW
    clear HBA
    refine wp_region_mono 8 [23, 24, 25, 26, 22, 27, 28, 7] [[], [0], [], [1, 2], [3], [4], [4], [5]] [fun v _ => v = .slice A path.length c, fun v w => Sl e2 2 w v path, fun v _ => v = .agg #[.int .i64 p1, .int .i64 p2], fun v _ => v = .tuple #[.int .i64 0, .int .i64 d], fun v _ => v = .tuple #[.int .i64 0, .int .i64 d], fun v _ => v = .int .i64 0, fun v _ => v = .int .i64 d, fun v _ => v = .int .i64 0] (by kernel_rfl) (by kernel_rfl) ⟨st_eq _, st_sl _ _ _, st_eq _, st_eq _, st_eq _, st_eq _, st_eq _, st_eq _, trivial⟩ ?_ ?_
    · simp only [List.take_succ_cons, List.take_zero, steps, and_true]
      refine ⟨?_, ?_, ?_, ?_, ?_, ?_, ?_, ?_⟩
      · intro x W hB _; simp only [putX, setX, List.foldl_cons, List.foldl_nil]; refine ⟨?_⟩; go_simp; exact ⟨rfl, Below.refl _ _⟩
      · intro x W hB hN; simp only [needs, sAt, dAt] at hN; simp only [putX, setX, List.foldl_cons, List.foldl_nil]; refine ⟨?_⟩; go_simp; refine (CopyPath_any _ path _ (HX.out W (HD.out W hB)).2.1 (by omega)).mono ?_; rintro e w' ⟨r, rfl, o, b⟩; exact ⟨_, rfl, o.sl e2_len, b⟩
      · intro x W hB _; simp only [putX, setX, List.foldl_cons, List.foldl_nil]; obtain ⟨⟨g0, g1⟩, _⟩ := HX.out W (HD.out W hB); refine ⟨?_⟩; go_simp; exact ⟨rfl, Below.refl _ _⟩
      · intro x W hB hN; simp only [needs, sAt, dAt] at hN; simp only [putX, setX, List.foldl_cons, List.foldl_nil]; refine ⟨?_⟩; go_simp; refine (HWN.out _ _ hN.1).mono ?_; rintro e w' ⟨rfl, b⟩; exact ⟨_, rfl, rfl, b⟩
      · intro x W hB hN; simp only [needs, sAt, dAt] at hN; simp only [putX, setX, List.foldl_cons, List.foldl_nil]; refine ⟨?_⟩; go_simp; exact ⟨rfl, Below.refl _ _⟩
      · intro x W hB hN; simp only [needs, sAt, dAt] at hN; simp only [putX, setX, List.foldl_cons, List.foldl_nil]; refine ⟨?_⟩; go_simp; exact ⟨rfl, Below.refl _ _⟩
      · intro x W hB hN; simp only [needs, sAt, dAt] at hN; simp only [putX, setX, List.foldl_cons, List.foldl_nil]; refine ⟨?_⟩; go_simp; exact ⟨rfl, Below.refl _ _⟩
      · intro x W hB hN; simp only [needs, sAt, dAt] at hN; simp only [putX, setX, List.foldl_cons, List.foldl_nil]; refine ⟨?_⟩; go_simp; exact ⟨rfl, Below.refl _ _⟩
    · intro x W hB hA
      simp only [allSp] at hA
      have q1 := hA.2.2.2.2.2.1
      have q2 := hA.2.2.2.2.2.2.1
      have q3 := hA.2.2.2.2.2.2.2.1
      have HB1 := Lib.hid (HD.out W hB)
      clear hA hB
      simp only [putX, setX, List.foldl_cons, List.foldl_nil, List.drop_succ_cons, List.drop_zero, q1, q2, q3, List.setIfInBounds_toArray, List.set_cons_succ, List.set_cons_zero]
      clear q1 q2 q3
      go_wp2_with (first
        | (go_at_call 74; clear T2; refine (CopyPath_any _ path _ (HX.out _ HB1.out).2.1 (by omega)).mono ?_; rintro e w2 ⟨r2, rfl, o2, b2⟩; have S2 := Lib.hid (o2.sl e2_len); have HB2 := Lib.hid (below_tr HB1.out b2); clear o2 b2)
        | (go_at_call 74; clear T3; refine (CopyPath_any _ posts _ (HX.out _ HB2.out).2.2.1 (by omega)).mono ?_; rintro e w3 ⟨r3, rfl, o3, b3⟩; have S3 := Lib.hid (And.intro (S2.out.below b3) (o3.sl e2_len)); have HB3 := Lib.hid (below_tr HB2.out b3); clear o3 b3)
        | (go_at_call 75; refine (HWA.out _ _ _ S3.out.1 S3.out.2).mono ?_; rintro e w4 ⟨r4, rfl, s4, b4⟩; obtain ⟨A4, c4, rfl, _⟩ := s4.form; have S4 := Lib.hid s4; have HB4 := Lib.hid (below_tr HB3.out b4); clear s4 b4)
        | (go_at_call 76; refine (HPE.out _ (HX.out _ HB4.out).2.1).mono ?_; rintro e w5 ⟨rfl, b5⟩; have HB5 := Lib.hid (below_tr HB4.out b5); obtain ⟨g0, g1⟩ := (HX.out _ HB5.out).1; have S5 := Lib.hid (S4.out.below b5); clear b5))
      go_ret
      exact ⟨rfl, (HX.out _ HB5.out).2.2.2⟩
end Go.Proofs.Ytghglgaimhfedaa
