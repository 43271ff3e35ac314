/-
  The law CableLines, walked: which lines and boxes are valid, slack, and the least load, are as the reference says.
-/
import Derived.Test.YtghglgaimhfedaaZMj
namespace Go.Proofs.Ytghglgaimhfedaa
open Go.RowKit Go.Shelf
attribute [local go_sem] monoUpon_value monoUpon_skip monoUpon_enter

set_option maxRecDepth 100000 in
set_option maxHeartbeats 1000000 in
theorem lines_far (v u : Value) (l : Ln) (b : List (Int × Int)) (w : World) (hs : Sl e3 3 w v l.ks) (hu : Sl e2 2 w u b) (hn : ¬ (l.ks.length ≤ 12 ∧ b.length ≤ 14)) :
    Calls Try.prog 3 #[.agg #[.int .i64 l.x, .int .i64 l.z, v], u] w fun e w' => e = .returned (.bool true) ∧ Below w.heap.size w w' := by
  have HS := Lib.hid hs
  obtain ⟨A, c, rfl, hcap⟩ := hs.form
  obtain ⟨A', c', rfl, hcap'⟩ := hu.form
  clear hs hu
  have f1 : fewB l.ks.length (b.length : Int) = false := fewB_false hn
  clear hn hcap hcap'
  go_enter Try.func3, Try.ntmps3
  go_wp2_with (first
    | (go_at_call 14; refine (awakeB _).mono ?_; rintro e w1 ⟨rfl, b1⟩; have HX := law_hx HS.out (fun _ => True) (fun _ _ => trivial) b1; clear b1; have HB1 := Lib.hid (Below.refl w1.heap.size w1); obtain ⟨g0, g1, g2⟩ := (HX.out _ HB1.out).1)
    | (go_at_call 15; refine (few_any _ l _ _ (HX.out _ HB1.out).2.1).mono ?_; rintro e w2 ⟨rfl, b2⟩; have HB2 := Lib.hid (below_tr HB1.out b2); clear b2))
  go_ret
  exact ⟨rfl, (HX.out _ HB2.out).2.2.2⟩
set_option maxRecDepth 100000 in
set_option maxHeartbeats 4000000 in
theorem lines_near (v u : Value) (l : Ln) (b : List (Int × Int)) (w : World) (hs : Sl e3 3 w v l.ks) (hu : Sl e2 2 w u b) (hn : l.ks.length ≤ 12) (hc : b.length ≤ 14) :
    Calls Try.prog 3 #[.agg #[.int .i64 l.x, .int .i64 l.z, v], u] w fun e w' => e = .returned (.bool true) ∧ Below w.heap.size w w' := by
  have f1 := fewB_true hn hc
  have HS := Lib.hid hs
  have HU := Lib.hid hu
  obtain ⟨A, c, rfl, hcap⟩ := hs.form
  obtain ⟨A', c', rfl, hcap'⟩ := hu.form
  clear hs hu hcap hcap'
  have HCL := Lib.hid (fun v w h1 => CheckLine_any v l w h1 (by omega))
  have HCB := Lib.hid (fun v u w h1 h2 => CheckBox_any v u l b w h1 h2 (by omega) (by omega))
  have SI : ∀ l' : Ln, l'.ks.length ≤ 12 → ∀ v w, Sl e3 3 w v l'.ks → Calls Try.prog 20 #[.agg #[.int .i64 l'.x, .int .i64 l'.z, v]] w fun e w' => ∃ A c, e = .returned (.tuple #[.slice A (slackIn l').1.length c, .int .i64 (slackIn l').2]) ∧ Sl e1 1 w' (.slice A (slackIn l').1.length c) (slackIn l').1 ∧ Below w.heap.size w w' := fun l' hn v w h1 =>
    (SlackIn_any v l' w h1 (by omega)).mono fun e w' ⟨r, a, b, c⟩ => by
      have s := b.sl e1_len
      obtain ⟨A, c', rfl, _⟩ := s.form
      exact ⟨A, c', a, s, c⟩
  have HSI := Lib.hid (SI l hn)
  have HLL := Lib.hid (fun v w h1 => LeastLoad_any v l w h1 (by omega))
  have HRC := Lib.hid (fun v w h1 => rCheckLine_any v l w h1 (by omega))
  have T1 : Hid True := trivial
  have T2 : Hid True := trivial
  have T3 : Hid True := trivial
  have T4 : Hid True := trivial
  by_cases h0 : lineErr l = 0
  · have hl := lineErr_ok h0
    have HRB := Lib.hid (fun v u w h1 h2 => rCheckBox_any v u l b w h1 h2 (by omega))
    have HRS : Hid (∀ v w, Sl e3 3 w v l.ks → Calls Try.prog 25 #[.agg #[.int .i64 l.x, .int .i64 l.z, v]] w fun e w' => ∃ r, e = .returned r ∧ Sl e1 1 w' r (slack l) ∧ Below w.heap.size w w') := fun v w h1 =>
      (Slack_any v l w h1 hl).mono fun e w' ⟨r, a, b, c⟩ => ⟨r, a, b.sl e1_len, c⟩
    have HRL := Lib.hid (fun v w h1 => Least_any v l w h1 hl)
    have e1' : checkLine l = (0, 0) := checkLine_ok h0
    have e2' : checkBox l b = boxErr1 l b := if_pos h0
    have e3' : slackIn l = (slack l, 0) := if_pos h0
    have e4' : leastLoad l = (least l, 0) := if_pos h0
    have hlen : (slack l).length ≤ 1000 := Nat.le_trans (slackF_len _ _) (by rw [zs_len]; omega)
    rw [e1'] at HCL HRC
    rw [e2'] at HCB
    rw [e3'] at HSI
    rw [e4'] at HLL
    simp only at HSI
    have HIN : Hid (∀ u v w, Sl e1 1 w u (slack l) → Sl e1 1 w v (slack l) → Calls Try.prog 24 #[u, v] w fun e w' => e = .returned (.bool true) ∧ Below w.heap.size w w') := fun u v w h k => by
      have := Ints_any u v (slack l) (slack l) w h k hlen hlen
      rwa [eqL_refl] at this
    have ht := least_tight l
    have hlo := least_loose l hl.n0
    have hpos := hl.n0
    have hw := lineErr_with h0
    clear e1' e2' e3' e4' h0 hl
    generalize boxErr1 l b = be at *
    generalize slack l = sl at *
    generalize least l = n at *
    obtain ⟨b1, b2⟩ := be
    simp only at *
    cases hin : inB n (-9999) 10000
    · clear ht hlo hw SI
      go_enter Try.func3, Try.ntmps3
      go_wp2_with (first
      | (go_at_call 14; refine (awakeB _).mono ?_; rintro e w1 ⟨rfl, b1⟩; have HX := law_hx HS.out (fun W => Sl e2 2 W (.slice A' b.length c') b) (fun W hW => HU.out.below hW) b1; clear b1; have HB1 := Lib.hid (Below.refl w1.heap.size w1); obtain ⟨g0, g1, g2⟩ := (HX.out _ HB1.out).1)
      | (go_at_call 15; refine (few_any _ l _ _ (HX.out _ HB1.out).2.1).mono ?_; rintro e w2 ⟨rfl, b2⟩; have HB2 := Lib.hid (below_tr HB1.out b2); clear b2 g0 g1 g2; obtain ⟨g0, g1, g2⟩ := (HX.out _ HB2.out).1)
      | (go_at_call 17; clear T1; refine (CopyLine_any _ l _ (HX.out _ HB2.out).2.1 (by omega)).mono ?_; rintro e w3 ⟨r3, rfl, s3, b3⟩; have S3 := Lib.hid s3; have HB3 := Lib.hid (below_tr HB2.out b3); clear s3 b3 g0 g1 g2)
      | (go_at_call 16; refine (HCL.out _ _ S3.out).mono ?_; rintro e w4 ⟨rfl, b4⟩; have HB4 := Lib.hid (below_tr HB3.out b4); clear b4; obtain ⟨g0, g1, g2⟩ := (HX.out _ HB4.out).1)
      | (go_at_call 17; clear T2; refine (CopyLine_any _ l _ (HX.out _ HB4.out).2.1 (by omega)).mono ?_; rintro e w5 ⟨r5, rfl, s5, b5⟩; have S5 := Lib.hid s5; have HB5 := Lib.hid (below_tr HB4.out b5); clear s5 b5 g0 g1 g2)
      | (go_at_call 19; refine (CopyRanges_any _ b _ (HX.out _ HB5.out).2.2.1 (by omega)).mono ?_; rintro e w6 ⟨r6, rfl, o6, b6⟩; have S6 := Lib.hid (And.intro (S5.out.below b6) (o6.sl e2_len)); have HB6 := Lib.hid (below_tr HB5.out b6); clear o6 b6)
      | (go_at_call 18; refine (HCB.out _ _ _ S6.out.1 S6.out.2).mono ?_; rintro e w7 ⟨rfl, b7⟩; have HB7 := Lib.hid (below_tr HB6.out b7); clear b7; obtain ⟨g0, g1, g2⟩ := (HX.out _ HB7.out).1)
      | (go_at_call 17; clear T3; refine (CopyLine_any _ l _ (HX.out _ HB7.out).2.1 (by omega)).mono ?_; rintro e w8 ⟨r8, rfl, s8, b8⟩; have S8 := Lib.hid s8; have HB8 := Lib.hid (below_tr HB7.out b8); clear s8 b8 g0 g1 g2)
      | (go_at_call 20; clear T4; refine (HSI.out _ _ S8.out).mono ?_; rintro e w9 ⟨A9, c9, rfl, s9, b9⟩; have S9 := Lib.hid s9; have HB9 := Lib.hid (below_tr HB8.out b9); clear s9 b9; obtain ⟨g0, g1, g2⟩ := (HX.out _ HB9.out).1)
      | (go_at_call 17; refine (CopyLine_any _ l _ (HX.out _ HB9.out).2.1 (by omega)).mono ?_; rintro e w10 ⟨r10, rfl, s10, b10⟩; have S10 := Lib.hid s10; have C10 := Lib.hid b10; have HB10 := Lib.hid (below_tr HB9.out b10); clear s10 b10 g0 g1 g2)
      | (go_at_call 21; refine (HLL.out _ _ S10.out).mono ?_; rintro e w11 ⟨rfl, b11⟩; have C11 := Lib.hid (below_tr C10.out b11); have HB11 := Lib.hid (below_tr HB10.out b11); clear b11; obtain ⟨g0, g1, g2⟩ := (HX.out _ HB11.out).1)
      | (go_at_call 22; refine (HRC.out _ _ (HX.out _ HB11.out).2.1).mono ?_; rintro e w12 ⟨rfl, b12⟩; have C12 := Lib.hid (below_tr C11.out b12); have HB12 := Lib.hid (below_tr HB11.out b12); clear b12 g0 g1 g2; obtain ⟨g0, g1, g2⟩ := (HX.out _ HB12.out).1)
      | (go_at_call 23; refine (HRB.out _ _ _ (HX.out _ HB12.out).2.1 (HX.out _ HB12.out).2.2.1).mono ?_; rintro e w13 ⟨rfl, b13⟩; have C13 := Lib.hid (below_tr C12.out b13); have HB13 := Lib.hid (below_tr HB12.out b13); clear b13 g0 g1 g2; obtain ⟨g0, g1, g2⟩ := (HX.out _ HB13.out).1)
      | (go_at_call 25; refine (HRS.out _ _ (HX.out _ HB13.out).2.1).mono ?_; rintro e w14 ⟨r14, rfl, s14, b14⟩; have S14 := Lib.hid s14; have C14 := Lib.hid (below_tr C13.out b14); have HB14 := Lib.hid (below_tr HB13.out b14); clear s14 b14 g0 g1 g2)
      | (go_at_call 24; refine (HIN.out _ _ _ (S9.out.below C14.out) S14.out).mono ?_; rintro e w15 ⟨rfl, b15⟩; have HB15 := Lib.hid (below_tr HB14.out b15); clear b15; obtain ⟨g0, g1, g2⟩ := (HX.out _ HB15.out).1)
      | (go_at_call 26; refine (HRL.out _ _ (HX.out _ HB15.out).2.1).mono ?_; rintro e w16 ⟨rfl, b16⟩; have HB16 := Lib.hid (below_tr HB15.out b16); clear b16 g0 g1 g2)
      | (go_at_call 27; refine (Within_any _ _ _ _).mono ?_; rintro e w17 ⟨rfl, rfl⟩))
      go_ret
      exact ⟨rfl, (HX.out _ HB16.out).2.2.2⟩
    · have hin' := inB_iff.1 hin
      have HS1 : Hid (∀ v w, Sl e3 3 w v l.ks → Calls Try.prog 20 #[.agg #[.int .i64 l.x, .int .i64 n, v]] w fun e w' => ∃ A c, e = .returned (.tuple #[.slice A 0 c, .int .i64 0]) ∧ Below w.heap.size w w') := fun v w h1 => by
        have h := SI ⟨l.x, n, l.ks⟩ hn v w h1
        have e : slackIn ⟨l.x, n, l.ks⟩ = ([], 0) := (if_pos (hw n (by omega))).trans (by rw [ht])
        rw [e] at h
        exact h.mono fun e w' ⟨A, c, a, _, d⟩ => ⟨A, c, a, d⟩
      have HS2 : Hid (∀ v w, Sl e3 3 w v l.ks → Calls Try.prog 20 #[.agg #[.int .i64 l.x, .int .i64 (n - 1), v]] w fun e w' => ∃ A m c, e = .returned (.tuple #[.slice A m c, .int .i64 0]) ∧ 0 < m ∧ Below w.heap.size w w') := fun v w h1 => by
        have h := SI ⟨l.x, n - 1, l.ks⟩ hn v w h1
        have e : slackIn ⟨l.x, n - 1, l.ks⟩ = (slack ⟨l.x, n - 1, l.ks⟩, 0) := if_pos (hw (n - 1) (by omega))
        rw [e] at h
        exact h.mono fun e w' ⟨A, c, a, _, d⟩ => ⟨A, _, c, a, by show 0 < (slack ⟨l.x, n - 1, l.ks⟩).length; omega, d⟩
      have hw1 : IntKind.i64.wrap (n - 1) = n - 1 := IntWalk.i64_in _ (by omega)
      have T5 : Hid True := trivial
      clear ht hlo hw SI
      go_enter Try.func3, Try.ntmps3
      go_wp2_with (first
      | (go_at_call 14; refine (awakeB _).mono ?_; rintro e w1 ⟨rfl, b1⟩; have HX := law_hx HS.out (fun W => Sl e2 2 W (.slice A' b.length c') b) (fun W hW => HU.out.below hW) b1; clear b1; have HB1 := Lib.hid (Below.refl w1.heap.size w1); obtain ⟨g0, g1, g2⟩ := (HX.out _ HB1.out).1)
      | (go_at_call 15; refine (few_any _ l _ _ (HX.out _ HB1.out).2.1).mono ?_; rintro e w2 ⟨rfl, b2⟩; have HB2 := Lib.hid (below_tr HB1.out b2); clear b2 g0 g1 g2; obtain ⟨g0, g1, g2⟩ := (HX.out _ HB2.out).1)
      | (go_at_call 17; clear T1; refine (CopyLine_any _ l _ (HX.out _ HB2.out).2.1 (by omega)).mono ?_; rintro e w3 ⟨r3, rfl, s3, b3⟩; have S3 := Lib.hid s3; have HB3 := Lib.hid (below_tr HB2.out b3); clear s3 b3 g0 g1 g2)
      | (go_at_call 16; refine (HCL.out _ _ S3.out).mono ?_; rintro e w4 ⟨rfl, b4⟩; have HB4 := Lib.hid (below_tr HB3.out b4); clear b4; obtain ⟨g0, g1, g2⟩ := (HX.out _ HB4.out).1)
      | (go_at_call 17; clear T2; refine (CopyLine_any _ l _ (HX.out _ HB4.out).2.1 (by omega)).mono ?_; rintro e w5 ⟨r5, rfl, s5, b5⟩; have S5 := Lib.hid s5; have HB5 := Lib.hid (below_tr HB4.out b5); clear s5 b5 g0 g1 g2)
      | (go_at_call 19; refine (CopyRanges_any _ b _ (HX.out _ HB5.out).2.2.1 (by omega)).mono ?_; rintro e w6 ⟨r6, rfl, o6, b6⟩; have S6 := Lib.hid (And.intro (S5.out.below b6) (o6.sl e2_len)); have HB6 := Lib.hid (below_tr HB5.out b6); clear o6 b6)
      | (go_at_call 18; refine (HCB.out _ _ _ S6.out.1 S6.out.2).mono ?_; rintro e w7 ⟨rfl, b7⟩; have HB7 := Lib.hid (below_tr HB6.out b7); clear b7; obtain ⟨g0, g1, g2⟩ := (HX.out _ HB7.out).1)
      | (go_at_call 17; clear T3; refine (CopyLine_any _ l _ (HX.out _ HB7.out).2.1 (by omega)).mono ?_; rintro e w8 ⟨r8, rfl, s8, b8⟩; have S8 := Lib.hid s8; have HB8 := Lib.hid (below_tr HB7.out b8); clear s8 b8 g0 g1 g2)
      | (go_at_call 20; clear T4; refine (HSI.out _ _ S8.out).mono ?_; rintro e w9 ⟨A9, c9, rfl, s9, b9⟩; have S9 := Lib.hid s9; have HB9 := Lib.hid (below_tr HB8.out b9); clear s9 b9; obtain ⟨g0, g1, g2⟩ := (HX.out _ HB9.out).1)
      | (go_at_call 17; refine (CopyLine_any _ l _ (HX.out _ HB9.out).2.1 (by omega)).mono ?_; rintro e w10 ⟨r10, rfl, s10, b10⟩; have S10 := Lib.hid s10; have C10 := Lib.hid b10; have HB10 := Lib.hid (below_tr HB9.out b10); clear s10 b10 g0 g1 g2)
      | (go_at_call 21; refine (HLL.out _ _ S10.out).mono ?_; rintro e w11 ⟨rfl, b11⟩; have C11 := Lib.hid (below_tr C10.out b11); have HB11 := Lib.hid (below_tr HB10.out b11); clear b11; obtain ⟨g0, g1, g2⟩ := (HX.out _ HB11.out).1)
      | (go_at_call 22; refine (HRC.out _ _ (HX.out _ HB11.out).2.1).mono ?_; rintro e w12 ⟨rfl, b12⟩; have C12 := Lib.hid (below_tr C11.out b12); have HB12 := Lib.hid (below_tr HB11.out b12); clear b12 g0 g1 g2; obtain ⟨g0, g1, g2⟩ := (HX.out _ HB12.out).1)
      | (go_at_call 23; refine (HRB.out _ _ _ (HX.out _ HB12.out).2.1 (HX.out _ HB12.out).2.2.1).mono ?_; rintro e w13 ⟨rfl, b13⟩; have C13 := Lib.hid (below_tr C12.out b13); have HB13 := Lib.hid (below_tr HB12.out b13); clear b13 g0 g1 g2; obtain ⟨g0, g1, g2⟩ := (HX.out _ HB13.out).1)
      | (go_at_call 25; refine (HRS.out _ _ (HX.out _ HB13.out).2.1).mono ?_; rintro e w14 ⟨r14, rfl, s14, b14⟩; have S14 := Lib.hid s14; have C14 := Lib.hid (below_tr C13.out b14); have HB14 := Lib.hid (below_tr HB13.out b14); clear s14 b14 g0 g1 g2)
      | (go_at_call 24; refine (HIN.out _ _ _ (S9.out.below C14.out) S14.out).mono ?_; rintro e w15 ⟨rfl, b15⟩; have HB15 := Lib.hid (below_tr HB14.out b15); clear b15; obtain ⟨g0, g1, g2⟩ := (HX.out _ HB15.out).1)
      | (go_at_call 26; refine (HRL.out _ _ (HX.out _ HB15.out).2.1).mono ?_; rintro e w16 ⟨rfl, b16⟩; have HB16 := Lib.hid (below_tr HB15.out b16); clear b16 g0 g1 g2)
      | (go_at_call 27; refine (Within_any _ _ _ _).mono ?_; rintro e w17 ⟨rfl, rfl⟩))
      have HD : Hid (∀ W, Below w16.drew.heap.size w16.drew W → Below w1.heap.size w1 W) := fun W hW => below_tr HB16.out (Below.trans (Below.drew (Below.refl _ _)) hW)
      have HLY : Hid (∀ w, (Instr.alloc 26 true (.tuple #[])).run Try.prog w = .ok (.pointer (some ⟨w.heap.size, 0, none⟩)) (w.alloc (.cells #[.int .i64 0, .int .i64 0, .slice none 0 0] 26))) := lays_line
      refine wp_region_mono2 [4, 5] (by intro k hk; simp only [List.mem_cons, List.not_mem_nil, or_false] at hk; rcases hk with rfl | rfl <;> exact ⟨_, _, _, rfl, rfl, HLY.out⟩) 6 [134, 135, 136, 137, 15, 16] [[], [0], [], [2], [], []] [fun v _ => v = .agg #[.int .i64 l.x, .int .i64 l.z, .slice A l.ks.length c], fun v w => (∃ r, v = .agg #[.int .i64 l.x, .int .i64 l.z, r] ∧ Sl e3 3 w r l.ks), fun v _ => v = .agg #[.int .i64 l.x, .int .i64 l.z, .slice A l.ks.length c], fun v w => (∃ r, v = .agg #[.int .i64 l.x, .int .i64 l.z, r] ∧ Sl e3 3 w r l.ks), fun v w => lineBox w16.heap.size v w, fun v w => lineBox w16.heap.size v w] (by kernel_rfl) (by kernel_rfl) ⟨st_eq _, (fun _ _ _ ⟨r, h1, h2⟩ hb => ⟨r, h1, h2.below hb⟩), st_eq _, (fun _ _ _ ⟨r, h1, h2⟩ hb => ⟨r, h1, h2.below hb⟩), st_lineBox _, st_lineBox _, trivial⟩ ?_ ?_
      · simp only [List.take_succ_cons, List.take_zero, steps, and_true]
        refine ⟨?_, ?_, ?_, ?_, ?_, ?_⟩
        · intro x W hB _; simp only [putX, setX, List.foldl_cons, List.foldl_nil]; obtain ⟨⟨c0, c1, c2⟩, _⟩ := HX.out W (HD.out W hB); refine ⟨?_⟩; go_simp; exact ⟨rfl, Below.refl _ _⟩
        · intro x W hB hN; simp only [needs, sAt, dAt] at hN; simp only [putX, setX, List.foldl_cons, List.foldl_nil]; refine ⟨?_⟩; go_simp; refine (CopyLine_any _ l _ (HX.out W (HD.out W hB)).2.1 (by omega)).mono ?_; rintro e w' ⟨r, rfl, s, b⟩; exact ⟨_, rfl, ⟨r, rfl, s⟩, b⟩
        · intro x W hB _; simp only [putX, setX, List.foldl_cons, List.foldl_nil]; obtain ⟨⟨c0, c1, c2⟩, _⟩ := HX.out W (HD.out W hB); refine ⟨?_⟩; go_simp; exact ⟨rfl, Below.refl _ _⟩
        · intro x W hB hN; simp only [needs, sAt, dAt] at hN; simp only [putX, setX, List.foldl_cons, List.foldl_nil]; refine ⟨?_⟩; go_simp; refine (CopyLine_any _ l _ (HX.out W (HD.out W hB)).2.1 (by omega)).mono ?_; rintro e w' ⟨r, rfl, s, b⟩; exact ⟨_, rfl, ⟨r, rfl, s⟩, b⟩
        · intro x W hB _; simp only [putX, setX, List.foldl_cons, List.foldl_nil]; refine ⟨?_⟩; go_simp; exact ⟨⟨_, rfl, hB.size, heap_alloc_new W _⟩, below_alloc1 _ _⟩
        · intro x W hB _; simp only [putX, setX, List.foldl_cons, List.foldl_nil]; refine ⟨?_⟩; go_simp; exact ⟨⟨_, rfl, hB.size, heap_alloc_new W _⟩, below_alloc1 _ _⟩
      · rintro y W hB ⟨hA, hdis⟩
        have hdis := hdis 4 5 (by simp) (by simp) (by decide)
        simp only [allSp] at hA
        obtain ⟨ra, qa, sa⟩ := hA.2.1
        obtain ⟨rb, qb, sb⟩ := hA.2.2.2.1
        obtain ⟨ba, pa, na, ha⟩ := hA.2.2.2.2.1
        obtain ⟨bb, pb, nb, hb⟩ := hA.2.2.2.2.2.1
        have hne : ba ≠ bb := by
          rintro rfl
          exact hdis (pa.trans pb.symm)
        obtain ⟨Aa, ka, rfl, _⟩ := sa.form
        obtain ⟨Ab, kb, rfl, _⟩ := sb.form
        have ha0 := lineBox_at ha
        have hb0 := lineBox_at hb
        have apa := links_apart sa hpos ha
        have apa' := links_apart sa hpos hb
        have apb := links_apart sb hpos ha
        have apb' := links_apart sb hpos hb
        have hbw := HD.out W hB
        have hw1a : w1.heap.size ≤ ba := Nat.le_trans HB16.out.size na
        have hw1b : w1.heap.size ≤ bb := Nat.le_trans HB16.out.size nb
        simp only [putX, setX, List.foldl_cons, List.foldl_nil, List.drop_succ_cons, List.drop_zero, qa, qb, pa, pb, List.setIfInBounds_toArray, List.set_cons_succ, List.set_cons_zero]
        clear qa qb pa pb hA hB hdis ha hb
        have hne' : bb ≠ ba := Ne.symm hne
        obtain ⟨W5, hr5, hW5⟩ := run_store_line W ba l.x l.z Aa l.ks.length ka ha0.1 ha0.2.1 ha0.2.2
        have a5 : At W5 ⟨ba, 0, none⟩ (.int .i64 l.x) ∧ At W5 ⟨ba, 1, none⟩ (.int .i64 l.z) ∧ At W5 ⟨ba, 2, none⟩ (.slice Aa l.ks.length ka) := by
          rw [hW5]
          exact ⟨((ha0.1.set).other (by simp)).other (by simp), ((ha0.2.1.other (by simp)).set).other (by simp), At.set ((ha0.2.2.other (by simp)).other (by simp))⟩
        have b5 : At W5 ⟨bb, 0, none⟩ (.int .i64 0) ∧ At W5 ⟨bb, 1, none⟩ (.int .i64 0) ∧ At W5 ⟨bb, 2, none⟩ (.slice none 0 0) := by
          rw [hW5]
          exact ⟨((hb0.1.other (by simp [hne'])).other (by simp [hne'])).other (by simp [hne']), ((hb0.2.1.other (by simp [hne'])).other (by simp [hne'])).other (by simp [hne']), ((hb0.2.2.other (by simp [hne'])).other (by simp [hne'])).other (by simp [hne'])⟩
        have sa5 : Sl e3 3 W5 (.slice Aa l.ks.length ka) l.ks := by rw [hW5]; exact ((sa.set apa).set apa).set apa
        have sb5 : Sl e3 3 W5 (.slice Ab l.ks.length kb) l.ks := by rw [hW5]; exact ((sb.set apb).set apb).set apb
        have w5b : Below w1.heap.size w1 W5 := by rw [hW5]; exact below_set (below_set (below_set hbw hw1a _) hw1a _) hw1a _
        obtain ⟨W6, hr6, hW6⟩ := run_store_line W5 bb l.x l.z Ab l.ks.length kb b5.1 b5.2.1 b5.2.2
        have a6 : At W6 ⟨ba, 0, none⟩ (.int .i64 l.x) ∧ At W6 ⟨ba, 1, none⟩ (.int .i64 l.z) ∧ At W6 ⟨ba, 2, none⟩ (.slice Aa l.ks.length ka) := by
          rw [hW6]
          exact ⟨((a5.1.other (by simp [hne])).other (by simp [hne])).other (by simp [hne]), ((a5.2.1.other (by simp [hne])).other (by simp [hne])).other (by simp [hne]), ((a5.2.2.other (by simp [hne])).other (by simp [hne])).other (by simp [hne])⟩
        have b6 : At W6 ⟨bb, 0, none⟩ (.int .i64 l.x) ∧ At W6 ⟨bb, 1, none⟩ (.int .i64 l.z) ∧ At W6 ⟨bb, 2, none⟩ (.slice Ab l.ks.length kb) := by
          rw [hW6]
          exact ⟨((b5.1.set).other (by simp)).other (by simp), ((b5.2.1.other (by simp)).set).other (by simp), At.set ((b5.2.2.other (by simp)).other (by simp))⟩
        have sa6 : Sl e3 3 W6 (.slice Aa l.ks.length ka) l.ks := by rw [hW6]; exact ((sa5.set apa').set apa').set apa'
        have sb6 : Sl e3 3 W6 (.slice Ab l.ks.length kb) l.ks := by rw [hW6]; exact ((sb5.set apb').set apb').set apb'
        have w6b : Below w1.heap.size w1 W6 := by rw [hW6]; exact below_set (below_set (below_set w5b hw1b _) hw1b _) hw1b _
        refine wpList_store rfl rfl rfl rfl rfl hr5 ?_
        refine wpList_store rfl rfl rfl rfl rfl hr6 ?_
        have F : Hid (∀ W8, W8 = (W6.setCell ⟨ba, 1, none⟩ (.int .i64 n)).setCell ⟨bb, 1, none⟩ (.int .i64 (n - 1)) →
            Sl e3 3 W8 (.slice Aa l.ks.length ka) l.ks ∧ Sl e3 3 W8 (.slice Ab l.ks.length kb) l.ks ∧ (At W8 ⟨bb, 0, none⟩ (.int .i64 l.x) ∧ At W8 ⟨bb, 1, none⟩ (.int .i64 (n - 1)) ∧ At W8 ⟨bb, 2, none⟩ (.slice Ab l.ks.length kb)) ∧ Below w1.heap.size w1 W8) := by
          rintro W8 rfl
          exact ⟨(sa6.set apa).set apa', (sb6.set apb).set apb', ⟨(b6.1.other (by simp [hne'])).other (by simp), At.set (b6.2.1.other (by simp [hne'])), (b6.2.2.other (by simp [hne'])).other (by simp)⟩, below_set (below_set w6b hw1a _) hw1b _⟩
        obtain ⟨⟨d0, f0⟩, ⟨d1, f1'⟩, d2, f2⟩ := a6
        obtain ⟨⟨i0, k0⟩, ⟨i1, k1⟩, i2, k2⟩ := b6
        clear ha0 hb0 hr5 hr6 hW5 hW6 a5 b5 sa5 sb5 sa6 sb6 w5b w6b apa apa' apb apb' hbw sa sb
        go_wp2_with (first
          | (go_at_call 20; clear T5; have G := F.out _ rfl; refine (HS1.out _ _ G.1).mono ?_; rintro e w20 ⟨A20, c20, rfl, b20⟩; have G2 := Lib.hid (And.intro (G.2.1.below b20) (below_tr G.2.2.2 b20)); obtain ⟨m0, _⟩ := G.2.2.1.1.below b20; obtain ⟨m1, _⟩ := G.2.2.1.2.1.below b20; obtain ⟨m2, _⟩ := G.2.2.1.2.2.below b20; clear b20 G)
          | (go_at_call 20; refine (HS2.out _ _ G2.out.1).mono ?_; rintro e w21 ⟨A21, mm, c21, rfl, hmm, b21⟩; have HB21 := Lib.hid (below_tr G2.out.2 b21); clear b21))
        go_ret
        exact ⟨rfl, (HX.out _ HB21.out).2.2.2⟩
  · have h0' := ne1 h0
    have e2' : checkBox l b = checkLine l := if_neg h0
    have e3' : slackIn l = ([], lineErr l) := if_neg h0
    have e4' : leastLoad l = (0, lineErr l) := if_neg h0
    have e5' : lineErr l = (checkLine l).2 := rfl
    rw [e2'] at HCB
    rw [e3'] at HSI
    rw [e4'] at HLL
    rw [e5'] at HSI HLL h0'
    simp only [List.length_nil] at HSI
    clear e2' e3' e4' e5' h0 SI
    generalize checkLine l = q at *
    obtain ⟨q1, q2⟩ := q
    simp only at *
    go_enter Try.func3, Try.ntmps3
    go_wp2_with (first
      | (go_at_call 14; refine (awakeB _).mono ?_; rintro e w1 ⟨rfl, b1⟩; have HX := law_hx HS.out (fun W => Sl e2 2 W (.slice A' b.length c') b) (fun W hW => HU.out.below hW) b1; clear b1; have HB1 := Lib.hid (Below.refl w1.heap.size w1); obtain ⟨g0, g1, g2⟩ := (HX.out _ HB1.out).1)
      | (go_at_call 15; refine (few_any _ l _ _ (HX.out _ HB1.out).2.1).mono ?_; rintro e w2 ⟨rfl, b2⟩; have HB2 := Lib.hid (below_tr HB1.out b2); clear b2 g0 g1 g2; obtain ⟨g0, g1, g2⟩ := (HX.out _ HB2.out).1)
      | (go_at_call 17; clear T1; refine (CopyLine_any _ l _ (HX.out _ HB2.out).2.1 (by omega)).mono ?_; rintro e w3 ⟨r3, rfl, s3, b3⟩; have S3 := Lib.hid s3; have HB3 := Lib.hid (below_tr HB2.out b3); clear s3 b3 g0 g1 g2)
      | (go_at_call 16; refine (HCL.out _ _ S3.out).mono ?_; rintro e w4 ⟨rfl, b4⟩; have HB4 := Lib.hid (below_tr HB3.out b4); clear b4; obtain ⟨g0, g1, g2⟩ := (HX.out _ HB4.out).1)
      | (go_at_call 17; clear T2; refine (CopyLine_any _ l _ (HX.out _ HB4.out).2.1 (by omega)).mono ?_; rintro e w5 ⟨r5, rfl, s5, b5⟩; have S5 := Lib.hid s5; have HB5 := Lib.hid (below_tr HB4.out b5); clear s5 b5 g0 g1 g2)
      | (go_at_call 19; refine (CopyRanges_any _ b _ (HX.out _ HB5.out).2.2.1 (by omega)).mono ?_; rintro e w6 ⟨r6, rfl, o6, b6⟩; have S6 := Lib.hid (And.intro (S5.out.below b6) (o6.sl e2_len)); have HB6 := Lib.hid (below_tr HB5.out b6); clear o6 b6)
      | (go_at_call 18; refine (HCB.out _ _ _ S6.out.1 S6.out.2).mono ?_; rintro e w7 ⟨rfl, b7⟩; have HB7 := Lib.hid (below_tr HB6.out b7); clear b7; obtain ⟨g0, g1, g2⟩ := (HX.out _ HB7.out).1)
      | (go_at_call 17; clear T3; refine (CopyLine_any _ l _ (HX.out _ HB7.out).2.1 (by omega)).mono ?_; rintro e w8 ⟨r8, rfl, s8, b8⟩; have S8 := Lib.hid s8; have HB8 := Lib.hid (below_tr HB7.out b8); clear s8 b8 g0 g1 g2)
      | (go_at_call 20; clear T4; refine (HSI.out _ _ S8.out).mono ?_; rintro e w9 ⟨A9, c9, rfl, s9, b9⟩; have S9 := Lib.hid s9; have HB9 := Lib.hid (below_tr HB8.out b9); clear s9 b9; obtain ⟨g0, g1, g2⟩ := (HX.out _ HB9.out).1)
      | (go_at_call 17; refine (CopyLine_any _ l _ (HX.out _ HB9.out).2.1 (by omega)).mono ?_; rintro e w10 ⟨r10, rfl, s10, b10⟩; have S10 := Lib.hid s10; have C10 := Lib.hid b10; have HB10 := Lib.hid (below_tr HB9.out b10); clear s10 b10 g0 g1 g2)
      | (go_at_call 21; refine (HLL.out _ _ S10.out).mono ?_; rintro e w11 ⟨rfl, b11⟩; have C11 := Lib.hid (below_tr C10.out b11); have HB11 := Lib.hid (below_tr HB10.out b11); clear b11; obtain ⟨g0, g1, g2⟩ := (HX.out _ HB11.out).1)
      | (go_at_call 22; refine (HRC.out _ _ (HX.out _ HB11.out).2.1).mono ?_; rintro e w12 ⟨rfl, b12⟩; have C12 := Lib.hid (below_tr C11.out b12); have HB12 := Lib.hid (below_tr HB11.out b12); clear b12 g0 g1 g2; obtain ⟨g0, g1, g2⟩ := (HX.out _ HB12.out).1)
      | (go_at_call 23; refine (HRB.out _ _ _ (HX.out _ HB12.out).2.1 (HX.out _ HB12.out).2.2.1).mono ?_; rintro e w13 ⟨rfl, b13⟩; have C13 := Lib.hid (below_tr C12.out b13); have HB13 := Lib.hid (below_tr HB12.out b13); clear b13 g0 g1 g2; obtain ⟨g0, g1, g2⟩ := (HX.out _ HB13.out).1)
      | (go_at_call 25; refine (HRS.out _ _ (HX.out _ HB13.out).2.1).mono ?_; rintro e w14 ⟨r14, rfl, s14, b14⟩; have S14 := Lib.hid s14; have C14 := Lib.hid (below_tr C13.out b14); have HB14 := Lib.hid (below_tr HB13.out b14); clear s14 b14 g0 g1 g2)
      | (go_at_call 24; refine (HIN.out _ _ _ (S9.out.below C14.out) S14.out).mono ?_; rintro e w15 ⟨rfl, b15⟩; have HB15 := Lib.hid (below_tr HB14.out b15); clear b15; obtain ⟨g0, g1, g2⟩ := (HX.out _ HB15.out).1)
      | (go_at_call 26; refine (HRL.out _ _ (HX.out _ HB15.out).2.1).mono ?_; rintro e w16 ⟨rfl, b16⟩; have HB16 := Lib.hid (below_tr HB15.out b16); clear b16 g0 g1 g2)
      | (go_at_call 27; refine (Within_any _ _ _ _).mono ?_; rintro e w17 ⟨rfl, rfl⟩))
    go_ret
    exact ⟨rfl, (HX.out _ HB12.out).2.2.2⟩
end Go.Proofs.Ytghglgaimhfedaa
