/-
  The statement TopCableUnwound, walked.
-/
import Derived.Test.YtghglgaimhfedaaZTd
namespace Go.Proofs.Ytghglgaimhfedaa
open Go.RowKit Go.Shelf
attribute [local go_sem] monoUpon_value monoUpon_skip monoUpon_enter

set_option maxRecDepth 100000 in
set_option maxHeartbeats 16000000 in
theorem unwound_in (v u : Value) (path posts : List Pt) (f : Int) (w : World) (hs : Sl e2 2 w v path) (hu : Sl e2 2 w u posts) (hp0 : 0 < path.length) (hn : path.length ≤ 14) (hl : posts.length ≤ 10) (h3 : pathErr path = 0) (h4 : postsErr path posts = 0) :
    Calls Try.prog 13 #[v, u, .int .i64 f] w fun e w' => e = .returned (.bool true) ∧ Below w.heap.size w w' := by
  have HS := Lib.hid hs
  have HU := Lib.hid hu
  obtain ⟨A, c, rfl, hcap⟩ := hs.form
  obtain ⟨A', c', rfl, hcap'⟩ := hu.form
  clear hs hu hcap hcap'
  obtain ⟨i0, hi, hz0, hz1, hz2⟩ := info_parts ptinfo
  obtain ⟨u0, u1, u2, u3, u4⟩ := unwound h3 hn hl h4
  obtain ⟨k1, k2⟩ := (pathErr_ok h3).2
  have HPT := Lib.hid (fun w' h => PathErr_any (.slice A path.length c) path w' h (by omega))
  have HPO := Lib.hid (fun w' h k => PostsErr_any (.slice A path.length c) (.slice A' posts.length c') path posts w' h k k1 (ways_sm k2) (by omega))
  rw [h3] at HPT
  rw [h4] at HPO
  obtain ⟨⟨a1, a2⟩, h0e⟩ : ∃ q, path[0] = q := ⟨_, rfl⟩
  have u2' := u2 (a1, a2) (by rw [List.getElem?_eq_getElem hp0, h0e])
  have HW : ∀ xs wl, woundAround xs posts = (wl, 0) → xs.length ≤ 1000 → Hid (∀ v u w, Sl e2 2 w v xs → Sl e2 2 w u posts → Calls Try.prog 75 #[v, u] w fun e w' => ∃ A c, e = .returned (.tuple #[.slice A wl.length c, .int .i64 0]) ∧ Sl e1 1 w' (.slice A wl.length c) wl ∧ Below w.heap.size w w') := fun xs wl e hx v u w k1 k2 => by
    have h := WoundAround_any v u xs posts w k1 k2 hx (by omega)
    rw [e] at h
    refine h.mono fun e w' ⟨r, a, b, c⟩ => ?_
    have s := b.sl e1_len
    obtain ⟨A, c', rfl, _⟩ := s.form
    exact ⟨A, c', a, s, c⟩
  have HW0 := HW _ _ u0 (by omega)
  have HW1 := HW _ _ u2' (by simp; omega)
  have HW2 := HW _ _ u1 (by simp; omega)
  have hkm : 0 ≤ f % (path.length : Int) ∧ f % (path.length : Int) < (path.length : Int) := ⟨Int.emod_nonneg _ (by omega), Int.emod_lt_of_pos _ (by omega)⟩
  obtain ⟨ki, hki⟩ : ∃ ki : Nat, f % (path.length : Int) = (ki : Int) := ⟨(f % (path.length : Int)).toNat, by omega⟩
  have hkl : ki < path.length := by omega
  have HW3 := HW _ _ (u3 ki hkl) (by rw [laterP_len]; omega)
  have HMD : Hid (∀ w, Calls Try.prog 39 #[.int .i64 f, .int .i64 path.length] w fun e w' => e = .returned (.int .i64 ki) ∧ w = w') := fun w => by
    have h := Mod_any f path.length w (by omega) (by omega)
    rwa [hki] at h
  have hwl := wound_len path posts 0
  have HHS := Lib.hid (fun k h => wound_has path posts 0 k h)
  have HU4 := Lib.hid u4
  have HLP : Hid (∀ i, i < path.length → (laterP path ki).take (i + 1) = (laterP path ki).take i ++ [path[(i + ki) % path.length]'(Nat.mod_lt _ hp0)]) := fun i hi => by
    rw [List.take_succ_eq_append_getElem (by rw [laterP_len]; exact hi)]
    simp only [laterP, List.getElem_map, List.getElem_range]
    rw [getD_eq _ _ _ (Nat.mod_lt _ hp0)]
  have hll := laterP_len path ki
  clear HW u0 u1 u2 u3 u4 u2' h3 h4 k1 k2 hki hkm
  generalize laterP path ki = lp at *
  have hwlH := Lib.hid hwl
  generalize hwd : wound path posts 0 = wl at *
  clear hwd
  have HIN : Hid (∀ u v w, Sl e1 1 w u wl → Sl e1 1 w v wl → Calls Try.prog 24 #[u, v] w fun e w' => e = .returned (.bool true) ∧ Below w.heap.size w w') := fun u v w h k => by
    have := Ints_any u v wl wl w h k (by omega) (by omega)
    rwa [eqL_refl] at this
  simp only [List.length_nil] at HW1 HW2
  have e0 : ((path.length : Int) == 0) = false := eq1 (by omega)
  have e0' : path ≠ [] := by rintro rfl; simp at hp0
  have d1 : ¬ (14 : Int) < (path.length : Int) := by omega
  have d1' : decide ((14 : Int) < (path.length : Int)) = false := decide_eq_false d1
  have d2 : ¬ (10 : Int) < (posts.length : Int) := by omega
  have d2' : decide ((10 : Int) < (posts.length : Int)) = false := decide_eq_false d2
  have hwp : IntKind.i64.wrap ((path.length : Int) - 1) = (path.length : Int) - 1 := IntWalk.i64_in _ (by omega)
  go_enter Try.func13, Try.ntmps13
  go_wp2_with (first
      | (go_at_call 83; refine (shown_any _).mono ?_; rintro e w1 ⟨rfl, b1⟩; have HXP : ∃ P : World → Prop, Keeps P ∧ P w1 ∧ ∀ W, P W → Sl e2 2 W (.slice A path.length c) path ∧ Sl e2 2 W (.slice A' posts.length c') posts ∧ Below w.heap.size w W := ⟨_, (keeps_sl _ _ _ _).and ((keeps_sl _ _ _ _).and (keeps_below _)), ⟨HS.out.below b1, HU.out.below b1, b1⟩, fun _ h => h⟩; obtain ⟨P, KP, hP, HPE⟩ := HXP; have K0 := Lib.hid KP; have HPE := Lib.hid HPE; have Q1 := Lib.hid hP; clear b1 KP hP)
      | (go_at_call 76; refine (HPT.out _ (HPE.out _ Q1.out).1).mono ?_; rintro e w2 ⟨rfl, b2⟩; have Q2 := Lib.hid (K0.out _ _ Q1.out b2); clear b2)
      | (go_at_call 79; refine (HPO.out _ (HPE.out _ Q2.out).1 (HPE.out _ Q2.out).2.1).mono ?_; rintro e w3 ⟨rfl, b3⟩; have Q3 := Lib.hid (K0.out _ _ Q2.out b3); clear b3)
      | (go_at_call 74; refine (CopyPath_any _ path _ (HPE.out _ Q3.out).1 (by omega)).mono ?_; rintro e w4 ⟨r4, rfl, o4, b4⟩; have HC4 := Lib.hid o4; have HC4B := Lib.hid b4; clear o4 b4))
  obtain ⟨bp, op, rfl, hq1, hq2⟩ := (HPE.out _ Q3.out).1.at2 (k := 0) hp0
  clear hq1 hq2
  have HPB := Lib.hid (fun W (h : Below w3.heap.size w3 W) => (HPE.out _ (K0.out _ _ Q3.out h)).1)
  go_loopw [7, 8] (fun vr i wr => ∃ j : Nat, ∃ z : Int, j ≤ path.length ∧ i = .int .i64 z ∧ z = (j : Int) - 1 ∧ Ow e2 2 61 w3.heap.size wr vr (path ++ path.reverse.take (path.length - j)) ∧ Below w3.heap.size w3 wr) (fun _ i _ => (intOf i + 1).toNat)
  case atStart => exact ⟨path.length, _, Nat.le_refl _, rfl, by first | rfl | omega, by simpa using HC4.out, HC4B.out⟩
  case round =>
    obtain ⟨j, z, hj, rfl, hz, hown, hb⟩ := hrel
    have HO := Lib.hid hown
    have HB := Lib.hid hb
    clear hown hb
    cases j with
    | succ m =>
      obtain rfl : z = (m : Int) := by omega
      have hlt : m < path.length := by omega
      have hlen : (path ++ path.reverse.take (path.length - (m + 1))).length ≤ 40 := by simp; omega
      have htk : path.reverse.take (path.length - m) = path.reverse.take (path.length - (m + 1)) ++ [path[m]] := by
        have h1 : path.length - (m + 1) < path.reverse.length := by simp; omega
        have h2 := List.take_succ_eq_append_getElem h1
        rw [show path.length - (m + 1) + 1 = path.length - m by omega] at h2
        rw [h2, List.getElem_reverse]
        congr 3
        omega
      have HTK := Lib.hid htk
      have HPT1 := Lib.hid (fun W (h : Below w3.heap.size w3 W) => (HPB.out W h).at2 (k := m) hlt)
      obtain ⟨bp, op, ep, _, c0, c1⟩ := HPT1.out wr HB.out
      injection ep with ep
      injection ep with ep1 ep2
      subst ep1; subst ep2
      have hml : (m : Int) < (path.length : Int) := by omega
      have hm0 : (0 : Int) ≤ (m : Int) := by omega
      have hwm : IntKind.i64.wrap ((m : Int) - 1) = (m : Int) - 1 := IntWalk.i64_in _ (by omega)
      have hzw := HB.out.size
      clear htk HPT1 hj hz
      generalize path[m] = q at *
      generalize path.reverse.take (path.length - (m + 1)) = acc at *
      obtain ⟨q1, q2⟩ := q
      simp only at c0 c1
      go_wp2_with (at_builtin; refine wpList_append_at _ rfl _ _ 107 rfl w3.heap.size 61 i0 _ 2 16 Try.underlying107 hi hz0 hz1 hz2 rfl (by decide) _ _ _ rfl (HO.out.own.alloc _) ⟨_, 0, none⟩ 1 1 (e2 (q1, q2)) rfl rfl (cells_new _ _ _) (e2_one _) (by simp only [maxLen]; omega) (by omega) (by simp; omega) ?_; intro v1 wa hown1 hg _; have HO1 := Lib.hid (Ow.snoc hown1); have HBa := Lib.hid ((HO.out.alloc (.cells #[.int .i64 q1, .int .i64 q2] 61)).grown hg (below_al HB.out _) (Nat.le_refl _)); clear hown1 hg)
      go_roundw
      case rel => exact ⟨m, (m : Int) - 1, by omega, by go_num, rfl, by rw [HTK.out, ← List.append_assoc]; exact HO1.out, HBa.out⟩
      case measure => simp [intOf] <;> omega
    | zero =>
      have hzn : ¬ (0 : Int) ≤ z := by omega
      have hzd : decide ((0 : Int) ≤ z) = false := decide_eq_false hzn
      clear hz hj
      rw [Nat.sub_zero, show path.reverse.take path.length = path.reverse from List.take_of_length_le (by simp)] at HO
      have HXP : ∃ P : World → Prop, Keeps P ∧ P wr ∧ ∀ W, P W → Sl e2 2 W (.slice (some ⟨bp, op, none⟩) path.length c) path ∧ Sl e2 2 W (.slice A' posts.length c') posts ∧ Sl e2 2 W u7 (path ++ path.reverse) ∧ Below w.heap.size w W := ⟨_, (keeps_sl _ _ _ _).and ((keeps_sl _ _ _ _).and ((keeps_sl _ _ _ _).and (keeps_below _))), ⟨(HPE.out _ (K0.out _ _ Q3.out HB.out)).1, (HPE.out _ (K0.out _ _ Q3.out HB.out)).2.1, HO.out.sl e2_len, (HPE.out _ (K0.out _ _ Q3.out HB.out)).2.2⟩, fun _ h => h⟩
      clear HPE HPB Q1 Q2 Q3 K0 HO HC4 HC4B HB HPT HPO HS HU
      obtain ⟨P2, KP, hP, HPE⟩ := HXP
      have K10 := Lib.hid KP
      have HPE := Lib.hid HPE
      have Q10 := Lib.hid hP
      clear KP hP
      have U99 : Hid True := trivial
      have U1 : Hid True := trivial
      go_wp2_with (first
      | (go_at_call 74; clear U1; refine (CopyPath_any _ path _ (HPE.out _ Q10.out).1 (by omega)).mono ?_; rintro e w11 ⟨r11, rfl, o11, b11⟩; have s11 := o11.sl e2_len; clear o11; have K11 := Lib.hid (Keeps.and K10.out (keeps_sl e2 2 r11 path)); have Q11 := Lib.hid (And.intro (K10.out _ _ Q10.out b11) s11); clear b11 s11)
      | (go_at_call 74; clear U99; refine (CopyPath_any _ posts _ (HPE.out _ Q11.out.1).2.1 (by omega)).mono ?_; rintro e w12 ⟨r12, rfl, o12, b12⟩; have s12 := o12.sl e2_len; clear o12; have K12 := Lib.hid (Keeps.and K11.out (keeps_sl e2 2 r12 posts)); have Q12 := Lib.hid (And.intro (K11.out _ _ Q11.out b12) s12); clear b12 s12)
      | (go_at_call 75; refine (HW0.out _ _ _ (Q12.out.1.2) (Q12.out.2)).mono ?_; rintro e w13 ⟨A13, c13, rfl, s13, b13⟩; have K13 := Lib.hid (Keeps.and K12.out (keeps_sl e1 1 (.slice A13 wl.length c13) wl)); have Q13 := Lib.hid (And.intro (K12.out _ _ Q12.out b13) s13); clear b13 s13)
      | (go_at_call 74; refine (CopyPath_any _ path _ (HPE.out _ Q13.out.1.1.1).1 (by omega)).mono ?_; rintro e w20 ⟨r20, rfl, o20, b20⟩; have HC20 := Lib.hid o20; have HB20 := Lib.hid b20; have Q20 := Lib.hid (K13.out _ _ Q13.out b20); obtain ⟨_, _, ep, _, k0, k1⟩ := (HPE.out _ Q20.out.1.1.1).1.at2 (k := 0) hp0; injection ep with ep; injection ep with ep1 ep2; subst ep1; subst ep2; rw [h0e] at k0 k1; simp only [Nat.zero_mul, Nat.add_zero] at k0 k1; have hz20 := b20.size; clear b20 o20)
      | (at_builtin; refine wpList_append_at _ rfl _ _ 107 rfl w13.heap.size 61 i0 _ 2 16 Try.underlying107 hi hz0 hz1 hz2 rfl (by decide) _ _ _ rfl (HC20.out.own.alloc _) ⟨_, 0, none⟩ 1 1 (e2 (a1, a2)) rfl rfl (cells_new _ _ _) (e2_one _) (by simp only [maxLen]; omega) (by omega) (by simp; omega) ?_; intro v21 w21 hown1 hg _; have HC21 := Lib.hid (Ow.snoc hown1); have HC21B := Lib.hid ((HC20.out.alloc (.cells #[.int .i64 a1, .int .i64 a2] 61)).grown hg (below_al HB20.out _) (Nat.le_refl _)); clear hown1 hg k0 k1))
      have HPB := Lib.hid (fun W (h : Below w13.heap.size w13 W) => (HPE.out _ ((K13.out _ _ Q13.out h).1.1.1)).1)
      go_loopw [11, 12] (fun vr i wr => ∃ j : Nat, ∃ z : Int, j ≤ path.length ∧ i = .int .i64 z ∧ z = (j : Int) - 1 ∧ Ow e2 2 61 w13.heap.size wr vr ((path ++ [(a1, a2)]) ++ path.reverse.take (path.length - j)) ∧ Below w13.heap.size w13 wr) (fun _ i _ => (intOf i + 1).toNat)
      case atStart => exact ⟨path.length, _, Nat.le_refl _, rfl, by first | rfl | omega, by simpa using HC21.out, HC21B.out⟩
      case round =>
        obtain ⟨j, z, hj, rfl, hz, hown, hb⟩ := hrel
        have HO := Lib.hid hown
        have HB := Lib.hid hb
        clear hown hb
        cases j with
        | succ m =>
          obtain rfl : z = (m : Int) := by omega
          have hlt : m < path.length := by omega
          have hlen : ((path ++ [(a1, a2)]) ++ path.reverse.take (path.length - (m + 1))).length ≤ 40 := by simp; omega
          have htk : path.reverse.take (path.length - m) = path.reverse.take (path.length - (m + 1)) ++ [path[m]] := by
            have h1 : path.length - (m + 1) < path.reverse.length := by simp; omega
            have h2 := List.take_succ_eq_append_getElem h1
            rw [show path.length - (m + 1) + 1 = path.length - m by omega] at h2
            rw [h2, List.getElem_reverse]
            congr 3
            omega
          have HTK := Lib.hid htk
          have HPT1 := Lib.hid (fun W (h : Below w13.heap.size w13 W) => (HPB.out W h).at2 (k := m) hlt)
          obtain ⟨bp, op, ep, _, c0, c1⟩ := HPT1.out wr HB.out
          injection ep with ep
          injection ep with ep1 ep2
          subst ep1; subst ep2
          have hml : (m : Int) < (path.length : Int) := by omega
          have hm0 : (0 : Int) ≤ (m : Int) := by omega
          have hwm : IntKind.i64.wrap ((m : Int) - 1) = (m : Int) - 1 := IntWalk.i64_in _ (by omega)
          have hzw := HB.out.size
          clear htk HPT1 hj hz
          generalize path[m] = q at *
          generalize path.reverse.take (path.length - (m + 1)) = acc at *
          obtain ⟨q1, q2⟩ := q
          simp only at c0 c1
          go_wp2_with (at_builtin; refine wpList_append_at _ rfl _ _ 107 rfl w13.heap.size 61 i0 _ 2 16 Try.underlying107 hi hz0 hz1 hz2 rfl (by decide) _ _ _ rfl (HO.out.own.alloc _) ⟨_, 0, none⟩ 1 1 (e2 (q1, q2)) rfl rfl (cells_new _ _ _) (e2_one _) (by simp only [maxLen]; omega) (by omega) (by simp; omega) ?_; intro v1 wa hown1 hg _; have HO1 := Lib.hid (Ow.snoc hown1); have HBa := Lib.hid ((HO.out.alloc (.cells #[.int .i64 q1, .int .i64 q2] 61)).grown hg (below_al HB.out _) (Nat.le_refl _)); clear hown1 hg)
          go_roundw
          case rel => exact ⟨m, (m : Int) - 1, by omega, by go_num, rfl, by rw [HTK.out, ← List.append_assoc]; exact HO1.out, HBa.out⟩
          case measure => simp [intOf] <;> omega
        | zero =>
          have hzn : ¬ (0 : Int) ≤ z := by omega
          have hzd : decide ((0 : Int) ≤ z) = false := decide_eq_false hzn
          clear hz hj
          rw [Nat.sub_zero, show path.reverse.take path.length = path.reverse from List.take_of_length_le (by simp)] at HO
          have HXP : ∃ P : World → Prop, Keeps P ∧ P wr ∧ ∀ W, P W → Sl e2 2 W (.slice (some ⟨bp, op, none⟩) path.length c) path ∧ Sl e2 2 W (.slice A' posts.length c') posts ∧ Sl e2 2 W u7 (path ++ path.reverse) ∧ Sl e2 2 W u11 (path ++ [(a1, a2)] ++ path.reverse) ∧ Sl e1 1 W (.slice A13 wl.length c13) wl ∧ Below w.heap.size w W := ⟨_, (keeps_sl _ _ _ _).and ((keeps_sl _ _ _ _).and ((keeps_sl _ _ _ _).and ((keeps_sl _ _ _ _).and ((keeps_sl _ _ _ _).and (keeps_below _))))), ⟨(HPE.out _ ((K13.out _ _ Q13.out HB.out).1.1.1)).1, (HPE.out _ ((K13.out _ _ Q13.out HB.out).1.1.1)).2.1, (HPE.out _ ((K13.out _ _ Q13.out HB.out).1.1.1)).2.2.1, HO.out.sl e2_len, (K13.out _ _ Q13.out HB.out).2, (HPE.out _ ((K13.out _ _ Q13.out HB.out).1.1.1)).2.2.2⟩, fun _ h => h⟩
          clear HPE HPB Q10 Q11 Q12 Q13 Q20 HO HC20 HC21 HC21B HB20 HB HW0
          obtain ⟨P3, KP, hP, HPE⟩ := HXP
          have K30 := Lib.hid KP
          have HPE := Lib.hid HPE
          have Q30 := Lib.hid hP
          clear KP hP
          have V1 : Hid True := trivial
          have V2 : Hid True := trivial
          go_wp2_with (first
        | (go_at_call 74; clear V1; refine (CopyPath_any _ posts _ (HPE.out _ Q30.out).2.1 (by omega)).mono ?_; rintro e w31 ⟨r31, rfl, o31, b31⟩; have s31 := o31.sl e2_len; clear o31; have K31 := Lib.hid (Keeps.and K30.out (keeps_sl e2 2 r31 posts)); have Q31 := Lib.hid (And.intro (K30.out _ _ Q30.out b31) s31); clear b31 s31)
        | (go_at_call 75; clear V2; refine (HW1.out _ _ _ (HPE.out _ Q31.out.1).2.2.2.1 (Q31.out.2)).mono ?_; rintro e w32 ⟨A32, c32, rfl, s32, b32⟩; have K32 := Lib.hid (Keeps.and K31.out (keeps_sl e1 1 (.slice A32 0 c32) [])); have Q32 := Lib.hid (And.intro (K31.out _ _ Q31.out b32) s32); clear b32 s32)
        | (go_at_call 74; refine (CopyPath_any _ posts _ (HPE.out _ Q32.out.1.1).2.1 (by omega)).mono ?_; rintro e w33 ⟨r33, rfl, o33, b33⟩; have s33 := o33.sl e2_len; clear o33; have K33 := Lib.hid (Keeps.and K32.out (keeps_sl e2 2 r33 posts)); have Q33 := Lib.hid (And.intro (K32.out _ _ Q32.out b33) s33); clear b33 s33)
        | (go_at_call 75; refine (HW2.out _ _ _ (HPE.out _ Q33.out.1.1.1).2.2.1 (Q33.out.2)).mono ?_; rintro e w34 ⟨A34, c34, rfl, s34, b34⟩; have K34 := Lib.hid (Keeps.and K33.out (keeps_sl e1 1 (.slice A34 0 c34) [])); have Q34 := Lib.hid (And.intro (K33.out _ _ Q33.out b34) s34); clear b34 s34)
        | (go_at_call 39; refine (HMD.out _).mono ?_; rintro e w35 ⟨rfl, rfl⟩))
          go_loopw [17, 19] (fun vr i wr => ∃ k : Nat, k ≤ path.length ∧ i = .int .i64 k ∧ Ow e2 2 61 w34.heap.size wr vr (lp.take k) ∧ Below w34.heap.size w34 wr) (fun _ i _ => path.length - (intOf i).toNat)
          case atStart => exact ⟨0, Nat.zero_le _, rfl, Ow.nil _ _ _ _ _, Below.refl _ _⟩
          case round =>
            obtain ⟨k, hk, rfl, hown, hb⟩ := hrel
            have HO := Lib.hid hown
            have HB := Lib.hid hb
            have Q49 := Lib.hid (K34.out _ _ Q34.out hb)
            clear hown hb
            by_cases hlt : k < path.length
            · have htk := HLP.out k hlt
              have hj : (k + ki) % path.length < path.length := Nat.mod_lt _ hp0
              obtain ⟨bp', op', ep, _, c0, c1⟩ := (HPE.out _ (Q49.out.1.1.1.1)).1.at2 (k := (k + ki) % path.length) hj
              injection ep with ep
              injection ep with ep1 ep2
              subst ep1; subst ep2
              have hwa : IntKind.i64.wrap ((k : Int) + (ki : Int)) = (k : Int) + (ki : Int) := IntWalk.i64_in _ (by omega)
              have hrem : ((k : Int) + (ki : Int)).tmod (path.length : Int) = (((k + ki) % path.length : Nat) : Int) := by
                rw [Int.tmod_eq_emod_of_nonneg (by omega), ← Int.natCast_add, ← Int.natCast_emod]
              have HTK := Lib.hid htk
              have hacc : (lp.take k).length ≤ 14 := Nat.le_trans (List.length_take_le _ _) (by omega)
              have hzw := HB.out.size
              clear htk
              generalize path[(k + ki) % path.length] = q at *
              generalize (k + ki) % path.length = j at *
              have hjl : (j : Int) < (path.length : Int) := by omega
              have hj0 : (0 : Int) ≤ (j : Int) := by omega
              generalize lp.take k = acc at *
              obtain ⟨q1, q2⟩ := q
              simp only at c0 c1
              go_wp2_with (at_builtin; refine wpList_append_at _ rfl _ _ 107 rfl w34.heap.size 61 i0 _ 2 16 Try.underlying107 hi hz0 hz1 hz2 rfl (by decide) _ _ _ rfl (HO.out.own.alloc _) ⟨_, 0, none⟩ 1 1 (e2 (q1, q2)) rfl rfl (cells_new _ _ _) (e2_one _) (by simp only [maxLen]; omega) (by omega) (by simp; omega) ?_; intro v1 wa hown1 hg _; have HO1 := Lib.hid (Ow.snoc hown1); have HBa := Lib.hid ((HO.out.alloc (.cells #[.int .i64 q1, .int .i64 q2] 61)).grown hg (below_al HB.out _) (Nat.le_refl _)); clear hown1 hg)
              go_roundw
              case rel => exact ⟨k + 1, by omega, by go_num, by rw [HTK.out]; exact HO1.out, HBa.out⟩
              case measure => simp [intOf]; omega
            · obtain rfl : k = path.length := by omega
              rw [show lp.take path.length = lp from List.take_of_length_le (by omega)] at HO
              have HXP : ∃ P : World → Prop, Keeps P ∧ P wr ∧ ∀ W, P W → Sl e2 2 W (.slice (some ⟨bp, op, none⟩) path.length c) path ∧ Sl e2 2 W (.slice A' posts.length c') posts ∧ Sl e1 1 W (.slice A13 wl.length c13) wl ∧ Sl e2 2 W u17 lp ∧ Below w.heap.size w W := ⟨_, (keeps_sl _ _ _ _).and ((keeps_sl _ _ _ _).and ((keeps_sl _ _ _ _).and ((keeps_sl _ _ _ _).and (keeps_below _)))), ⟨(HPE.out _ (Q49.out.1.1.1.1)).1, (HPE.out _ (Q49.out.1.1.1.1)).2.1, (HPE.out _ (Q49.out.1.1.1.1)).2.2.2.2.1, HO.out.sl e2_len, (HPE.out _ (Q49.out.1.1.1.1)).2.2.2.2.2⟩, fun _ h => h⟩
              clear HPE Q30 Q31 Q32 Q33 Q34 Q49 HO HB HW1 HW2 HLP HMD
              obtain ⟨P4, KP, hP, HPE⟩ := HXP
              have K50 := Lib.hid KP
              have HPE := Lib.hid HPE
              have Q50 := Lib.hid hP
              clear KP hP
              go_wp2_with (first
          | (go_at_call 74; refine (CopyPath_any _ posts _ (HPE.out _ Q50.out).2.1 (by omega)).mono ?_; rintro e w51 ⟨r51, rfl, o51, b51⟩; have s51 := o51.sl e2_len; clear o51; have K51 := Lib.hid (Keeps.and K50.out (keeps_sl e2 2 r51 posts)); have Q51 := Lib.hid (And.intro (K50.out _ _ Q50.out b51) s51); clear b51 s51)
          | (go_at_call 75; refine (HW3.out _ _ _ (HPE.out _ Q51.out.1).2.2.2.1 (Q51.out.2)).mono ?_; rintro e w52 ⟨A52, c52, rfl, s52, b52⟩; have K52 := Lib.hid (Keeps.and K51.out (keeps_sl e1 1 (.slice A52 wl.length c52) wl)); have Q52 := Lib.hid (And.intro (K51.out _ _ Q51.out b52) s52); clear b52 s52)
          | (go_at_call 24; refine (HIN.out _ _ _ (HPE.out _ Q52.out.1.1).2.2.1 (Q52.out.2)).mono ?_; rintro e w53 ⟨rfl, b53⟩; have Q53 := Lib.hid (K52.out _ _ Q52.out b53); clear b53))
              go_loopw [22, 23, 24] (fun i _ _ wr => ∃ k : Nat, k ≤ posts.length ∧ i = .int .i64 k ∧ Below w53.heap.size w53 wr) (fun i _ _ _ => posts.length - (intOf i).toNat)
              case atStart => exact ⟨0, Nat.zero_le _, rfl, Below.refl _ _⟩
              case round =>
                obtain ⟨k, hk, rfl, hb⟩ := hrel
                have HB := Lib.hid hb
                have Q59 := Lib.hid (K52.out _ _ Q53.out hb)
                clear hb
                by_cases hlt : k < posts.length
                · have hha := HHS.out k hlt
                  rw [Nat.zero_add] at hha
                  have hwi := HU4.out k hlt
                  have HAQ := Lib.hid (fun W (h : Below wr.heap.size wr W) => (HPE.out _ ((K52.out _ _ Q59.out h).1.1)).2.1.at2 (k := k) hlt)
                  have HAP := Lib.hid (fun W (h : Below wr.heap.size wr W) => HPE.out _ ((K52.out _ _ Q59.out h).1.1))
                  have HWI0 := fun v w h => WindingOf_any v path posts[k] w h (by omega)
                  rw [hwi] at HWI0
                  have HWI := Lib.hid HWI0
                  clear HWI0 hwi
                  generalize winding path posts[k] = wn at *
                  generalize posts[k] = q at *
                  obtain ⟨q1, q2⟩ := q
                  simp only at HWI HAQ
                  obtain ⟨bq, oq, rfl, _, _⟩ := HAQ.out wr (Below.refl _ _)
                  have hkl : (k : Int) < (posts.length : Int) := by omega
                  have hk0 : (0 : Int) ≤ (k : Int) := by omega
                  have HXQ : Hid (∀ W, Below wr.drew.heap.size wr.drew W → W.cell? ⟨bq, oq + k * 2, none⟩ = some (.int .i64 q1) ∧ W.cell? ⟨bq, oq + k * 2 + 1, none⟩ = some (.int .i64 q2) ∧ Sl e2 2 W (.slice (some ⟨bp, op, none⟩) path.length c) path ∧ Sl e1 1 W (.slice A13 wl.length c13) wl ∧ Below w53.heap.size w53 W) := by
                    intro W hW
                    have hb0 : Below wr.heap.size wr W := Below.trans (Below.drew (Below.refl _ _)) hW
                    obtain ⟨b0, o0, e0, _, ca1, ca2⟩ := HAQ.out W hb0
                    injection e0 with e0
                    injection e0 with e01 e02
                    subst e01; subst e02
                    exact ⟨ca1, ca2, (HAP.out W hb0).1, (HAP.out W hb0).2.2.1, below_tr HB.out hb0⟩
                  obtain ⟨hbv, hhb, hcase⟩ : ∃ hbv : Bool, hasL wl (k : Int) = hbv ∧ (wn = 0 ∧ hbv = false ∨ ¬ wn = 0 ∧ hbv = true) := by
                    by_cases h : wn = 0
                    · exact ⟨false, by rw [hha]; simp [h], .inl ⟨h, rfl⟩⟩
                    · exact ⟨true, by rw [hha]; simp [h], .inr ⟨h, rfl⟩⟩
                  have HHA : Hid (∀ v w, Sl e1 1 w v wl → Calls Try.prog 56 #[v, .int .i64 k] w fun e w' => e = .returned (.bool hbv) ∧ Below w.heap.size w w') := fun v w h => by
                    have h9 := Has_any v wl k w h (by have := hwlH.out; omega)
                    rwa [hhb] at h9
                  clear hha hhb HAQ HAP
                  go_wp2_with fail
                  refine wp_region_mono 11 [175, 176, 177, 178, 179, 180, 181, 174, 182, 183, 23] [[], [0], [], [], [2, 3], [4], [1, 5], [6], [7], [7], [8]] [fun v _ => v = .slice (some ⟨bp, op, none⟩) path.length c, fun v w => Sl e2 2 w v path, fun v _ => v = .slice (some ⟨bq, oq, none⟩) posts.length c', fun v _ => v = .int .i64 k, fun v _ => v = .pointer (some ⟨bq, oq + k * 2, none⟩), fun v _ => v = .agg #[.int .i64 q1, .int .i64 q2], fun v _ => v = .tuple #[.int .i64 wn, .int .i64 0], fun v _ => v = .tuple #[.int .i64 wn, .int .i64 0], fun v _ => v = .int .i64 wn, fun v _ => v = .int .i64 0, fun v _ => v = .int .i64 wn] (by kernel_rfl) (by kernel_rfl) ⟨st_eq _, st_sl _ _ _, st_eq _, st_eq _, st_eq _, st_eq _, st_eq _, st_eq _, st_eq _, st_eq _, st_eq _, trivial⟩ ?_ ?_
                  · simp only [List.take_succ_cons, List.take_zero, steps, and_true]
                    refine ⟨?_, ?_, ?_, ?_, ?_, ?_, ?_, ?_, ?_, ?_, ?_⟩
                    · intro x W hB _; simp only [putX, setX, List.foldl_cons, List.foldl_nil]; refine ⟨?_⟩; go_simp; exact ⟨rfl, Below.refl _ _⟩
                    · intro x W hB hN; simp only [needs, sAt, dAt] at hN; simp only [putX, setX, List.foldl_cons, List.foldl_nil]; refine ⟨?_⟩; go_simp; refine (CopyPath_any _ path _ (HXQ.out W hB).2.2.1 (by omega)).mono ?_; rintro e w' ⟨r, rfl, o, b⟩; exact ⟨_, rfl, o.sl e2_len, b⟩
                    · intro x W hB _; simp only [putX, setX, List.foldl_cons, List.foldl_nil]; refine ⟨?_⟩; go_simp; exact ⟨rfl, Below.refl _ _⟩
                    · intro x W hB _; simp only [putX, setX, List.foldl_cons, List.foldl_nil]; refine ⟨?_⟩; go_simp; exact ⟨rfl, Below.refl _ _⟩
                    · intro x W hB hN; simp only [needs, sAt, dAt] at hN; simp only [putX, setX, List.foldl_cons, List.foldl_nil]; refine ⟨?_⟩; go_simp; exact ⟨rfl, Below.refl _ _⟩
                    · intro x W hB hN; simp only [needs, sAt, dAt] at hN; simp only [putX, setX, List.foldl_cons, List.foldl_nil]; obtain ⟨d0, d1, _⟩ := HXQ.out W hB; refine ⟨?_⟩; go_simp; exact ⟨rfl, Below.refl _ _⟩
                    · intro x W hB hN; simp only [needs, sAt, dAt] at hN; simp only [putX, setX, List.foldl_cons, List.foldl_nil]; refine ⟨?_⟩; go_simp; refine (HWI.out _ _ hN.1).mono ?_; rintro e w' ⟨rfl, b⟩; exact ⟨_, rfl, rfl, b⟩
                    · intro x W hB hN; simp only [needs, sAt, dAt] at hN; simp only [putX, setX, List.foldl_cons, List.foldl_nil]; refine ⟨?_⟩; go_simp; exact ⟨rfl, Below.refl _ _⟩
                    · intro x W hB hN; simp only [needs, sAt, dAt] at hN; simp only [putX, setX, List.foldl_cons, List.foldl_nil]; refine ⟨?_⟩; go_simp; exact ⟨rfl, Below.refl _ _⟩
                    · intro x W hB hN; simp only [needs, sAt, dAt] at hN; simp only [putX, setX, List.foldl_cons, List.foldl_nil]; refine ⟨?_⟩; go_simp; exact ⟨rfl, Below.refl _ _⟩
                    · intro x W hB hN; simp only [needs, sAt, dAt] at hN; simp only [putX, setX, List.foldl_cons, List.foldl_nil]; refine ⟨?_⟩; go_simp; exact ⟨rfl, Below.refl _ _⟩
                  · intro x W hB hA
                    simp only [allSp] at hA
                    have s1 := hA.2.2.2.2.2.2.2.2.2.2.1
                    have s2 := hA.2.2.2.2.2.2.2.2.2.1
                    have HXW := Lib.hid (HXQ.out W hB).2.2
                    clear hA hB
                    simp only [putX, setX, List.foldl_cons, List.foldl_nil, List.drop_succ_cons, List.drop_zero, s1, s2, List.setIfInBounds_toArray, List.set_cons_succ, List.set_cons_zero]
                    clear s1 s2
                    rcases hcase with ⟨rfl, rfl⟩ | ⟨hw0, rfl⟩
                    · go_wp2_with (go_at_call 56; refine (HHA.out _ _ HXW.out.2.1).mono ?_; rintro e w60 ⟨rfl, b60⟩)
                      go_roundw
                      case rel => exact ⟨k + 1, by omega, by go_num, below_tr HXW.out.2.2 b60⟩
                      case measure => simp [intOf]; omega
                    · have hw1 := ne1 hw0
                      go_wp2_with (go_at_call 56; refine (HHA.out _ _ HXW.out.2.1).mono ?_; rintro e w60 ⟨rfl, b60⟩)
                      go_roundw
                      case rel => exact ⟨k + 1, by omega, by go_num, below_tr HXW.out.2.2 b60⟩
                      case measure => simp [intOf]; omega
                · obtain rfl : k = posts.length := by omega
                  go_wp2_with fail
                  go_ret
                  exact ⟨rfl, (HPE.out _ (Q59.out.1.1)).2.2.2.2⟩
end Go.Proofs.Ytghglgaimhfedaa
