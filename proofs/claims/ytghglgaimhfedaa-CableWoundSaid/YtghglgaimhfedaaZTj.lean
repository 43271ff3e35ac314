/-
  The statement CableWound where everything is defined.
-/
import Derived.Test.YtghglgaimhfedaaZTi
import Derived.Test.YtghglgaimhfedaaZTk
namespace Go.Proofs.Ytghglgaimhfedaa
open Go.RowKit Go.Shelf
attribute [local go_sem] monoUpon_value monoUpon_skip monoUpon_enter

set_option maxRecDepth 100000 in
set_option maxHeartbeats 16000000 in
theorem wound_ok (v u : Value) (path more : List Pt) (p m : Pt) (t : Int) (w : World) (hs : Sl e2 2 w v path) (hu : Sl e2 2 w u more) (h0 : 0 < path.length) (h1 : path.length ≤ 10) (h2 : more.length ≤ 10) (ht1 : -3 ≤ t) (ht2 : t ≤ 3) (hp : smB p = true) (hm : smB m = true) (hps : ∀ k (h : k < path.length), smB path[k] = true) (hms : ∀ k (h : k < more.length), smB more[k] = true) (n kn : Int) (hnp : windingOf path p = (n, 0)) (hns : ∀ a, path[0]? = some a → windingOf (a :: more) p = (kn, 0)) (hnb : -30 ≤ n ∧ n ≤ 30) (hkb : -30 ≤ kn ∧ kn ≤ 30) (rv lt mv : List Pt) (hrv : rv = path.reverse) (hlv : lt = laterP path 1) (hmv : mv = path.map (mvP m)) (HW1 : Hid (windingOf rv p = (-n, 0))) (HW2 : Hid (windingOf lt p = (n, 0))) (HW3 : Hid (windingOf mv (mvP m p) = (n, 0))) (HW4 : Hid (∀ a, path[0]? = some a → windingOf (path ++ a :: more) p = (n + kn, 0))) (HW5 : Hid (t ≠ 0 → windingOf (squaresP p t) p = (t, 0))) :
    Calls Try.prog 12 #[v, u, .agg #[.int .i64 p.1, .int .i64 p.2, .int .i64 m.1, .int .i64 m.2, .int .i64 t]] w fun e w' => e = .returned (.bool true) ∧ Below w.heap.size w w' := by
  have HS := Lib.hid hs
  have HU := Lib.hid hu
  obtain ⟨A, c, rfl, hcap⟩ := hs.form
  obtain ⟨A', c', rfl, hcap'⟩ := hu.form
  clear hs hu hcap hcap'
  obtain ⟨i0, hi, hz0, hz1, hz2⟩ := info_parts ptinfo
  have e0 : ((path.length : Int) == 0) = false := eq1 (by omega)
  have d1 : ¬ (10 : Int) < (path.length : Int) := by omega
  have d1' : decide ((10 : Int) < (path.length : Int)) = false := decide_eq_false d1
  have d2 : ¬ (10 : Int) < (more.length : Int) := by omega
  have d2' : decide ((10 : Int) < (more.length : Int)) = false := decide_eq_false d2
  have HWI := Lib.hid (fun w => Within_any t (-3) 3 w)
  rw [inB_true ⟨ht1, ht2⟩] at HWI
  have HSP := Lib.hid (fun w => small_any p w)
  rw [hp] at HSP
  have HSB := Lib.hid (fun w => small_any m w)
  rw [hm] at HSB
  have T1 : Hid True := trivial
  have HPS := Lib.hid hps
  have HMS := Lib.hid hms
  have HNP := Lib.hid hnp
  have HNS := Lib.hid hns
  have HRV := Lib.hid hrv
  have HLV := Lib.hid hlv
  have HMV := Lib.hid hmv
  have HP4 := Lib.hid (smB_iff.1 hp)
  have HM4 := Lib.hid (smB_iff.1 hm)
  clear hps hms hnp hns hrv hlv hmv hp hm
  go_enter Try.func12, Try.ntmps12
  go_wp2_with (first
    | (go_at_call 14; refine (awakeB _).mono ?_; rintro e w1 ⟨rfl, b1⟩; have HXP : ∃ P : World → Prop, Keeps P ∧ P w1 ∧ ∀ W, P W → (W.cell? ⟨w.heap.size, 0, none⟩ = some (.int .i64 p.1) ∧ W.cell? ⟨w.heap.size, 1, none⟩ = some (.int .i64 p.2) ∧ W.cell? ⟨w.heap.size, 2, none⟩ = some (.int .i64 m.1) ∧ W.cell? ⟨w.heap.size, 3, none⟩ = some (.int .i64 m.2) ∧ W.cell? ⟨w.heap.size, 4, none⟩ = some (.int .i64 t)) ∧ Sl e2 2 W (.slice A path.length c) path ∧ Sl e2 2 W (.slice A' more.length c') more ∧ Below w.heap.size w W := ⟨_, ((keeps_cell _ _).and ((keeps_cell _ _).and ((keeps_cell _ _).and ((keeps_cell _ _).and (keeps_cell _ _))))).and ((keeps_sl _ _ _ _).and ((keeps_sl _ _ _ _).and (keeps_below _))), post_hx HS.out HU.out b1, fun _ h => h⟩; obtain ⟨P, KP, hP, HPE⟩ := HXP; have K0 := Lib.hid KP; have HPE := Lib.hid HPE; have Q1 := Lib.hid hP; clear b1 KP hP; obtain ⟨g0, g1, g2, g3, g4⟩ := (HPE.out _ Q1.out).1)
    | (go_at_call 27; refine (HWI.out _).mono ?_; rintro e w2 ⟨rfl, rfl⟩)
    | (go_at_call 81; clear T1; refine (HSP.out _).mono ?_; rintro e w3 ⟨rfl, b3⟩; have Q3 := Lib.hid (K0.out _ _ Q1.out b3); clear b3 g0 g1 g2 g3 g4; obtain ⟨g0, g1, g2, g3, g4⟩ := (HPE.out _ Q3.out).1)
    | (go_at_call 81; refine (HSB.out _).mono ?_; rintro e w4 ⟨rfl, b4⟩; have Q4 := Lib.hid (K0.out _ _ Q3.out b4); clear b4 g0 g1 g2 g3 g4; obtain ⟨g0, g1, g2, g3, g4⟩ := (HPE.out _ Q4.out).1))
  obtain ⟨bp, op, rfl, hq1, hq2⟩ := (HPE.out _ Q4.out).2.1.at2 (k := 0) h0
  clear hq1 hq2
  go_loopw [7] (fun i wr => ∃ k : Nat, k ≤ path.length ∧ i = .int .i64 k ∧ Below w4.heap.size w4 wr) (fun i _ => path.length - (intOf i).toNat)
  case atStart => exact ⟨0, Nat.zero_le _, rfl, Below.refl _ _⟩
  case round =>
    obtain ⟨k, hk, rfl, hb⟩ := hrel
    have HB := Lib.hid hb
    have Q5 := Lib.hid (K0.out _ _ Q4.out hb)
    clear hb g0 g1 g2 g3 g4
    obtain ⟨g0, g1, g2, g3, g4⟩ := (HPE.out _ Q5.out).1
    by_cases hlt : k < path.length
    · have HSK := Lib.hid (fun w => small_any path[k] w)
      obtain ⟨_, _, ep, _, c0, c1⟩ := (HPE.out _ Q5.out).2.1.at2 (k := k) hlt
      injection ep with ep
      injection ep with ep1 ep2
      subst ep1; subst ep2
      have hkl : (k : Int) < (path.length : Int) := by omega
      have hk0 : (0 : Int) ≤ (k : Int) := by omega
      have hsm : smB path[k] = true := HPS.out k hlt
      rw [hsm] at HSK
      generalize path[k] = q at *
      obtain ⟨q1, q2⟩ := q
      simp only at c0 c1
      go_wp2_with (go_at_call 81; refine (HSK.out _).mono ?_; rintro e w5 ⟨rfl, b5⟩)
      go_roundw
      case rel => exact ⟨k + 1, by omega, by go_num, below_tr HB.out b5⟩
      case measure => simp [intOf]; omega
    · obtain rfl : k = path.length := by omega
      obtain ⟨⟨a1, a2⟩, h0e⟩ : ∃ q, path[0] = q := ⟨_, rfl⟩
      obtain ⟨_, _, ep, _, c0, c1⟩ := (HPE.out _ Q5.out).2.1.at2 (k := 0) h0
      injection ep with ep
      injection ep with ep1 ep2
      subst ep1; subst ep2
      rw [h0e] at c0 c1
      simp only [Nat.zero_mul, Nat.add_zero] at c0 c1
      have hl0 : (0 : Int) < (path.length : Int) := by omega
      obtain ⟨w6, hw6⟩ : ∃ w6, w6 = wr := ⟨_, rfl⟩
      rw [← hw6] at c0 c1 g0 g1 g2 g3 g4 HB Q5
      rw [← hw6]
      clear hw6
      go_wp2_with fail
      have hlit : Ow e2 2 61 w6.heap.size (w6.alloc (.cells #[.int .i64 a1, .int .i64 a2] 61)) (.slice (some ⟨w6.heap.size, 0, none⟩) 1 1) [(a1, a2)] := Ow.lit w6 #[.int .i64 a1, .int .i64 a2] [(a1, a2)] (Nat.le_refl _) (by simp) rfl rfl
      have HLIT := Lib.hid hlit
      clear hlit c0 c1
      go_loopw [8, 9] (fun vr i wr => ∃ k : Nat, k ≤ more.length ∧ i = .int .i64 k ∧ Ow e2 2 61 w6.heap.size wr vr ((a1, a2) :: more.take k) ∧ Below w6.heap.size w6 wr) (fun _ i _ => more.length - (intOf i).toNat)
      case atStart => exact ⟨0, Nat.zero_le _, rfl, HLIT.out, below_alloc1 _ _⟩
      case round =>
        obtain ⟨k, hk, rfl, hown, hb⟩ := hrel
        have HO := Lib.hid hown
        have HB2 := Lib.hid hb
        have Q6 := Lib.hid (K0.out _ _ Q5.out hb)
        clear hb hown g0 g1 g2 g3 g4
        obtain ⟨g0, g1, g2, g3, g4⟩ := (HPE.out _ Q6.out).1
        by_cases hlt : k < more.length
        · have HSK := Lib.hid (fun w => small_any more[k] w)
          have HCK := Lib.hid (fun W (h : Below wr.heap.size wr W) => (HPE.out _ (K0.out _ _ Q6.out h)).2.2.1.at2 (k := k) hlt)
          obtain ⟨bq, oq, rfl, _, c0, c1⟩ := HCK.out wr (Below.refl _ _)
          have hkl : (k : Int) < (more.length : Int) := by omega
          have hk0 : (0 : Int) ≤ (k : Int) := by omega
          have hsm : smB more[k] = true := HMS.out k hlt
          rw [hsm] at HSK
          have htk : more.take (k + 1) = more.take k ++ [more[k]] := List.take_succ_eq_append_getElem hlt
          have HTK := Lib.hid htk
          have hlen : ((a1, a2) :: more.take k).length ≤ 11 := by simp only [List.length_cons]; exact Nat.succ_le_succ (Nat.le_trans (List.length_take_le _ _) (by omega))
          clear htk
          generalize more[k] = q at *
          generalize more.take k = acc at *
          obtain ⟨q1, q2⟩ := q
          simp only at c0 c1 HCK
          go_wp2_with (first
            | (go_at_call 81; refine (HSK.out _).mono ?_; rintro e w7 ⟨rfl, b7⟩; obtain ⟨_, _, eq, _, d0, d1⟩ := HCK.out w7 b7; injection eq with eq; injection eq with eq1 eq2; subst eq1; subst eq2; have HO7 := Lib.hid (HO.out.below b7); have HB7 := Lib.hid (below_tr HB2.out b7); have hz7 := HB7.out.size; clear b7 c0 c1)
            | (at_builtin; refine wpList_append_at _ rfl _ _ 107 rfl w6.heap.size 61 i0 _ 2 16 Try.underlying107 hi hz0 hz1 hz2 rfl (by decide) _ _ _ rfl (HO7.out.own.alloc _) ⟨_, 0, none⟩ 1 1 (e2 (q1, q2)) rfl rfl (cells_new _ _ _) (e2_one _) (by simp only [maxLen]; omega) (by omega) (by simp; omega) ?_; intro v1 wa hown1 hg _; have HO1 := Lib.hid (Ow.snoc hown1); have HBa := Lib.hid ((HO7.out.alloc (.cells #[.int .i64 q1, .int .i64 q2] 61)).grown hg (below_al HB7.out _) (Nat.le_refl _)); clear hown1 hg))
          go_roundw
          case rel => exact ⟨k + 1, by omega, by go_num, by rw [HTK.out]; exact HO1.out, HBa.out⟩
          case measure => simp [intOf]; omega
        · obtain rfl : k = more.length := by omega
          rw [show more.take more.length = more from List.take_of_length_le (Nat.le_refl _)] at HO
          have hsecd := HNS.out (a1, a2) (by rw [List.getElem?_eq_getElem h0, h0e])
          obtain ⟨sec, hsec⟩ : ∃ sec, sec = (a1, a2) :: more := ⟨_, rfl⟩
          have hsl : sec.length ≤ 11 := by rw [hsec]; simp; omega
          rw [← hsec] at HO hsecd
          have HXP : ∃ P : World → Prop, Keeps P ∧ P wr ∧ ∀ W, P W → (W.cell? ⟨w.heap.size, 0, none⟩ = some (.int .i64 p.1) ∧ W.cell? ⟨w.heap.size, 1, none⟩ = some (.int .i64 p.2) ∧ W.cell? ⟨w.heap.size, 2, none⟩ = some (.int .i64 m.1) ∧ W.cell? ⟨w.heap.size, 3, none⟩ = some (.int .i64 m.2) ∧ W.cell? ⟨w.heap.size, 4, none⟩ = some (.int .i64 t)) ∧ Sl e2 2 W (.slice (some ⟨bp, op, none⟩) path.length c) path ∧ Sl e2 2 W u8 sec ∧ Below w.heap.size w W := ⟨_, ((keeps_cell _ _).and ((keeps_cell _ _).and ((keeps_cell _ _).and ((keeps_cell _ _).and (keeps_cell _ _))))).and ((keeps_sl _ _ _ _).and ((keeps_sl _ _ _ _).and (keeps_below _))), ⟨(HPE.out _ Q6.out).1, (HPE.out _ Q6.out).2.1, HO.out.sl e2_len, (HPE.out _ Q6.out).2.2.2⟩, fun _ h => h⟩
          have HWP : Hid (∀ v w, Sl e2 2 w v path → Calls Try.prog 73 #[v, .agg #[.int .i64 p.1, .int .i64 p.2]] w fun e w' => e = .returned (.tuple #[.int .i64 n, .int .i64 0]) ∧ Below w.heap.size w w') := fun v w h => by
            have := WindingOf_any v path p w h (by omega)
            rwa [HNP.out] at this
          have HWS : Hid (∀ v w, Sl e2 2 w v sec → Calls Try.prog 73 #[v, .agg #[.int .i64 p.1, .int .i64 p.2]] w fun e w' => e = .returned (.tuple #[.int .i64 kn, .int .i64 0]) ∧ Below w.heap.size w w') := fun v w h => by
            have := WindingOf_any v sec p w h (by omega)
            rwa [hsecd] at this
          have HSEC := Lib.hid hsec
          clear HPE Q1 Q3 Q4 Q5 Q6 K0 HO HB HB2 HLIT HS HU g0 g1 g2 g3 g4 hsec hsecd
          obtain ⟨P2, KP, hP, HPE⟩ := HXP
          have K10 := Lib.hid KP
          have HPE := Lib.hid HPE
          have Q10 := Lib.hid hP
          clear KP hP
          have HX17 : Hid (∀ W, Below wr.drew.heap.size wr.drew W → (W.cell? ⟨w.heap.size, 0, none⟩ = some (.int .i64 p.1) ∧ W.cell? ⟨w.heap.size, 1, none⟩ = some (.int .i64 p.2) ∧ W.cell? ⟨w.heap.size, 2, none⟩ = some (.int .i64 m.1) ∧ W.cell? ⟨w.heap.size, 3, none⟩ = some (.int .i64 m.2) ∧ W.cell? ⟨w.heap.size, 4, none⟩ = some (.int .i64 t)) ∧ Sl e2 2 W (.slice (some ⟨bp, op, none⟩) path.length c) path ∧ Sl e2 2 W u8 sec ∧ Below w.heap.size w W) := fun W hW => HPE.out _ (K10.out _ _ Q10.out (Below.trans (Below.drew (Below.refl _ _)) hW))
          go_wp2_with fail
          refine wp_region_mono 9 [101, 102, 103, 104, 105, 100, 106, 107, 10] [[], [0], [], [2], [1, 3], [4], [5], [5], [6]] [fun v _ => v = .slice (some ⟨bp, op, none⟩) path.length c, fun v w => Sl e2 2 w v path, fun v _ => v = .pointer (some ⟨w.heap.size, 0, none⟩), fun v _ => v = .agg #[.int .i64 p.1, .int .i64 p.2], fun v _ => v = .tuple #[.int .i64 n, .int .i64 0], fun v _ => v = .tuple #[.int .i64 n, .int .i64 0], fun v _ => v = .int .i64 n, fun v _ => v = .int .i64 0, fun v _ => v = .int .i64 n] (by kernel_rfl) (by kernel_rfl) ⟨st_eq _, st_sl _ _ _, st_eq _, st_eq _, st_eq _, st_eq _, st_eq _, st_eq _, st_eq _, trivial⟩ ?_ ?_
          · simp only [List.take_succ_cons, List.take_zero, steps, and_true]
            refine ⟨?_, ?_, ?_, ?_, ?_, ?_, ?_, ?_, ?_⟩
            · intro x W hB _; simp only [putX, setX, List.foldl_cons, List.foldl_nil]; refine ⟨?_⟩; go_simp; exact ⟨rfl, Below.refl _ _⟩
            · intro x W hB hN; simp only [needs, sAt, dAt] at hN; simp only [putX, setX, List.foldl_cons, List.foldl_nil]; refine ⟨?_⟩; go_simp; refine (CopyPath_any _ path _ (HX17.out W hB).2.1 (by omega)).mono ?_; rintro e w' ⟨r, rfl, o, b⟩; exact ⟨_, rfl, o.sl e2_len, b⟩
            · intro x W hB _; simp only [putX, setX, List.foldl_cons, List.foldl_nil]; refine ⟨?_⟩; go_simp; exact ⟨rfl, Below.refl _ _⟩
            · intro x W hB hN; simp only [needs, sAt, dAt] at hN; simp only [putX, setX, List.foldl_cons, List.foldl_nil]; obtain ⟨⟨d0, d1, _⟩, _⟩ := HX17.out W hB; refine ⟨?_⟩; go_simp; exact ⟨rfl, Below.refl _ _⟩
            · intro x W hB hN; simp only [needs, sAt, dAt] at hN; simp only [putX, setX, List.foldl_cons, List.foldl_nil]; refine ⟨?_⟩; go_simp; refine (HWP.out _ _ hN.1).mono ?_; rintro e w' ⟨rfl, b⟩; exact ⟨_, rfl, rfl, b⟩
            · intro x W hB hN; simp only [needs, sAt, dAt] at hN; simp only [putX, setX, List.foldl_cons, List.foldl_nil]; refine ⟨?_⟩; go_simp; exact ⟨rfl, Below.refl _ _⟩
            · intro x W hB hN; simp only [needs, sAt, dAt] at hN; simp only [putX, setX, List.foldl_cons, List.foldl_nil]; refine ⟨?_⟩; go_simp; exact ⟨rfl, Below.refl _ _⟩
            · intro x W hB hN; simp only [needs, sAt, dAt] at hN; simp only [putX, setX, List.foldl_cons, List.foldl_nil]; refine ⟨?_⟩; go_simp; exact ⟨rfl, Below.refl _ _⟩
            · intro x W hB hN; simp only [needs, sAt, dAt] at hN; simp only [putX, setX, List.foldl_cons, List.foldl_nil]; refine ⟨?_⟩; go_simp; exact ⟨rfl, Below.refl _ _⟩
          · intro x1 W1 hB hA
            simp only [allSp] at hA
            have s1 := hA.2.2.2.2.2.2.2.2.1
            have s2 := hA.2.2.2.2.2.2.2.1
            have Q11 := Lib.hid (K10.out _ _ Q10.out (Below.trans (Below.drew (Below.refl _ _)) hB))
            clear hA hB HX17
            simp only [putX, setX, List.foldl_cons, List.foldl_nil, List.drop_succ_cons, List.drop_zero, s1, s2, List.setIfInBounds_toArray, List.set_cons_succ, List.set_cons_zero]
            clear s1 s2
            have HX18 : Hid (∀ W, Below W1.drew.heap.size W1.drew W → (W.cell? ⟨w.heap.size, 0, none⟩ = some (.int .i64 p.1) ∧ W.cell? ⟨w.heap.size, 1, none⟩ = some (.int .i64 p.2) ∧ W.cell? ⟨w.heap.size, 2, none⟩ = some (.int .i64 m.1) ∧ W.cell? ⟨w.heap.size, 3, none⟩ = some (.int .i64 m.2) ∧ W.cell? ⟨w.heap.size, 4, none⟩ = some (.int .i64 t)) ∧ Sl e2 2 W (.slice (some ⟨bp, op, none⟩) path.length c) path ∧ Sl e2 2 W u8 sec ∧ Below w.heap.size w W) := fun W hW => HPE.out _ (K10.out _ _ Q11.out (Below.trans (Below.drew (Below.refl _ _)) hW))
            go_wp2_with fail
            refine wp_region_mono 9 [109, 110, 111, 112, 113, 108, 114, 115, 12] [[], [0], [], [2], [1, 3], [4], [5], [5], [6]] [fun v _ => v = u8, fun v w => Sl e2 2 w v sec, fun v _ => v = .pointer (some ⟨w.heap.size, 0, none⟩), fun v _ => v = .agg #[.int .i64 p.1, .int .i64 p.2], fun v _ => v = .tuple #[.int .i64 kn, .int .i64 0], fun v _ => v = .tuple #[.int .i64 kn, .int .i64 0], fun v _ => v = .int .i64 kn, fun v _ => v = .int .i64 0, fun v _ => v = .int .i64 kn] (by kernel_rfl) (by kernel_rfl) ⟨st_eq _, st_sl _ _ _, st_eq _, st_eq _, st_eq _, st_eq _, st_eq _, st_eq _, st_eq _, trivial⟩ ?_ ?_
            · simp only [List.take_succ_cons, List.take_zero, steps, and_true]
              refine ⟨?_, ?_, ?_, ?_, ?_, ?_, ?_, ?_, ?_⟩
              · intro x W hB _; simp only [putX, setX, List.foldl_cons, List.foldl_nil]; refine ⟨?_⟩; go_simp; exact ⟨rfl, Below.refl _ _⟩
              · intro x W hB hN; simp only [needs, sAt, dAt] at hN; simp only [putX, setX, List.foldl_cons, List.foldl_nil]; refine ⟨?_⟩; go_simp; refine (CopyPath_any _ sec _ (HX18.out W hB).2.2.1 (by omega)).mono ?_; rintro e w' ⟨r, rfl, o, b⟩; exact ⟨_, rfl, o.sl e2_len, b⟩
              · intro x W hB _; simp only [putX, setX, List.foldl_cons, List.foldl_nil]; refine ⟨?_⟩; go_simp; exact ⟨rfl, Below.refl _ _⟩
              · intro x W hB hN; simp only [needs, sAt, dAt] at hN; simp only [putX, setX, List.foldl_cons, List.foldl_nil]; obtain ⟨⟨d0, d1, _⟩, _⟩ := HX18.out W hB; refine ⟨?_⟩; go_simp; exact ⟨rfl, Below.refl _ _⟩
              · intro x W hB hN; simp only [needs, sAt, dAt] at hN; simp only [putX, setX, List.foldl_cons, List.foldl_nil]; refine ⟨?_⟩; go_simp; refine (HWS.out _ _ hN.1).mono ?_; rintro e w' ⟨rfl, b⟩; exact ⟨_, rfl, rfl, b⟩
              · intro x W hB hN; simp only [needs, sAt, dAt] at hN; simp only [putX, setX, List.foldl_cons, List.foldl_nil]; refine ⟨?_⟩; go_simp; exact ⟨rfl, Below.refl _ _⟩
              · intro x W hB hN; simp only [needs, sAt, dAt] at hN; simp only [putX, setX, List.foldl_cons, List.foldl_nil]; refine ⟨?_⟩; go_simp; exact ⟨rfl, Below.refl _ _⟩
              · intro x W hB hN; simp only [needs, sAt, dAt] at hN; simp only [putX, setX, List.foldl_cons, List.foldl_nil]; refine ⟨?_⟩; go_simp; exact ⟨rfl, Below.refl _ _⟩
              · intro x W hB hN; simp only [needs, sAt, dAt] at hN; simp only [putX, setX, List.foldl_cons, List.foldl_nil]; refine ⟨?_⟩; go_simp; exact ⟨rfl, Below.refl _ _⟩
            · intro x2 W2 hB hA
              simp only [allSp] at hA
              have s1 := hA.2.2.2.2.2.2.2.2.1
              have s2 := hA.2.2.2.2.2.2.2.1
              have Q12 := Lib.hid (K10.out _ _ Q11.out (Below.trans (Below.drew (Below.refl _ _)) hB))
              clear hA hB HX18
              simp only [putX, setX, List.foldl_cons, List.foldl_nil, List.drop_succ_cons, List.drop_zero, s1, s2, List.setIfInBounds_toArray, List.set_cons_succ, List.set_cons_zero]
              clear s1 s2
              obtain ⟨w7, hw7⟩ : ∃ w7, w7 = W2 := ⟨_, rfl⟩
              rw [← hw7] at Q12
              rw [← hw7]
              clear hw7
              have HPB := Lib.hid (fun W (h : Below w7.heap.size w7 W) => HPE.out _ (K10.out _ _ Q12.out h))
              have HRT := Lib.hid (rev_take path)
              have HLT := Lib.hid (later_take path)
              have HMT := Lib.hid (move_take path m)
              rw [← HRV.out] at HRT
              rw [← HLV.out] at HLT
              rw [← HMV.out] at HMT
              have hrl : rv.length = path.length := by rw [HRV.out]; simp
              have hll : lt.length = path.length := by rw [HLV.out]; exact laterP_len _ _
              have hml : mv.length = path.length := by rw [HMV.out]; simp
              clear HWP HWS HRV HLV HMV
              go_wp2_with fail
              go_loopw [14, 15, 16, 17, 18] (fun vr vl vm i _ wr => ∃ k : Nat, k ≤ path.length ∧ i = .int .i64 k ∧ Ow e2 2 61 w7.heap.size wr vr (rv.take k) ∧ Ow e2 2 61 w7.heap.size wr vl (lt.take k) ∧ Ow e2 2 61 w7.heap.size wr vm (mv.take k) ∧ Apart vr vl ∧ Apart vr vm ∧ Apart vl vm ∧ Below w7.heap.size w7 wr) (fun _ _ _ i _ _ => path.length - (intOf i).toNat)
              case atStart => exact ⟨0, Nat.zero_le _, rfl, Ow.nil _ _ _ _ _, Ow.nil _ _ _ _ _, Ow.nil _ _ _ _ _, (fun b h => by cases h), (fun b h => by cases h), (fun b h => by cases h), Below.refl _ _⟩
              case round =>
                obtain ⟨k, hk, rfl, ho1, ho2, ho3, ha1, ha2, ha3, hb⟩ := hrel
                have HO1 := Lib.hid ho1
                have HO2 := Lib.hid ho2
                have HO3 := Lib.hid ho3
                have HA := Lib.hid (And.intro ha1 (And.intro ha2 ha3))
                have HB := Lib.hid hb
                clear ho1 ho2 ho3 ha1 ha2 ha3 hb
                by_cases hlt : k < path.length
                · have t1 := HRT.out k hlt
                  have t2 := HLT.out k hlt
                  have t3 := HMT.out k hlt
                  have hsq := smB_iff.1 (HPS.out k hlt)
                  obtain ⟨_, _, ep, _, c0, c1⟩ := (HPB.out wr HB.out).2.1.at2 (k := k) hlt
                  injection ep with ep
                  injection ep with ep1 ep2
                  subst ep1; subst ep2
                  have hkl : (k : Int) < (path.length : Int) := by omega
                  have hk0 : (0 : Int) ≤ (k : Int) := by omega
                  obtain ⟨jr, hjr⟩ : ∃ jr, jr = path.length - 1 - k := ⟨_, rfl⟩
                  obtain ⟨jl, hjl⟩ : ∃ jl, jl = (k + 1) % path.length := ⟨_, rfl⟩
                  have hjr' : jr < path.length := by omega
                  have hjl' : jl < path.length := by rw [hjl]; exact Nat.mod_lt _ h0
                  obtain ⟨⟨r1, r2⟩, ejr⟩ : ∃ q, path[jr] = q := ⟨_, rfl⟩
                  obtain ⟨⟨l1, l2⟩, ejl⟩ : ∃ q, path[jl] = q := ⟨_, rfl⟩
                  rw [show rv.take (k + 1) = rv.take k ++ [(r1, r2)] by rw [t1, ← ejr]; simp only [hjr]] at t1
                  have u1 : rv.take (k + 1) = rv.take k ++ [(r1, r2)] := by rw [HRT.out k hlt, ← ejr]; simp only [hjr]
                  have u2 : lt.take (k + 1) = lt.take k ++ [(l1, l2)] := by rw [t2, ← ejl]; simp only [hjl]
                  have hw1 : IntKind.i64.wrap ((path.length : Int) - 1) = (path.length : Int) - 1 := IntWalk.i64_in _ (by omega)
                  have hw2 : IntKind.i64.wrap ((path.length : Int) - 1 - (k : Int)) = (jr : Int) := by rw [show (path.length : Int) - 1 - (k : Int) = (jr : Int) by omega]; exact IntWalk.i64_in _ (by omega)
                  have hw3 : IntKind.i64.wrap ((k : Int) + 1) = (k : Int) + 1 := IntWalk.i64_in _ (by omega)
                  have hrem : ((k : Int) + 1).tmod (path.length : Int) = (jl : Int) := by
                    rw [Int.tmod_eq_emod_of_nonneg (by omega), hjl, Int.natCast_emod, Int.natCast_add]; rfl
                  have hremw : IntKind.i64.wrap (jl : Int) = (jl : Int) := IntWalk.i64_in _ (by omega)
                  have hpe : path ≠ [] := by rintro rfl; simp at h0
                  have hbr : (jr : Int) < (path.length : Int) := by omega
                  have hbl : (jl : Int) < (path.length : Int) := by omega
                  have hbr0 : (0 : Int) ≤ (jr : Int) := by omega
                  have hbl0 : (0 : Int) ≤ (jl : Int) := by omega
                  have hll1 : (rv.take k).length ≤ 1000 := Nat.le_trans (List.length_take_le _ _) (by omega)
                  have hll2 : (lt.take k).length ≤ 1000 := Nat.le_trans (List.length_take_le _ _) (by omega)
                  have hll3 : (mv.take k).length ≤ 1000 := Nat.le_trans (List.length_take_le _ _) (by omega)
                  obtain ⟨qk, eqk⟩ : ∃ q, path[k] = q := ⟨_, rfl⟩
                  rw [eqk] at t3 hsq c0 c1
                  obtain ⟨q1, q2⟩ := qk
                  have HTK := Lib.hid (And.intro u1 (And.intro u2 t3))
                  have HSQ := Lib.hid hsq
                  clear t1 t2 t3 u1 u2 hsq eqk hjr hjl
                  simp only at c0 c1
                  go_wp2_with fail
                  obtain ⟨G, hG⟩ : ∃ G, G = (wr.alloc (.cells #[.int .i64 q1, .int .i64 q2] 61)).heap.size := ⟨_, rfl⟩
                  have hG' : G = wr.heap.size + 1 := by rw [hG]; simp
                  have hbG : w7.heap.size ≤ G := by have := HB.out.size; omega
                  have HV14 : Hid (∀ b, u14.ownBlock = some b → b < G) := fun b hb => by have := (World.ownsRow.lt HO1.out b hb).2; omega
                  have HV15 : Hid (∀ b, u15.ownBlock = some b → b < G) := fun b hb => by have := (World.ownsRow.lt HO2.out b hb).2; omega
                  have HI0 : Hid (Rows3 w7 w7.heap.size G u14 u15 u16 (.slice (some ⟨wr.heap.size, 0, none⟩) 1 1) (rv.take k) (lt.take k) (mv.take k) (r1, r2) (l1, l2) (q1, q2) none none (wr.alloc (.cells #[.int .i64 q1, .int .i64 q2] 61)).drew) := by
                    have hlit : Ow e2 2 61 w7.heap.size (wr.alloc (.cells #[.int .i64 q1, .int .i64 q2] 61)) (.slice (some ⟨wr.heap.size, 0, none⟩) 1 1) [(q1, q2)] := Ow.lit wr #[.int .i64 q1, .int .i64 q2] [(q1, q2)] HB.out.size (by simp) rfl rfl
                    have hap : ∀ (v : Value) (xs : List Pt), Ow e2 2 61 w7.heap.size wr v xs → Apart v (.slice (some ⟨wr.heap.size, 0, none⟩) 1 1) := fun v xs h b hb he => by
                      have := (World.ownsRow.lt h b hb).2
                      simp [Value.ownBlock] at he
                      omega
                    exact ⟨(below_al HB.out _).drew, Nat.le_of_eq hG, by simpa using (HO1.out.alloc _).drew, by simpa using (HO2.out.alloc _).drew, (HO3.out.alloc _).drew, hlit.drew, HA.out.1, HA.out.2.1, hap _ _ HO1.out, HA.out.2.2, hap _ _ HO2.out, hap _ _ HO3.out⟩
                  clear hG hG' c0 c1
                  refine wp_region_rows 23 10 21 22 10 [0] [146, 147, 148, 149, 150, 151, 152, 153, 154, 155, 156, 157, 158, 159, 160, 161, 162, 163, 164, 165, 166, 167, 14] [[], [], [], [2], [3], [], [4, 5], [1, 6], [7], [8], [0, 9], [], [], [], [13], [], [15], [14, 16], [12, 17], [18], [19], [11, 20], [10]] [.any, .any, .any, .any, .any, .any, .any, .any, .any, .any, .one, .any, .any, .any, .any, .any, .any, .any, .any, .any, .any, .two, .any] [fun v _ => v = u14, fun v _ => v = .slice (some ⟨bp, op, none⟩) path.length c, fun v _ => v = .slice (some ⟨bp, op, none⟩) path.length c, fun v _ => v = .int .i64 path.length, fun v _ => v = .int .i64 ((path.length : Int) - 1), fun v _ => v = .int .i64 k, fun v _ => v = .int .i64 jr, fun v _ => v = .pointer (some ⟨bp, op + jr * 2, none⟩), fun v _ => v = .agg #[.int .i64 r1, .int .i64 r2], LitAt G (r1, r2), fun _ _ => True, fun v _ => v = u15, fun v _ => v = .slice (some ⟨bp, op, none⟩) path.length c, fun v _ => v = .int .i64 k, fun v _ => v = .int .i64 ((k : Int) + 1), fun v _ => v = .slice (some ⟨bp, op, none⟩) path.length c, fun v _ => v = .int .i64 path.length, fun v _ => v = .int .i64 jl, fun v _ => v = .pointer (some ⟨bp, op + jl * 2, none⟩), fun v _ => v = .agg #[.int .i64 l1, .int .i64 l2], LitAt G (l1, l2), fun _ _ => True, (fun _ _ => True)] (fun S T W => Rows3 w7 w7.heap.size G u14 u15 u16 (.slice (some ⟨wr.heap.size, 0, none⟩) 1 1) (rv.take k) (lt.take k) (mv.take k) (r1, r2) (l1, l2) (q1, q2) S T W) (relR G) (by kernel_rfl) (by kernel_rfl) ⟨st_eq _, st_eq _, st_eq _, st_eq _, st_eq _, st_eq _, st_eq _, st_eq _, st_eq _, LitAt.stab _ _, (fun _ _ _ h _ => h), st_eq _, st_eq _, st_eq _, st_eq _, st_eq _, st_eq _, st_eq _, st_eq _, st_eq _, LitAt.stab _ _, (fun _ _ _ h _ => h), (fun _ _ _ h _ => h), trivial⟩ ⟨(fun _ _ _ h _ => h), (fun _ _ _ h _ => h), (fun _ _ _ h _ => h), (fun _ _ _ h _ => h), (fun _ _ _ h _ => h), (fun _ _ _ h _ => h), (fun _ _ _ h _ => h), (fun _ _ _ h _ => h), (fun _ _ _ h _ => h), LitAt.stabR _ _, (fun _ _ _ h _ => h), (fun _ _ _ h _ => h), (fun _ _ _ h _ => h), (fun _ _ _ h _ => h), (fun _ _ _ h _ => h), (fun _ _ _ h _ => h), (fun _ _ _ h _ => h), (fun _ _ _ h _ => h), (fun _ _ _ h _ => h), (fun _ _ _ h _ => h), LitAt.stabR _ _, (fun _ _ _ h _ => h), (fun _ _ _ h _ => h), trivial⟩ ?_ ?_ ?_ ?_
                  · exact fun S T W W' h hb => Rows3.keep h hb
                  · refine stepsR_gen (fun a' => a'.tmps.size = 322 ∧ a'.tmps[0]? = some (.slice (some ⟨bp, op, none⟩) path.length c) ∧ a'.tmps[14]? = some (u14) ∧ a'.tmps[15]? = some (u15) ∧ a'.tmps[17]? = some (.int .i64 k)) ⟨rfl, rfl, rfl, rfl, rfl⟩ ?_
                    rintro a' ⟨hsz, r0, r14, r15, r17⟩
                    simp only [List.take_succ_cons, List.take_zero, stepsR, stepR, and_true]
                    refine ⟨?_, ?_, ?_, ?_, ?_, ?_, ?_, ?_, ?_, ?_, ?_, ?_, ?_, ?_, ?_, ?_, ?_, ?_, ?_, ?_, ?_, ?_, ?_⟩
                    · intro x W S T hI hS hT hU _; have p14 := tmp_in (x := x) hsz (d := 14) (dst := [146, 147, 148, 149, 150, 151, 152, 153, 154, 155, 156, 157, 158, 159, 160, 161, 162, 163, 164, 165, 166, 167, 14]) (by decide) (by decide); have h14 : x 14 = u14 := (hU (by decide)).trans (by simp [dAt, r14]); refine ⟨?_⟩; go_simp; exact ⟨rfl, Below.refl _ _⟩
                    · intro x W S T hI hS hT hU _; have p0 := tmp_out (x := x) (dst := [146, 147, 148, 149, 150, 151, 152, 153, 154, 155, 156, 157, 158, 159, 160, 161, 162, 163, 164, 165, 166, 167, 14]) r0 (by decide); refine ⟨?_⟩; go_simp; exact ⟨rfl, Below.refl _ _⟩
                    · intro x W S T hI hS hT hU _; have p0 := tmp_out (x := x) (dst := [146, 147, 148, 149, 150, 151, 152, 153, 154, 155, 156, 157, 158, 159, 160, 161, 162, 163, 164, 165, 166, 167, 14]) r0 (by decide); refine ⟨?_⟩; go_simp; exact ⟨rfl, Below.refl _ _⟩
                    · intro x W S T hI hS hT hU hN; simp only [needs, sAt, dAt] at hN; have p148 := tmp_in (x := x) hsz (d := 148) (dst := [146, 147, 148, 149, 150, 151, 152, 153, 154, 155, 156, 157, 158, 159, 160, 161, 162, 163, 164, 165, 166, 167, 14]) (by decide) (by decide); refine ⟨?_⟩; go_simp; exact ⟨rfl, Below.refl _ _⟩
                    · intro x W S T hI hS hT hU hN; simp only [needs, sAt, dAt] at hN; have p149 := tmp_in (x := x) hsz (d := 149) (dst := [146, 147, 148, 149, 150, 151, 152, 153, 154, 155, 156, 157, 158, 159, 160, 161, 162, 163, 164, 165, 166, 167, 14]) (by decide) (by decide); refine ⟨?_⟩; go_simp; exact ⟨rfl, Below.refl _ _⟩
                    · intro x W S T hI hS hT hU _; have p17 := tmp_out (x := x) (dst := [146, 147, 148, 149, 150, 151, 152, 153, 154, 155, 156, 157, 158, 159, 160, 161, 162, 163, 164, 165, 166, 167, 14]) r17 (by decide); refine ⟨?_⟩; go_simp; exact ⟨rfl, Below.refl _ _⟩
                    · intro x W S T hI hS hT hU hN; simp only [needs, sAt, dAt] at hN; have p150 := tmp_in (x := x) hsz (d := 150) (dst := [146, 147, 148, 149, 150, 151, 152, 153, 154, 155, 156, 157, 158, 159, 160, 161, 162, 163, 164, 165, 166, 167, 14]) (by decide) (by decide); have p151 := tmp_in (x := x) hsz (d := 151) (dst := [146, 147, 148, 149, 150, 151, 152, 153, 154, 155, 156, 157, 158, 159, 160, 161, 162, 163, 164, 165, 166, 167, 14]) (by decide) (by decide); refine ⟨?_⟩; go_simp; exact ⟨rfl, Below.refl _ _⟩
                    · intro x W S T hI hS hT hU hN; simp only [needs, sAt, dAt] at hN; have p147 := tmp_in (x := x) hsz (d := 147) (dst := [146, 147, 148, 149, 150, 151, 152, 153, 154, 155, 156, 157, 158, 159, 160, 161, 162, 163, 164, 165, 166, 167, 14]) (by decide) (by decide); have p152 := tmp_in (x := x) hsz (d := 152) (dst := [146, 147, 148, 149, 150, 151, 152, 153, 154, 155, 156, 157, 158, 159, 160, 161, 162, 163, 164, 165, 166, 167, 14]) (by decide) (by decide); refine ⟨?_⟩; go_simp; exact ⟨rfl, Below.refl _ _⟩
                    · intro x W S T hI hS hT hU hN; simp only [needs, sAt, dAt] at hN; have p153 := tmp_in (x := x) hsz (d := 153) (dst := [146, 147, 148, 149, 150, 151, 152, 153, 154, 155, 156, 157, 158, 159, 160, 161, 162, 163, 164, 165, 166, 167, 14]) (by decide) (by decide); obtain ⟨_, _, ep, _, c0, c1⟩ := (HPB.out W hI.below).2.1.at2 (k := jr) hjr'; injection ep with ep; injection ep with ep1 ep2; subst ep1; subst ep2; rw [ejr] at c0 c1; simp only at c0 c1; refine ⟨?_⟩; go_simp; exact ⟨rfl, Below.refl _ _⟩
                    · intro x W S T hI hS hT hU hN; simp only [needs, sAt, dAt] at hN; have p154 := tmp_in (x := x) hsz (d := 154) (dst := [146, 147, 148, 149, 150, 151, 152, 153, 154, 155, 156, 157, 158, 159, 160, 161, 162, 163, 164, 165, 166, 167, 14]) (by decide) (by decide); refine ⟨?_⟩; go_simp; exact ⟨LitAt.new W (r1, r2) _ hI.size, below_alloc1 _ _⟩
                    · intro x W T hI hT hU hN; simp only [needs, sAt, dAt] at hN; have p146 := tmp_in (x := x) hsz (d := 146) (dst := [146, 147, 148, 149, 150, 151, 152, 153, 154, 155, 156, 157, 158, 159, 160, 161, 162, 163, 164, 165, 166, 167, 14]) (by decide) (by decide); have p155 := tmp_in (x := x) hsz (d := 155) (dst := [146, 147, 148, 149, 150, 151, 152, 153, 154, 155, 156, 157, 158, 159, 160, 161, 162, 163, 164, 165, 166, 167, 14]) (by decide) (by decide); obtain ⟨v9, W9, z1, z2, z3⟩ := Rows3.one i0 hi hz0 hz1 hz2 107 hI hN.2.1 hll1 (Nat.le_refl _) hbG HV14.out; exact mono_ap rfl (by go_simp) (by go_simp) z1 ⟨trivial, z2, z3⟩
                    · intro x W S T hI hS hT hU _; have p15 := tmp_out (x := x) (dst := [146, 147, 148, 149, 150, 151, 152, 153, 154, 155, 156, 157, 158, 159, 160, 161, 162, 163, 164, 165, 166, 167, 14]) r15 (by decide); refine ⟨?_⟩; go_simp; exact ⟨rfl, Below.refl _ _⟩
                    · intro x W S T hI hS hT hU _; have p0 := tmp_out (x := x) (dst := [146, 147, 148, 149, 150, 151, 152, 153, 154, 155, 156, 157, 158, 159, 160, 161, 162, 163, 164, 165, 166, 167, 14]) r0 (by decide); refine ⟨?_⟩; go_simp; exact ⟨rfl, Below.refl _ _⟩
                    · intro x W S T hI hS hT hU _; have p17 := tmp_out (x := x) (dst := [146, 147, 148, 149, 150, 151, 152, 153, 154, 155, 156, 157, 158, 159, 160, 161, 162, 163, 164, 165, 166, 167, 14]) r17 (by decide); refine ⟨?_⟩; go_simp; exact ⟨rfl, Below.refl _ _⟩
                    · intro x W S T hI hS hT hU hN; simp only [needs, sAt, dAt] at hN; have p159 := tmp_in (x := x) hsz (d := 159) (dst := [146, 147, 148, 149, 150, 151, 152, 153, 154, 155, 156, 157, 158, 159, 160, 161, 162, 163, 164, 165, 166, 167, 14]) (by decide) (by decide); refine ⟨?_⟩; go_simp; exact ⟨rfl, Below.refl _ _⟩
                    · intro x W S T hI hS hT hU _; have p0 := tmp_out (x := x) (dst := [146, 147, 148, 149, 150, 151, 152, 153, 154, 155, 156, 157, 158, 159, 160, 161, 162, 163, 164, 165, 166, 167, 14]) r0 (by decide); refine ⟨?_⟩; go_simp; exact ⟨rfl, Below.refl _ _⟩
                    · intro x W S T hI hS hT hU hN; simp only [needs, sAt, dAt] at hN; have p161 := tmp_in (x := x) hsz (d := 161) (dst := [146, 147, 148, 149, 150, 151, 152, 153, 154, 155, 156, 157, 158, 159, 160, 161, 162, 163, 164, 165, 166, 167, 14]) (by decide) (by decide); refine ⟨?_⟩; go_simp; exact ⟨rfl, Below.refl _ _⟩
                    · intro x W S T hI hS hT hU hN; simp only [needs, sAt, dAt] at hN; have p160 := tmp_in (x := x) hsz (d := 160) (dst := [146, 147, 148, 149, 150, 151, 152, 153, 154, 155, 156, 157, 158, 159, 160, 161, 162, 163, 164, 165, 166, 167, 14]) (by decide) (by decide); have p162 := tmp_in (x := x) hsz (d := 162) (dst := [146, 147, 148, 149, 150, 151, 152, 153, 154, 155, 156, 157, 158, 159, 160, 161, 162, 163, 164, 165, 166, 167, 14]) (by decide) (by decide); refine ⟨?_⟩; go_simp; exact ⟨rfl, Below.refl _ _⟩
                    · intro x W S T hI hS hT hU hN; simp only [needs, sAt, dAt] at hN; have p158 := tmp_in (x := x) hsz (d := 158) (dst := [146, 147, 148, 149, 150, 151, 152, 153, 154, 155, 156, 157, 158, 159, 160, 161, 162, 163, 164, 165, 166, 167, 14]) (by decide) (by decide); have p163 := tmp_in (x := x) hsz (d := 163) (dst := [146, 147, 148, 149, 150, 151, 152, 153, 154, 155, 156, 157, 158, 159, 160, 161, 162, 163, 164, 165, 166, 167, 14]) (by decide) (by decide); refine ⟨?_⟩; go_simp; exact ⟨rfl, Below.refl _ _⟩
                    · intro x W S T hI hS hT hU hN; simp only [needs, sAt, dAt] at hN; have p164 := tmp_in (x := x) hsz (d := 164) (dst := [146, 147, 148, 149, 150, 151, 152, 153, 154, 155, 156, 157, 158, 159, 160, 161, 162, 163, 164, 165, 166, 167, 14]) (by decide) (by decide); obtain ⟨_, _, ep, _, c0, c1⟩ := (HPB.out W hI.below).2.1.at2 (k := jl) hjl'; injection ep with ep; injection ep with ep1 ep2; subst ep1; subst ep2; rw [ejl] at c0 c1; simp only at c0 c1; refine ⟨?_⟩; go_simp; exact ⟨rfl, Below.refl _ _⟩
                    · intro x W S T hI hS hT hU hN; simp only [needs, sAt, dAt] at hN; have p165 := tmp_in (x := x) hsz (d := 165) (dst := [146, 147, 148, 149, 150, 151, 152, 153, 154, 155, 156, 157, 158, 159, 160, 161, 162, 163, 164, 165, 166, 167, 14]) (by decide) (by decide); refine ⟨?_⟩; go_simp; exact ⟨LitAt.new W (l1, l2) _ hI.size, below_alloc1 _ _⟩
                    · intro x W S hI hS hU hN; simp only [needs, sAt, dAt] at hN; have p157 := tmp_in (x := x) hsz (d := 157) (dst := [146, 147, 148, 149, 150, 151, 152, 153, 154, 155, 156, 157, 158, 159, 160, 161, 162, 163, 164, 165, 166, 167, 14]) (by decide) (by decide); have p166 := tmp_in (x := x) hsz (d := 166) (dst := [146, 147, 148, 149, 150, 151, 152, 153, 154, 155, 156, 157, 158, 159, 160, 161, 162, 163, 164, 165, 166, 167, 14]) (by decide) (by decide); obtain ⟨v9, W9, z1, z2, z3⟩ := Rows3.two i0 hi hz0 hz1 hz2 107 hI hN.2.1 hll2 (Nat.le_refl _) hbG HV15.out; exact mono_ap rfl (by go_simp) (by go_simp) z1 ⟨trivial, z2, z3⟩
                    · intro x W S T hI hS hT hU hN; simp only [needs, sAt, dAt] at hN; have p156 := tmp_in (x := x) hsz (d := 156) (dst := [146, 147, 148, 149, 150, 151, 152, 153, 154, 155, 156, 157, 158, 159, 160, 161, 162, 163, 164, 165, 166, 167, 14]) (by decide) (by decide); refine ⟨?_⟩; go_simp; exact ⟨trivial, Below.refl _ _, rfl⟩
                  · exact HI0.out
                  · intro x W hI hA hc
                    have hc : x 14 = x 156 := hc
                    replace hI : Rows3 w7 w7.heap.size G u14 u15 u16 (.slice (some ⟨wr.heap.size, 0, none⟩) 1 1) (rv.take k) (lt.take k) (mv.take k) (r1, r2) (l1, l2) (q1, q2) (some (x 156)) (some (x 167)) W := hI
                    have HI := Lib.hid hI
                    clear hA hI HI0
                    simp only [putX, setX, List.foldl_cons, List.foldl_nil, List.drop_succ_cons, List.drop_zero, hc, List.setIfInBounds_toArray, List.set_cons_succ, List.set_cons_zero]
                    clear hc
                    obtain ⟨⟨g0, g1, g2, g3, g4⟩, _⟩ := HPB.out W HI.out.below
                    obtain ⟨_, _, ep, _, c0, c1⟩ := (HI.out.p.sl e2_len).at2 (k := 0) (by simp)
                    injection ep with ep
                    injection ep with ep1 ep2
                    subst ep1; subst ep2
                    simp only [Nat.zero_mul, Nat.add_zero, List.getElem_cons_zero] at c0 c1
                    obtain ⟨⟨y1, y2⟩, y3, y4⟩ := HSQ.out
                    obtain ⟨⟨z1, z2⟩, z3, z4⟩ := HM4.out
                    try simp only at y1 y2 y3 y4
                    have hwa : IntKind.i64.wrap (q1 + m.1) = q1 + m.1 := IntWalk.i64_in _ (by omega)
                    have hwb : IntKind.i64.wrap (q2 + m.2) = q2 + m.2 := IntWalk.i64_in _ (by omega)
                    have hzs := HI.out.size
                    go_wp2_with (at_builtin; refine wpList_append_at _ rfl _ _ 107 rfl w7.heap.size 61 i0 _ 2 16 Try.underlying107 hi hz0 hz1 hz2 rfl (by decide) _ _ _ rfl (HI.out.c.own.alloc _) ⟨_, 0, none⟩ 1 1 (e2 (q1 + m.1, q2 + m.2)) rfl rfl (cells_new _ _ _) (e2_one _) (by simp only [maxLen]; omega) (by omega) (by simp; omega) ?_; intro v1 wa hown1 hg hblk; have HO3' := Lib.hid (Ow.snoc hown1); have HG := Lib.hid hg; have HBK := Lib.hid hblk; clear hown1 hg hblk c0 c1 g0 g1 g2 g3 g4)
                    go_roundw
                    case rel =>
                      have lit : Obj := .cells #[.int .i64 (q1 + m.1), .int .i64 (q2 + m.2)] 61
                      have k1 := HI.out.a.alloc (.cells #[.int .i64 (q1 + m.1), .int .i64 (q2 + m.2)] 61)
                      have k2 := HI.out.b.alloc (.cells #[.int .i64 (q1 + m.1), .int .i64 (q2 + m.2)] 61)
                      have k3 := HI.out.c.alloc (.cells #[.int .i64 (q1 + m.1), .int .i64 (q2 + m.2)] 61)
                      exact ⟨k + 1, by omega, by go_num, by rw [HTK.out.1]; exact k1.beside HI.out.ac HG.out, by rw [HTK.out.2.1]; exact k2.beside HI.out.bc HG.out, by rw [HTK.out.2.2]; exact HO3'.out, HI.out.ab, (Apart.grown HI.out.ac.symm k1 (Nat.le_refl _) HBK.out).symm, (Apart.grown HI.out.bc.symm k2 (Nat.le_refl _) HBK.out).symm, k3.grown HG.out (below_al HI.out.below _) (Nat.le_refl _)⟩
                    case measure => simp [intOf]; omega
                · obtain rfl : k = path.length := by omega
                  rw [show rv.take path.length = rv from List.take_of_length_le (by omega)] at HO1
                  rw [show lt.take path.length = lt from List.take_of_length_le (by omega)] at HO2
                  rw [show mv.take path.length = mv from List.take_of_length_le (by omega)] at HO3
                  have HXP : ∃ P : World → Prop, Keeps P ∧ P wr ∧ ∀ W, P W → (W.cell? ⟨w.heap.size, 0, none⟩ = some (.int .i64 p.1) ∧ W.cell? ⟨w.heap.size, 1, none⟩ = some (.int .i64 p.2) ∧ W.cell? ⟨w.heap.size, 2, none⟩ = some (.int .i64 m.1) ∧ W.cell? ⟨w.heap.size, 3, none⟩ = some (.int .i64 m.2) ∧ W.cell? ⟨w.heap.size, 4, none⟩ = some (.int .i64 t)) ∧ Sl e2 2 W (.slice (some ⟨bp, op, none⟩) path.length c) path ∧ Sl e2 2 W u8 sec ∧ (Sl e2 2 W u14 rv ∧ Sl e2 2 W u15 lt ∧ Sl e2 2 W u16 mv) ∧ Below w.heap.size w W := ⟨_, ((keeps_cell _ _).and ((keeps_cell _ _).and ((keeps_cell _ _).and ((keeps_cell _ _).and (keeps_cell _ _))))).and ((keeps_sl _ _ _ _).and ((keeps_sl _ _ _ _).and (((keeps_sl _ _ _ _).and ((keeps_sl _ _ _ _).and (keeps_sl _ _ _ _))).and (keeps_below _)))), ⟨(HPB.out wr HB.out).1, (HPB.out wr HB.out).2.1, (HPB.out wr HB.out).2.2.1, ⟨HO1.out.sl e2_len, HO2.out.sl e2_len, HO3.out.sl e2_len⟩, (HPB.out wr HB.out).2.2.2⟩, fun _ h => h⟩
                  have HWA : Hid (∀ v w, Sl e2 2 w v rv → Calls Try.prog 73 #[v, .agg #[.int .i64 p.1, .int .i64 p.2]] w fun e w' => e = .returned (.tuple #[.int .i64 (-n), .int .i64 0]) ∧ Below w.heap.size w w') := fun v w h => by
                    have := WindingOf_any v rv p w h (by omega)
                    rwa [HW1.out] at this
                  have HWB : Hid (∀ v w, Sl e2 2 w v lt → Calls Try.prog 73 #[v, .agg #[.int .i64 p.1, .int .i64 p.2]] w fun e w' => e = .returned (.tuple #[.int .i64 n, .int .i64 0]) ∧ Below w.heap.size w w') := fun v w h => by
                    have := WindingOf_any v lt p w h (by omega)
                    rwa [HW2.out] at this
                  have HWC : Hid (∀ v w, Sl e2 2 w v mv → Calls Try.prog 73 #[v, .agg #[.int .i64 (mvP m p).1, .int .i64 (mvP m p).2]] w fun e w' => e = .returned (.tuple #[.int .i64 n, .int .i64 0]) ∧ Below w.heap.size w w') := fun v w h => by
                    have := WindingOf_any v mv (mvP m p) w h (by omega)
                    rwa [HW3.out] at this
                  have HWJ : Hid (∀ v w, Sl e2 2 w v (path ++ sec) → Calls Try.prog 73 #[v, .agg #[.int .i64 p.1, .int .i64 p.2]] w fun e w' => e = .returned (.tuple #[.int .i64 (n + kn), .int .i64 0]) ∧ Below w.heap.size w w') := fun v w h => by
                    have := WindingOf_any v (path ++ sec) p w h (by rw [List.length_append]; omega)
                    rwa [HSEC.out, HW4.out (a1, a2) (by rw [List.getElem?_eq_getElem h0, h0e])] at this
                  clear HPE HPB Q10 Q11 Q12 K10 HO1 HO2 HO3 HA HB HRT HLT HMT HW1 HW2 HW3 HW4
                  obtain ⟨P3, KP, hP, HPE⟩ := HXP
                  have K30 := Lib.hid KP
                  have HPE := Lib.hid HPE
                  have Q30 := Lib.hid hP
                  clear KP hP
                  obtain ⟨⟨x1, x2⟩, x3, x4⟩ := HP4.out
                  obtain ⟨⟨z1, z2⟩, z3, z4⟩ := HM4.out
                  have hwa : IntKind.i64.wrap (p.1 + m.1) = p.1 + m.1 := IntWalk.i64_in _ (by omega)
                  have hwb : IntKind.i64.wrap (p.2 + m.2) = p.2 + m.2 := IntWalk.i64_in _ (by omega)
                  clear x1 x2 x3 x4 z1 z2 z3 z4
                  obtain ⟨g0, g1, g2, g3, g4⟩ := (HPE.out _ Q30.out).1
                  have V1 : Hid True := trivial
                  have V2 : Hid True := trivial
                  go_wp2_with (first
                    | (go_at_call 73; clear V1; refine (HWA.out _ _ (HPE.out _ Q30.out).2.2.2.1.1).mono ?_; rintro e w31 ⟨rfl, b31⟩; have Q31 := Lib.hid (K30.out _ _ Q30.out b31); clear b31 g0 g1 g2 g3 g4; obtain ⟨g0, g1, g2, g3, g4⟩ := (HPE.out _ Q31.out).1)
                    | (go_at_call 73; clear V2; refine (HWB.out _ _ (HPE.out _ Q31.out).2.2.2.1.2.1).mono ?_; rintro e w32 ⟨rfl, b32⟩; have Q32 := Lib.hid (K30.out _ _ Q31.out b32); clear b32 g0 g1 g2 g3 g4; obtain ⟨g0, g1, g2, g3, g4⟩ := (HPE.out _ Q32.out).1)
                    | (go_at_call 73; refine (HWC.out _ _ (HPE.out _ Q32.out).2.2.2.1.2.2).mono ?_; rintro e w33 ⟨rfl, b33⟩; have Q33 := Lib.hid (K30.out _ _ Q32.out b33); clear b33 g0 g1 g2 g3 g4; obtain ⟨g0, g1, g2, g3, g4⟩ := (HPE.out _ Q33.out).1))
                  obtain ⟨wD, hwD⟩ : ∃ wD, wD = w33 := ⟨_, rfl⟩
                  rw [← hwD] at Q33
                  rw [← hwD]
                  clear hwD g0 g1 g2 g3 g4
                  obtain ⟨A8, c8, rfl, _⟩ := (HPE.out _ Q33.out).2.2.1.form
                  have HPD := Lib.hid (fun W (h : Below wD.heap.size wD W) => HPE.out _ (K30.out _ _ Q33.out h))
                  refine wp_region_rows 11 1 3 7 6 [] [219, 220, 221, 222, 223, 224, 225, 218, 226, 227, 25] [[], [0], [], [1, 2], [], [4], [3, 5], [6], [7], [7], [8]] [.any, .one, .any, .two, .any, .any, .any, .any, .any, .any, .any] [fun v _ => v = .slice (some ⟨bp, op, none⟩) path.length c, fun _ _ => True, fun v _ => v = .slice A8 sec.length c8, fun _ _ => True, fun v _ => v = .pointer (some ⟨w.heap.size, 0, none⟩), fun v _ => v = .agg #[.int .i64 p.1, .int .i64 p.2], fun v _ => v = .tuple #[.int .i64 (n + kn), .int .i64 0], fun v _ => v = .tuple #[.int .i64 (n + kn), .int .i64 0], fun v _ => v = .int .i64 (n + kn), fun v _ => v = .int .i64 0, fun v _ => v = .int .i64 (n + kn)] (Joined wD wD.heap.size path sec) (fun _ _ => True) (by kernel_rfl) (by kernel_rfl) ⟨st_eq _, (fun _ _ _ h _ => h), st_eq _, (fun _ _ _ h _ => h), st_eq _, st_eq _, st_eq _, st_eq _, st_eq _, st_eq _, st_eq _, trivial⟩ ⟨(fun _ _ _ h _ => h), (fun _ _ _ h _ => h), (fun _ _ _ h _ => h), (fun _ _ _ h _ => h), (fun _ _ _ h _ => h), (fun _ _ _ h _ => h), (fun _ _ _ h _ => h), (fun _ _ _ h _ => h), (fun _ _ _ h _ => h), (fun _ _ _ h _ => h), (fun _ _ _ h _ => h), trivial⟩ ?_ ?_ ?_ ?_
                  · exact fun S T W W' h hb => Joined.keep h hb
                  · refine stepsR_gen (fun a' => a'.tmps.size = 322 ∧ a'.tmps[0]? = some (.slice (some ⟨bp, op, none⟩) path.length c) ∧ a'.tmps[8]? = some (.slice A8 sec.length c8) ∧ a'.tmps[5]? = some (.pointer (some ⟨w.heap.size, 0, none⟩))) ⟨rfl, rfl, rfl, rfl⟩ ?_
                    rintro a' ⟨hsz, r0, r8, r5⟩
                    simp only [List.take_succ_cons, List.take_zero, stepsR, stepR, and_true]
                    refine ⟨?_, ?_, ?_, ?_, ?_, ?_, ?_, ?_, ?_, ?_, ?_⟩
                    · intro x W S T hI hS hT hU _; have p0 := tmp_out (x := x) (dst := [219, 220, 221, 222, 223, 224, 225, 218, 226, 227, 25]) r0 (by decide); refine ⟨?_⟩; go_simp; exact ⟨rfl, Below.refl _ _⟩
                    · intro x W T hI hT hU hN; simp only [needs, sAt, dAt] at hN; have p219 := tmp_in (x := x) hsz (d := 219) (dst := [219, 220, 221, 222, 223, 224, 225, 218, 226, 227, 25]) (by decide) (by decide); refine ⟨?_⟩; go_simp; refine (CopyPath_any _ path _ (HPD.out W hI.1).2.1 (by omega)).mono ?_; rintro e w' ⟨r, rfl, o, b⟩; have hj := Joined.keep hI b; refine ⟨_, rfl, trivial, hj.1, hj.2.1, ?_⟩; cases T with | none => exact (fun v hv => by injection hv with hv; subst hv; exact o.less hI.2.1) | some v => exact hj.2.2
                    · intro x W S T hI hS hT hU _; have p8 := tmp_out (x := x) (dst := [219, 220, 221, 222, 223, 224, 225, 218, 226, 227, 25]) r8 (by decide); refine ⟨?_⟩; go_simp; exact ⟨rfl, Below.refl _ _⟩
                    · intro x W S hI hS hU hN; simp only [needs, sAt, dAt] at hN; have p220 := tmp_in (x := x) hsz (d := 220) (dst := [219, 220, 221, 222, 223, 224, 225, 218, 226, 227, 25]) (by decide) (by decide); have p221 := tmp_in (x := x) hsz (d := 221) (dst := [219, 220, 221, 222, 223, 224, 225, 218, 226, 227, 25]) (by decide) (by decide); obtain rfl := hS.2 (by simp); have ho := hI.2.2 _ rfl; simp only [dAt] at ho; obtain ⟨v9, W9, z1, z2, z3⟩ := run_append_sl (P := Try.prog) W wD.heap.size 107 107 61 i0 _ 2 16 Try.underlying107 hi hz0 hz1 hz2 rfl (by decide) e2_len e2_one _ path ho _ _ _ sec (HPD.out W hI.1).2.2.1 (by omega) (by decide) hI.2.1; exact mono_ap rfl (by go_simp) (by go_simp) z1 ⟨trivial, trivial, Ow.grown ho z3 hI.1 (Nat.le_refl _), Nat.le_trans hI.2.1 z3.size, z2⟩
                    · intro x W S T hI hS hT hU _; have p5 := tmp_out (x := x) (dst := [219, 220, 221, 222, 223, 224, 225, 218, 226, 227, 25]) r5 (by decide); refine ⟨?_⟩; go_simp; exact ⟨rfl, Below.refl _ _⟩
                    · intro x W S T hI hS hT hU hN; simp only [needs, sAt, dAt] at hN; have p223 := tmp_in (x := x) hsz (d := 223) (dst := [219, 220, 221, 222, 223, 224, 225, 218, 226, 227, 25]) (by decide) (by decide); obtain ⟨⟨d0, d1, _⟩, _⟩ := HPD.out W hI.1; refine ⟨?_⟩; go_simp; exact ⟨rfl, Below.refl _ _⟩
                    · intro x W S T hI hS hT hU hN; simp only [needs, sAt, dAt] at hN; have p222 := tmp_in (x := x) hsz (d := 222) (dst := [219, 220, 221, 222, 223, 224, 225, 218, 226, 227, 25]) (by decide) (by decide); have p224 := tmp_in (x := x) hsz (d := 224) (dst := [219, 220, 221, 222, 223, 224, 225, 218, 226, 227, 25]) (by decide) (by decide); obtain rfl := hT.2 (by simp); refine ⟨?_⟩; go_simp; refine (HWJ.out _ _ (Ow.sl hI.2.2 e2_len)).mono ?_; rintro e w' ⟨rfl, b⟩; exact ⟨_, rfl, rfl, b⟩
                    · intro x W S T hI hS hT hU hN; simp only [needs, sAt, dAt] at hN; have p225 := tmp_in (x := x) hsz (d := 225) (dst := [219, 220, 221, 222, 223, 224, 225, 218, 226, 227, 25]) (by decide) (by decide); refine ⟨?_⟩; go_simp; exact ⟨rfl, Below.refl _ _, hN.1.symm⟩
                    · intro x W S T hI hS hT hU hN; simp only [needs, sAt, dAt] at hN; have p218 := tmp_in (x := x) hsz (d := 218) (dst := [219, 220, 221, 222, 223, 224, 225, 218, 226, 227, 25]) (by decide) (by decide); refine ⟨?_⟩; go_simp; exact ⟨rfl, Below.refl _ _⟩
                    · intro x W S T hI hS hT hU hN; simp only [needs, sAt, dAt] at hN; have p218 := tmp_in (x := x) hsz (d := 218) (dst := [219, 220, 221, 222, 223, 224, 225, 218, 226, 227, 25]) (by decide) (by decide); refine ⟨?_⟩; go_simp; exact ⟨rfl, Below.refl _ _⟩
                    · intro x W S T hI hS hT hU hN; simp only [needs, sAt, dAt] at hN; have p226 := tmp_in (x := x) hsz (d := 226) (dst := [219, 220, 221, 222, 223, 224, 225, 218, 226, 227, 25]) (by decide) (by decide); refine ⟨?_⟩; go_simp; exact ⟨rfl, Below.refl _ _⟩
                  · exact ⟨(Below.refl _ _).drew, Nat.le_refl _, fun v h => by cases h⟩
                  · intro x3 W3 hI hA _
                    simp only [allSp] at hA
                    have s1 := hA.2.2.2.2.2.2.2.2.2.2.1
                    have s2 := hA.2.2.2.2.2.2.2.2.2.1
                    have Q36 := Lib.hid (K30.out _ _ Q33.out hI.1)
                    clear hA hI HPD
                    simp only [putX, setX, List.foldl_cons, List.foldl_nil, List.drop_succ_cons, List.drop_zero, s1, s2, List.setIfInBounds_toArray, List.set_cons_succ, List.set_cons_zero]
                    clear s1 s2
                    have hwn : IntKind.i64.wrap (-n) = -n := IntWalk.i64_in _ (by omega)
                    have hwk : IntKind.i64.wrap (n + kn) = n + kn := IntWalk.i64_in _ (by omega)
                    obtain ⟨wE, hwE⟩ : ∃ wE, wE = W3 := ⟨_, rfl⟩
                    rw [← hwE] at Q36
                    rw [← hwE]
                    clear hwE
                    have HPF := Lib.hid (fun W (h : Below wE.heap.size wE W) => HPE.out _ (K30.out _ _ Q36.out h))
                    have HSZ := Lib.hid (fun w => Size_any t w (by omega))
                    have hwz : IntKind.i64.wrap ((4 : Int) * (t.natAbs : Int)) = ((4 * t.natAbs : Nat) : Int) := by rw [show (4 : Int) * (t.natAbs : Int) = ((4 * t.natAbs : Nat) : Int) by omega]; exact IntWalk.i64_in _ (by omega)
                    have hN12 : 4 * t.natAbs ≤ 12 := by omega
                    have HSQT := Lib.hid (squares_take p t)
                    have HSQL := squares_len p t
                    have HWQ0 := HW5
                    obtain ⟨sq, hsq⟩ : ∃ sq, sq = squaresP p t := ⟨_, rfl⟩
                    rw [← hsq] at HSQT HSQL HWQ0
                    clear hsq
                    obtain ⟨N, hNN⟩ : ∃ N, N = 4 * t.natAbs := ⟨_, rfl⟩
                    rw [← hNN] at HSQT HSQL hwz hN12
                    have HNN := Lib.hid hNN
                    clear hNN
                    obtain ⟨g0, g1, g2, g3, g4⟩ := (HPE.out _ Q36.out).1
                    go_wp2_with fail
                    go_loopw [27, 28, 29] (fun vs i _ wr => ∃ k : Nat, k ≤ N ∧ i = .int .i64 k ∧ Ow e2 2 61 wE.heap.size wr vs (sq.take k) ∧ Below wE.heap.size wE wr) (fun _ i _ _ => N - (intOf i).toNat)
                    case atStart => exact ⟨0, Nat.zero_le _, rfl, Ow.nil _ _ _ _ _, Below.refl _ _⟩
                    case round =>
                      obtain ⟨k, hk, rfl, ho1, hb⟩ := hrel
                      have HO := Lib.hid ho1
                      have HB := Lib.hid hb
                      clear ho1 hb g0 g1 g2 g3 g4
                      obtain ⟨g0, g1, g2, g3, g4⟩ := (HPF.out wr HB.out).1
                      by_cases hlt : k < N
                      · have htk := HSQT.out k hlt
                        have hkl : (k : Int) < (N : Int) := by omega
                        have hk0 : (0 : Int) ≤ (k : Int) := by omega
                        have hlq : (sq.take k).length ≤ 12 := Nat.le_trans (List.length_take_le _ _) (by omega)
                        have hzw := HB.out.size
                        have hbx : w.heap.size < wr.heap.size := cell_lt g4
                        obtain ⟨⟨b1, b2⟩, b3, b4⟩ := HP4.out
                        generalize sq.take k = acc at *
                        have hwk : IntKind.i64.wrap ((k : Int) + 1) = (k : Int) + 1 := IntWalk.i64_in _ (by omega)
                        have hrw : ∀ r : Nat, k % 4 = r → (k : Int).tmod 4 = (r : Int) := fun r hr => by rw [Int.tmod_eq_emod_of_nonneg (by omega)]; omega
                        have hr4 : k % 4 = 0 ∨ k % 4 = 1 ∨ k % 4 = 2 ∨ k % 4 = 3 := by omega
                        by_cases htn : t < 0
                        · have htn' : decide (t < 0) = true := decide_eq_true htn
                          rw [htn'] at htk
                          rcases hr4 with hr | hr | hr | hr
                          · have hrr : (k : Int).tmod 4 = 0 := hrw 0 hr
                            have hix := fun w => run_ix0 w
                            have hsa : sqAt true k = (1, 1) := by unfold sqAt; rw [hr]; rfl
                            have hwx : IntKind.i64.wrap (p.1 + 1) = p.1 + 1 := IntWalk.i64_in _ (by omega)
                            have hwy : IntKind.i64.wrap (p.2 + 1) = p.2 + 1 := IntWalk.i64_in _ (by omega)
                            have hpt : mvP p (1, 1) = (p.1 + 1, p.2 + 1) := by unfold mvP; rw [Int.add_comm p.1, Int.add_comm p.2]
                            rw [hsa, hpt] at htk
                            have HTK := Lib.hid htk
                            clear htk hsa hpt hrw hr
                            go_wp2_with (first
                              | (go_at_call 82; refine (HSZ.out _).mono ?_; rintro e w9 ⟨rfl, rfl⟩)
                              | (at_builtin; refine wpList_append_at _ rfl _ _ 107 rfl wE.heap.size 61 i0 _ 2 16 Try.underlying107 hi hz0 hz1 hz2 rfl (by decide) _ _ _ rfl ((HO.out.alloc _).own.alloc _) ⟨_, 0, none⟩ 1 1 (e2 (p.1 + 1, p.2 + 1)) rfl rfl (cells_new1 _ _ _ _) (e2_one _) (by simp only [maxLen]; omega) (by omega) (by simp; omega) ?_; intro v1 wa hown1 hg _; have HO1 := Lib.hid (Ow.snoc hown1); have HBa := Lib.hid (((HO.out.alloc (.cells #[.int .i64 1, .int .i64 1] 61)).alloc (.cells #[.int .i64 (p.1 + 1), .int .i64 (p.2 + 1)] 61)).grown hg (below_al (below_al HB.out _) _) (Nat.le_refl _)); clear hown1 hg))
                            go_roundw
                            case rel => exact ⟨k + 1, by omega, by go_num, by rw [HTK.out]; exact HO1.out, HBa.out⟩
                            case measure => simp [intOf]; omega
                          · have hrr : (k : Int).tmod 4 = 1 := hrw 1 hr
                            have hix := fun w => run_ix1 w
                            have hsa : sqAt true k = (1, (-1)) := by unfold sqAt; rw [hr]; rfl
                            have hwx : IntKind.i64.wrap (p.1 + 1) = p.1 + 1 := IntWalk.i64_in _ (by omega)
                            have hwy : IntKind.i64.wrap (p.2 + (-1)) = p.2 + (-1) := IntWalk.i64_in _ (by omega)
                            have hpt : mvP p (1, (-1)) = (p.1 + 1, p.2 + (-1)) := by unfold mvP; rw [Int.add_comm p.1, Int.add_comm p.2]
                            rw [hsa, hpt] at htk
                            have HTK := Lib.hid htk
                            clear htk hsa hpt hrw hr
                            go_wp2_with (first
                              | (go_at_call 82; refine (HSZ.out _).mono ?_; rintro e w9 ⟨rfl, rfl⟩)
                              | (at_builtin; refine wpList_append_at _ rfl _ _ 107 rfl wE.heap.size 61 i0 _ 2 16 Try.underlying107 hi hz0 hz1 hz2 rfl (by decide) _ _ _ rfl ((HO.out.alloc _).own.alloc _) ⟨_, 0, none⟩ 1 1 (e2 (p.1 + 1, p.2 + (-1))) rfl rfl (cells_new1 _ _ _ _) (e2_one _) (by simp only [maxLen]; omega) (by omega) (by simp; omega) ?_; intro v1 wa hown1 hg _; have HO1 := Lib.hid (Ow.snoc hown1); have HBa := Lib.hid (((HO.out.alloc (.cells #[.int .i64 1, .int .i64 (-1)] 61)).alloc (.cells #[.int .i64 (p.1 + 1), .int .i64 (p.2 + (-1))] 61)).grown hg (below_al (below_al HB.out _) _) (Nat.le_refl _)); clear hown1 hg))
                            go_roundw
                            case rel => exact ⟨k + 1, by omega, by go_num, by rw [HTK.out]; exact HO1.out, HBa.out⟩
                            case measure => simp [intOf]; omega
                          · have hrr : (k : Int).tmod 4 = 2 := hrw 2 hr
                            have hix := fun w => run_ix2 w
                            have hsa : sqAt true k = ((-1), (-1)) := by unfold sqAt; rw [hr]; rfl
                            have hwx : IntKind.i64.wrap (p.1 + (-1)) = p.1 + (-1) := IntWalk.i64_in _ (by omega)
                            have hwy : IntKind.i64.wrap (p.2 + (-1)) = p.2 + (-1) := IntWalk.i64_in _ (by omega)
                            have hpt : mvP p ((-1), (-1)) = (p.1 + (-1), p.2 + (-1)) := by unfold mvP; rw [Int.add_comm p.1, Int.add_comm p.2]
                            rw [hsa, hpt] at htk
                            have HTK := Lib.hid htk
                            clear htk hsa hpt hrw hr
                            go_wp2_with (first
                              | (go_at_call 82; refine (HSZ.out _).mono ?_; rintro e w9 ⟨rfl, rfl⟩)
                              | (at_builtin; refine wpList_append_at _ rfl _ _ 107 rfl wE.heap.size 61 i0 _ 2 16 Try.underlying107 hi hz0 hz1 hz2 rfl (by decide) _ _ _ rfl ((HO.out.alloc _).own.alloc _) ⟨_, 0, none⟩ 1 1 (e2 (p.1 + (-1), p.2 + (-1))) rfl rfl (cells_new1 _ _ _ _) (e2_one _) (by simp only [maxLen]; omega) (by omega) (by simp; omega) ?_; intro v1 wa hown1 hg _; have HO1 := Lib.hid (Ow.snoc hown1); have HBa := Lib.hid (((HO.out.alloc (.cells #[.int .i64 (-1), .int .i64 (-1)] 61)).alloc (.cells #[.int .i64 (p.1 + (-1)), .int .i64 (p.2 + (-1))] 61)).grown hg (below_al (below_al HB.out _) _) (Nat.le_refl _)); clear hown1 hg))
                            go_roundw
                            case rel => exact ⟨k + 1, by omega, by go_num, by rw [HTK.out]; exact HO1.out, HBa.out⟩
                            case measure => simp [intOf]; omega
                          · have hrr : (k : Int).tmod 4 = 3 := hrw 3 hr
                            have hix := fun w => run_ix3 w
                            have hsa : sqAt true k = ((-1), 1) := by unfold sqAt; rw [hr]; rfl
                            have hwx : IntKind.i64.wrap (p.1 + (-1)) = p.1 + (-1) := IntWalk.i64_in _ (by omega)
                            have hwy : IntKind.i64.wrap (p.2 + 1) = p.2 + 1 := IntWalk.i64_in _ (by omega)
                            have hpt : mvP p ((-1), 1) = (p.1 + (-1), p.2 + 1) := by unfold mvP; rw [Int.add_comm p.1, Int.add_comm p.2]
                            rw [hsa, hpt] at htk
                            have HTK := Lib.hid htk
                            clear htk hsa hpt hrw hr
                            go_wp2_with (first
                              | (go_at_call 82; refine (HSZ.out _).mono ?_; rintro e w9 ⟨rfl, rfl⟩)
                              | (at_builtin; refine wpList_append_at _ rfl _ _ 107 rfl wE.heap.size 61 i0 _ 2 16 Try.underlying107 hi hz0 hz1 hz2 rfl (by decide) _ _ _ rfl ((HO.out.alloc _).own.alloc _) ⟨_, 0, none⟩ 1 1 (e2 (p.1 + (-1), p.2 + 1)) rfl rfl (cells_new1 _ _ _ _) (e2_one _) (by simp only [maxLen]; omega) (by omega) (by simp; omega) ?_; intro v1 wa hown1 hg _; have HO1 := Lib.hid (Ow.snoc hown1); have HBa := Lib.hid (((HO.out.alloc (.cells #[.int .i64 (-1), .int .i64 1] 61)).alloc (.cells #[.int .i64 (p.1 + (-1)), .int .i64 (p.2 + 1)] 61)).grown hg (below_al (below_al HB.out _) _) (Nat.le_refl _)); clear hown1 hg))
                            go_roundw
                            case rel => exact ⟨k + 1, by omega, by go_num, by rw [HTK.out]; exact HO1.out, HBa.out⟩
                            case measure => simp [intOf]; omega
                        · have htn' : decide (t < 0) = false := decide_eq_false htn
                          rw [htn'] at htk
                          rcases hr4 with hr | hr | hr | hr
                          · have hrr : (k : Int).tmod 4 = 0 := hrw 0 hr
                            have hix := fun w => run_ix0 w
                            have hsa : sqAt false k = (1, (-1)) := by unfold sqAt; rw [hr]; rfl
                            have hwx : IntKind.i64.wrap (p.1 + 1) = p.1 + 1 := IntWalk.i64_in _ (by omega)
                            have hwy : IntKind.i64.wrap (p.2 + (-1)) = p.2 + (-1) := IntWalk.i64_in _ (by omega)
                            have hpt : mvP p (1, (-1)) = (p.1 + 1, p.2 + (-1)) := by unfold mvP; rw [Int.add_comm p.1, Int.add_comm p.2]
                            rw [hsa, hpt] at htk
                            have HTK := Lib.hid htk
                            clear htk hsa hpt hrw hr
                            go_wp2_with (first
                              | (go_at_call 82; refine (HSZ.out _).mono ?_; rintro e w9 ⟨rfl, rfl⟩)
                              | (at_builtin; refine wpList_append_at _ rfl _ _ 107 rfl wE.heap.size 61 i0 _ 2 16 Try.underlying107 hi hz0 hz1 hz2 rfl (by decide) _ _ _ rfl ((HO.out.alloc _).own.alloc _) ⟨_, 0, none⟩ 1 1 (e2 (p.1 + 1, p.2 + (-1))) rfl rfl (cells_new1 _ _ _ _) (e2_one _) (by simp only [maxLen]; omega) (by omega) (by simp; omega) ?_; intro v1 wa hown1 hg _; have HO1 := Lib.hid (Ow.snoc hown1); have HBa := Lib.hid (((HO.out.alloc (.cells #[.int .i64 1, .int .i64 (-1)] 61)).alloc (.cells #[.int .i64 (p.1 + 1), .int .i64 (p.2 + (-1))] 61)).grown hg (below_al (below_al HB.out _) _) (Nat.le_refl _)); clear hown1 hg))
                            go_roundw
                            case rel => exact ⟨k + 1, by omega, by go_num, by rw [HTK.out]; exact HO1.out, HBa.out⟩
                            case measure => simp [intOf]; omega
                          · have hrr : (k : Int).tmod 4 = 1 := hrw 1 hr
                            have hix := fun w => run_ix1 w
                            have hsa : sqAt false k = (1, 1) := by unfold sqAt; rw [hr]; rfl
                            have hwx : IntKind.i64.wrap (p.1 + 1) = p.1 + 1 := IntWalk.i64_in _ (by omega)
                            have hwy : IntKind.i64.wrap (p.2 + 1) = p.2 + 1 := IntWalk.i64_in _ (by omega)
                            have hpt : mvP p (1, 1) = (p.1 + 1, p.2 + 1) := by unfold mvP; rw [Int.add_comm p.1, Int.add_comm p.2]
                            rw [hsa, hpt] at htk
                            have HTK := Lib.hid htk
                            clear htk hsa hpt hrw hr
                            go_wp2_with (first
                              | (go_at_call 82; refine (HSZ.out _).mono ?_; rintro e w9 ⟨rfl, rfl⟩)
                              | (at_builtin; refine wpList_append_at _ rfl _ _ 107 rfl wE.heap.size 61 i0 _ 2 16 Try.underlying107 hi hz0 hz1 hz2 rfl (by decide) _ _ _ rfl ((HO.out.alloc _).own.alloc _) ⟨_, 0, none⟩ 1 1 (e2 (p.1 + 1, p.2 + 1)) rfl rfl (cells_new1 _ _ _ _) (e2_one _) (by simp only [maxLen]; omega) (by omega) (by simp; omega) ?_; intro v1 wa hown1 hg _; have HO1 := Lib.hid (Ow.snoc hown1); have HBa := Lib.hid (((HO.out.alloc (.cells #[.int .i64 1, .int .i64 1] 61)).alloc (.cells #[.int .i64 (p.1 + 1), .int .i64 (p.2 + 1)] 61)).grown hg (below_al (below_al HB.out _) _) (Nat.le_refl _)); clear hown1 hg))
                            go_roundw
                            case rel => exact ⟨k + 1, by omega, by go_num, by rw [HTK.out]; exact HO1.out, HBa.out⟩
                            case measure => simp [intOf]; omega
                          · have hrr : (k : Int).tmod 4 = 2 := hrw 2 hr
                            have hix := fun w => run_ix2 w
                            have hsa : sqAt false k = ((-1), 1) := by unfold sqAt; rw [hr]; rfl
                            have hwx : IntKind.i64.wrap (p.1 + (-1)) = p.1 + (-1) := IntWalk.i64_in _ (by omega)
                            have hwy : IntKind.i64.wrap (p.2 + 1) = p.2 + 1 := IntWalk.i64_in _ (by omega)
                            have hpt : mvP p ((-1), 1) = (p.1 + (-1), p.2 + 1) := by unfold mvP; rw [Int.add_comm p.1, Int.add_comm p.2]
                            rw [hsa, hpt] at htk
                            have HTK := Lib.hid htk
                            clear htk hsa hpt hrw hr
                            go_wp2_with (first
                              | (go_at_call 82; refine (HSZ.out _).mono ?_; rintro e w9 ⟨rfl, rfl⟩)
                              | (at_builtin; refine wpList_append_at _ rfl _ _ 107 rfl wE.heap.size 61 i0 _ 2 16 Try.underlying107 hi hz0 hz1 hz2 rfl (by decide) _ _ _ rfl ((HO.out.alloc _).own.alloc _) ⟨_, 0, none⟩ 1 1 (e2 (p.1 + (-1), p.2 + 1)) rfl rfl (cells_new1 _ _ _ _) (e2_one _) (by simp only [maxLen]; omega) (by omega) (by simp; omega) ?_; intro v1 wa hown1 hg _; have HO1 := Lib.hid (Ow.snoc hown1); have HBa := Lib.hid (((HO.out.alloc (.cells #[.int .i64 (-1), .int .i64 1] 61)).alloc (.cells #[.int .i64 (p.1 + (-1)), .int .i64 (p.2 + 1)] 61)).grown hg (below_al (below_al HB.out _) _) (Nat.le_refl _)); clear hown1 hg))
                            go_roundw
                            case rel => exact ⟨k + 1, by omega, by go_num, by rw [HTK.out]; exact HO1.out, HBa.out⟩
                            case measure => simp [intOf]; omega
                          · have hrr : (k : Int).tmod 4 = 3 := hrw 3 hr
                            have hix := fun w => run_ix3 w
                            have hsa : sqAt false k = ((-1), (-1)) := by unfold sqAt; rw [hr]; rfl
                            have hwx : IntKind.i64.wrap (p.1 + (-1)) = p.1 + (-1) := IntWalk.i64_in _ (by omega)
                            have hwy : IntKind.i64.wrap (p.2 + (-1)) = p.2 + (-1) := IntWalk.i64_in _ (by omega)
                            have hpt : mvP p ((-1), (-1)) = (p.1 + (-1), p.2 + (-1)) := by unfold mvP; rw [Int.add_comm p.1, Int.add_comm p.2]
                            rw [hsa, hpt] at htk
                            have HTK := Lib.hid htk
                            clear htk hsa hpt hrw hr
                            go_wp2_with (first
                              | (go_at_call 82; refine (HSZ.out _).mono ?_; rintro e w9 ⟨rfl, rfl⟩)
                              | (at_builtin; refine wpList_append_at _ rfl _ _ 107 rfl wE.heap.size 61 i0 _ 2 16 Try.underlying107 hi hz0 hz1 hz2 rfl (by decide) _ _ _ rfl ((HO.out.alloc _).own.alloc _) ⟨_, 0, none⟩ 1 1 (e2 (p.1 + (-1), p.2 + (-1))) rfl rfl (cells_new1 _ _ _ _) (e2_one _) (by simp only [maxLen]; omega) (by omega) (by simp; omega) ?_; intro v1 wa hown1 hg _; have HO1 := Lib.hid (Ow.snoc hown1); have HBa := Lib.hid (((HO.out.alloc (.cells #[.int .i64 (-1), .int .i64 (-1)] 61)).alloc (.cells #[.int .i64 (p.1 + (-1)), .int .i64 (p.2 + (-1))] 61)).grown hg (below_al (below_al HB.out _) _) (Nat.le_refl _)); clear hown1 hg))
                            go_roundw
                            case rel => exact ⟨k + 1, by omega, by go_num, by rw [HTK.out]; exact HO1.out, HBa.out⟩
                            case measure => simp [intOf]; omega
                      · obtain rfl : k = N := by omega
                        rw [show sq.take k = sq from List.take_of_length_le (by omega)] at HO
                        by_cases ht0 : t = 0
                        · have ht0' := eq0 ht0
                          clear ht0
                          go_wp2_with (go_at_call 82; refine (HSZ.out _).mono ?_; rintro e w9 ⟨rfl, rfl⟩)
                          go_ret
                          exact ⟨rfl, (HPF.out wr HB.out).2.2.2.2⟩
                        · have ht0' := eq1 ht0
                          have hsqw := HWQ0.out ht0
                          have HWQ : Hid (∀ v w, Sl e2 2 w v sq → Calls Try.prog 73 #[v, .agg #[.int .i64 p.1, .int .i64 p.2]] w fun e w' => e = .returned (.tuple #[.int .i64 t, .int .i64 0]) ∧ Below w.heap.size w w') := fun v w h => by
                            have := WindingOf_any v sq p w h (by omega)
                            rwa [hsqw] at this
                          have HSQS := Lib.hid (HO.out.sl e2_len)
                          clear hsqw HWQ0 ht0
                          go_wp2_with (first
                            | (go_at_call 82; refine (HSZ.out _).mono ?_; rintro e w9 ⟨rfl, rfl⟩)
                            | (go_at_call 73; refine (HWQ.out _ _ HSQS.out).mono ?_; rintro e w9 ⟨rfl, b9⟩; have HB9 := Lib.hid (below_tr HB.out b9); clear b9 g0 g1 g2 g3 g4; obtain ⟨g0, g1, g2, g3, g4⟩ := (HPF.out _ HB9.out).1))
                          go_ret
                          exact ⟨rfl, (HPF.out _ HB9.out).2.2.2.2⟩

end Go.Proofs.Ytghglgaimhfedaa
