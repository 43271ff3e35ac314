/-
  The statement CableWound where the post lies on a path.
-/
import Derived.Test.YtghglgaimhfedaaZTh
namespace Go.Proofs.Ytghglgaimhfedaa
open Go.RowKit Go.Shelf
attribute [local go_sem] monoUpon_value monoUpon_skip monoUpon_enter

set_option maxRecDepth 100000 in
set_option maxHeartbeats 16000000 in
theorem wound_on (v u : Value) (path more : List Pt) (p m : Pt) (t : Int) (w : World) (hs : Sl e2 2 w v path) (hu : Sl e2 2 w u more) (h0 : 0 < path.length) (h1 : path.length ≤ 10) (h2 : more.length ≤ 10) (ht1 : -3 ≤ t) (ht2 : t ≤ 3) (hp : smB p = true) (hm : smB m = true) (hps : ∀ k (h : k < path.length), smB path[k] = true) (hms : ∀ k (h : k < more.length), smB more[k] = true) (n en kn ek : Int) (hnp : windingOf path p = (n, en)) (hns : ∀ a, path[0]? = some a → windingOf (a :: more) p = (kn, ek)) (he : en = 13 ∧ ek = 0 ∨ en = 0 ∧ ek = 13 ∨ en = 13 ∧ ek = 13) :
    Calls Try.prog 12 #[v, u, .agg #[.int .i64 p.1, .int .i64 p.2, .int .i64 m.1, .int .i64 m.2, .int .i64 t]] w fun e w' => e = .returned (.bool true) ∧ Below w.heap.size w w' := by
  have HS := Lib.hid hs
  have HU := Lib.hid hu
  obtain ⟨A, c, rfl, hcap⟩ := hs.form
  obtain ⟨A', c', rfl, hcap'⟩ := hu.form
  clear hs hu hcap hcap'
  obtain ⟨i0, hi, hz0, hz1, hz2⟩ := info_parts ptinfo
  have e0 : ((path.length : Int) == 0) = false := eq1 (by omega)
  have d1 : ¬ (10 : Int) < (path.length : Int) := by omega
  have d1' : decide ((10 : Int) < (path.length : Int)) = false := decide_eq_false d1
  have d2 : ¬ (10 : Int) < (more.length : Int) := by omega
  have d2' : decide ((10 : Int) < (more.length : Int)) = false := decide_eq_false d2
  have HWI := Lib.hid (fun w => Within_any t (-3) 3 w)
  rw [inB_true ⟨ht1, ht2⟩] at HWI
  have HSP := Lib.hid (fun w => small_any p w)
  rw [hp] at HSP
  have HSB := Lib.hid (fun w => small_any m w)
  rw [hm] at HSB
  have T1 : Hid True := trivial
  have HPS := Lib.hid hps
  have HMS := Lib.hid hms
  have HNP := Lib.hid hnp
  have HNS := Lib.hid hns
  clear hps hms hnp hns
  have HE := Lib.hid he
  clear hp hm he
  go_enter Try.func12, Try.ntmps12
  go_wp2_with (first
    | (go_at_call 14; refine (awakeB _).mono ?_; rintro e w1 ⟨rfl, b1⟩; have HXP : ∃ P : World → Prop, Keeps P ∧ P w1 ∧ ∀ W, P W → (W.cell? ⟨w.heap.size, 0, none⟩ = some (.int .i64 p.1) ∧ W.cell? ⟨w.heap.size, 1, none⟩ = some (.int .i64 p.2) ∧ W.cell? ⟨w.heap.size, 2, none⟩ = some (.int .i64 m.1) ∧ W.cell? ⟨w.heap.size, 3, none⟩ = some (.int .i64 m.2) ∧ W.cell? ⟨w.heap.size, 4, none⟩ = some (.int .i64 t)) ∧ Sl e2 2 W (.slice A path.length c) path ∧ Sl e2 2 W (.slice A' more.length c') more ∧ Below w.heap.size w W := ⟨_, ((keeps_cell _ _).and ((keeps_cell _ _).and ((keeps_cell _ _).and ((keeps_cell _ _).and (keeps_cell _ _))))).and ((keeps_sl _ _ _ _).and ((keeps_sl _ _ _ _).and (keeps_below _))), post_hx HS.out HU.out b1, fun _ h => h⟩; obtain ⟨P, KP, hP, HPE⟩ := HXP; have K0 := Lib.hid KP; have HPE := Lib.hid HPE; have Q1 := Lib.hid hP; clear b1 KP hP; obtain ⟨g0, g1, g2, g3, g4⟩ := (HPE.out _ Q1.out).1)
    | (go_at_call 27; refine (HWI.out _).mono ?_; rintro e w2 ⟨rfl, rfl⟩)
    | (go_at_call 81; clear T1; refine (HSP.out _).mono ?_; rintro e w3 ⟨rfl, b3⟩; have Q3 := Lib.hid (K0.out _ _ Q1.out b3); clear b3 g0 g1 g2 g3 g4; obtain ⟨g0, g1, g2, g3, g4⟩ := (HPE.out _ Q3.out).1)
    | (go_at_call 81; refine (HSB.out _).mono ?_; rintro e w4 ⟨rfl, b4⟩; have Q4 := Lib.hid (K0.out _ _ Q3.out b4); clear b4 g0 g1 g2 g3 g4; obtain ⟨g0, g1, g2, g3, g4⟩ := (HPE.out _ Q4.out).1))
  obtain ⟨bp, op, rfl, hq1, hq2⟩ := (HPE.out _ Q4.out).2.1.at2 (k := 0) h0
  clear hq1 hq2
  go_loopw [7] (fun i wr => ∃ k : Nat, k ≤ path.length ∧ i = .int .i64 k ∧ Below w4.heap.size w4 wr) (fun i _ => path.length - (intOf i).toNat)
  case atStart => exact ⟨0, Nat.zero_le _, rfl, Below.refl _ _⟩
  case round =>
    obtain ⟨k, hk, rfl, hb⟩ := hrel
    have HB := Lib.hid hb
    have Q5 := Lib.hid (K0.out _ _ Q4.out hb)
    clear hb g0 g1 g2 g3 g4
    obtain ⟨g0, g1, g2, g3, g4⟩ := (HPE.out _ Q5.out).1
    by_cases hlt : k < path.length
    · have HSK := Lib.hid (fun w => small_any path[k] w)
      obtain ⟨_, _, ep, _, c0, c1⟩ := (HPE.out _ Q5.out).2.1.at2 (k := k) hlt
      injection ep with ep
      injection ep with ep1 ep2
      subst ep1; subst ep2
      have hkl : (k : Int) < (path.length : Int) := by omega
      have hk0 : (0 : Int) ≤ (k : Int) := by omega
      have hsm : smB path[k] = true := HPS.out k hlt
      rw [hsm] at HSK
      generalize path[k] = q at *
      obtain ⟨q1, q2⟩ := q
      simp only at c0 c1
      go_wp2_with (go_at_call 81; refine (HSK.out _).mono ?_; rintro e w5 ⟨rfl, b5⟩)
      go_roundw
      case rel => exact ⟨k + 1, by omega, by go_num, below_tr HB.out b5⟩
      case measure => simp [intOf]; omega
    · obtain rfl : k = path.length := by omega
      obtain ⟨⟨a1, a2⟩, h0e⟩ : ∃ q, path[0] = q := ⟨_, rfl⟩
      obtain ⟨_, _, ep, _, c0, c1⟩ := (HPE.out _ Q5.out).2.1.at2 (k := 0) h0
      injection ep with ep
      injection ep with ep1 ep2
      subst ep1; subst ep2
      rw [h0e] at c0 c1
      simp only [Nat.zero_mul, Nat.add_zero] at c0 c1
      have hl0 : (0 : Int) < (path.length : Int) := by omega
      obtain ⟨w6, hw6⟩ : ∃ w6, w6 = wr := ⟨_, rfl⟩
      rw [← hw6] at c0 c1 g0 g1 g2 g3 g4 HB Q5
      rw [← hw6]
      clear hw6
      go_wp2_with fail
      have hlit : Ow e2 2 61 w6.heap.size (w6.alloc (.cells #[.int .i64 a1, .int .i64 a2] 61)) (.slice (some ⟨w6.heap.size, 0, none⟩) 1 1) [(a1, a2)] := Ow.lit w6 #[.int .i64 a1, .int .i64 a2] [(a1, a2)] (Nat.le_refl _) (by simp) rfl rfl
      have HLIT := Lib.hid hlit
      clear hlit c0 c1
      go_loopw [8, 9] (fun vr i wr => ∃ k : Nat, k ≤ more.length ∧ i = .int .i64 k ∧ Ow e2 2 61 w6.heap.size wr vr ((a1, a2) :: more.take k) ∧ Below w6.heap.size w6 wr) (fun _ i _ => more.length - (intOf i).toNat)
      case atStart => exact ⟨0, Nat.zero_le _, rfl, HLIT.out, below_alloc1 _ _⟩
      case round =>
        obtain ⟨k, hk, rfl, hown, hb⟩ := hrel
        have HO := Lib.hid hown
        have HB2 := Lib.hid hb
        have Q6 := Lib.hid (K0.out _ _ Q5.out hb)
        clear hb hown g0 g1 g2 g3 g4
        obtain ⟨g0, g1, g2, g3, g4⟩ := (HPE.out _ Q6.out).1
        by_cases hlt : k < more.length
        · have HSK := Lib.hid (fun w => small_any more[k] w)
          have HCK := Lib.hid (fun W (h : Below wr.heap.size wr W) => (HPE.out _ (K0.out _ _ Q6.out h)).2.2.1.at2 (k := k) hlt)
          obtain ⟨bq, oq, rfl, _, c0, c1⟩ := HCK.out wr (Below.refl _ _)
          have hkl : (k : Int) < (more.length : Int) := by omega
          have hk0 : (0 : Int) ≤ (k : Int) := by omega
          have hsm : smB more[k] = true := HMS.out k hlt
          rw [hsm] at HSK
          have htk : more.take (k + 1) = more.take k ++ [more[k]] := List.take_succ_eq_append_getElem hlt
          have HTK := Lib.hid htk
          have hlen : ((a1, a2) :: more.take k).length ≤ 11 := by simp only [List.length_cons]; exact Nat.succ_le_succ (Nat.le_trans (List.length_take_le _ _) (by omega))
          clear htk
          generalize more[k] = q at *
          generalize more.take k = acc at *
          obtain ⟨q1, q2⟩ := q
          simp only at c0 c1 HCK
          go_wp2_with (first
            | (go_at_call 81; refine (HSK.out _).mono ?_; rintro e w7 ⟨rfl, b7⟩; obtain ⟨_, _, eq, _, d0, d1⟩ := HCK.out w7 b7; injection eq with eq; injection eq with eq1 eq2; subst eq1; subst eq2; have HO7 := Lib.hid (HO.out.below b7); have HB7 := Lib.hid (below_tr HB2.out b7); have hz7 := HB7.out.size; clear b7 c0 c1)
            | (at_builtin; refine wpList_append_at _ rfl _ _ 107 rfl w6.heap.size 61 i0 _ 2 16 Try.underlying107 hi hz0 hz1 hz2 rfl (by decide) _ _ _ rfl (HO7.out.own.alloc _) ⟨_, 0, none⟩ 1 1 (e2 (q1, q2)) rfl rfl (cells_new _ _ _) (e2_one _) (by simp only [maxLen]; omega) (by omega) (by simp; omega) ?_; intro v1 wa hown1 hg _; have HO1 := Lib.hid (Ow.snoc hown1); have HBa := Lib.hid ((HO7.out.alloc (.cells #[.int .i64 q1, .int .i64 q2] 61)).grown hg (below_al HB7.out _) (Nat.le_refl _)); clear hown1 hg))
          go_roundw
          case rel => exact ⟨k + 1, by omega, by go_num, by rw [HTK.out]; exact HO1.out, HBa.out⟩
          case measure => simp [intOf]; omega
        · obtain rfl : k = more.length := by omega
          rw [show more.take more.length = more from List.take_of_length_le (Nat.le_refl _)] at HO
          have hsecd := HNS.out (a1, a2) (by rw [List.getElem?_eq_getElem h0, h0e])
          obtain ⟨sec, hsec⟩ : ∃ sec, sec = (a1, a2) :: more := ⟨_, rfl⟩
          have hsl : sec.length ≤ 11 := by rw [hsec]; simp; omega
          rw [← hsec] at HO hsecd
          have HXP : ∃ P : World → Prop, Keeps P ∧ P wr ∧ ∀ W, P W → (W.cell? ⟨w.heap.size, 0, none⟩ = some (.int .i64 p.1) ∧ W.cell? ⟨w.heap.size, 1, none⟩ = some (.int .i64 p.2) ∧ W.cell? ⟨w.heap.size, 2, none⟩ = some (.int .i64 m.1) ∧ W.cell? ⟨w.heap.size, 3, none⟩ = some (.int .i64 m.2) ∧ W.cell? ⟨w.heap.size, 4, none⟩ = some (.int .i64 t)) ∧ Sl e2 2 W (.slice (some ⟨bp, op, none⟩) path.length c) path ∧ Sl e2 2 W u8 sec ∧ Below w.heap.size w W := ⟨_, ((keeps_cell _ _).and ((keeps_cell _ _).and ((keeps_cell _ _).and ((keeps_cell _ _).and (keeps_cell _ _))))).and ((keeps_sl _ _ _ _).and ((keeps_sl _ _ _ _).and (keeps_below _))), ⟨(HPE.out _ Q6.out).1, (HPE.out _ Q6.out).2.1, HO.out.sl e2_len, (HPE.out _ Q6.out).2.2.2⟩, fun _ h => h⟩
          have HWP : Hid (∀ v w, Sl e2 2 w v path → Calls Try.prog 73 #[v, .agg #[.int .i64 p.1, .int .i64 p.2]] w fun e w' => e = .returned (.tuple #[.int .i64 n, .int .i64 en]) ∧ Below w.heap.size w w') := fun v w h => by
            have := WindingOf_any v path p w h (by omega)
            rwa [HNP.out] at this
          have HWS : Hid (∀ v w, Sl e2 2 w v sec → Calls Try.prog 73 #[v, .agg #[.int .i64 p.1, .int .i64 p.2]] w fun e w' => e = .returned (.tuple #[.int .i64 kn, .int .i64 ek]) ∧ Below w.heap.size w w') := fun v w h => by
            have := WindingOf_any v sec p w h (by omega)
            rwa [hsecd] at this
          have HSEC := Lib.hid hsec
          clear HPE Q1 Q3 Q4 Q5 Q6 K0 HO HB HB2 HLIT HS HU g0 g1 g2 g3 g4 hsec hsecd
          obtain ⟨P2, KP, hP, HPE⟩ := HXP
          have K10 := Lib.hid KP
          have HPE := Lib.hid HPE
          have Q10 := Lib.hid hP
          clear KP hP
          have HX17 : Hid (∀ W, Below wr.drew.heap.size wr.drew W → (W.cell? ⟨w.heap.size, 0, none⟩ = some (.int .i64 p.1) ∧ W.cell? ⟨w.heap.size, 1, none⟩ = some (.int .i64 p.2) ∧ W.cell? ⟨w.heap.size, 2, none⟩ = some (.int .i64 m.1) ∧ W.cell? ⟨w.heap.size, 3, none⟩ = some (.int .i64 m.2) ∧ W.cell? ⟨w.heap.size, 4, none⟩ = some (.int .i64 t)) ∧ Sl e2 2 W (.slice (some ⟨bp, op, none⟩) path.length c) path ∧ Sl e2 2 W u8 sec ∧ Below w.heap.size w W) := fun W hW => HPE.out _ (K10.out _ _ Q10.out (Below.trans (Below.drew (Below.refl _ _)) hW))
          go_wp2_with fail
          refine wp_region_mono 9 [101, 102, 103, 104, 105, 100, 106, 107, 10] [[], [0], [], [2], [1, 3], [4], [5], [5], [6]] [fun v _ => v = .slice (some ⟨bp, op, none⟩) path.length c, fun v w => Sl e2 2 w v path, fun v _ => v = .pointer (some ⟨w.heap.size, 0, none⟩), fun v _ => v = .agg #[.int .i64 p.1, .int .i64 p.2], fun v _ => v = .tuple #[.int .i64 n, .int .i64 en], fun v _ => v = .tuple #[.int .i64 n, .int .i64 en], fun v _ => v = .int .i64 n, fun v _ => v = .int .i64 en, fun v _ => v = .int .i64 n] (by kernel_rfl) (by kernel_rfl) ⟨st_eq _, st_sl _ _ _, st_eq _, st_eq _, st_eq _, st_eq _, st_eq _, st_eq _, st_eq _, trivial⟩ ?_ ?_
          · simp only [List.take_succ_cons, List.take_zero, steps, and_true]
            refine ⟨?_, ?_, ?_, ?_, ?_, ?_, ?_, ?_, ?_⟩
            · intro x W hB _; simp only [putX, setX, List.foldl_cons, List.foldl_nil]; refine ⟨?_⟩; go_simp; exact ⟨rfl, Below.refl _ _⟩
            · intro x W hB hN; simp only [needs, sAt, dAt] at hN; simp only [putX, setX, List.foldl_cons, List.foldl_nil]; refine ⟨?_⟩; go_simp; refine (CopyPath_any _ path _ (HX17.out W hB).2.1 (by omega)).mono ?_; rintro e w' ⟨r, rfl, o, b⟩; exact ⟨_, rfl, o.sl e2_len, b⟩
            · intro x W hB _; simp only [putX, setX, List.foldl_cons, List.foldl_nil]; refine ⟨?_⟩; go_simp; exact ⟨rfl, Below.refl _ _⟩
            · intro x W hB hN; simp only [needs, sAt, dAt] at hN; simp only [putX, setX, List.foldl_cons, List.foldl_nil]; obtain ⟨⟨d0, d1, _⟩, _⟩ := HX17.out W hB; refine ⟨?_⟩; go_simp; exact ⟨rfl, Below.refl _ _⟩
            · intro x W hB hN; simp only [needs, sAt, dAt] at hN; simp only [putX, setX, List.foldl_cons, List.foldl_nil]; refine ⟨?_⟩; go_simp; refine (HWP.out _ _ hN.1).mono ?_; rintro e w' ⟨rfl, b⟩; exact ⟨_, rfl, rfl, b⟩
            · intro x W hB hN; simp only [needs, sAt, dAt] at hN; simp only [putX, setX, List.foldl_cons, List.foldl_nil]; refine ⟨?_⟩; go_simp; exact ⟨rfl, Below.refl _ _⟩
            · intro x W hB hN; simp only [needs, sAt, dAt] at hN; simp only [putX, setX, List.foldl_cons, List.foldl_nil]; refine ⟨?_⟩; go_simp; exact ⟨rfl, Below.refl _ _⟩
            · intro x W hB hN; simp only [needs, sAt, dAt] at hN; simp only [putX, setX, List.foldl_cons, List.foldl_nil]; refine ⟨?_⟩; go_simp; exact ⟨rfl, Below.refl _ _⟩
            · intro x W hB hN; simp only [needs, sAt, dAt] at hN; simp only [putX, setX, List.foldl_cons, List.foldl_nil]; refine ⟨?_⟩; go_simp; exact ⟨rfl, Below.refl _ _⟩
          · intro x1 W1 hB hA
            simp only [allSp] at hA
            have s1 := hA.2.2.2.2.2.2.2.2.1
            have s2 := hA.2.2.2.2.2.2.2.1
            have Q11 := Lib.hid (K10.out _ _ Q10.out (Below.trans (Below.drew (Below.refl _ _)) hB))
            clear hA hB HX17
            simp only [putX, setX, List.foldl_cons, List.foldl_nil, List.drop_succ_cons, List.drop_zero, s1, s2, List.setIfInBounds_toArray, List.set_cons_succ, List.set_cons_zero]
            clear s1 s2
            have HX18 : Hid (∀ W, Below W1.drew.heap.size W1.drew W → (W.cell? ⟨w.heap.size, 0, none⟩ = some (.int .i64 p.1) ∧ W.cell? ⟨w.heap.size, 1, none⟩ = some (.int .i64 p.2) ∧ W.cell? ⟨w.heap.size, 2, none⟩ = some (.int .i64 m.1) ∧ W.cell? ⟨w.heap.size, 3, none⟩ = some (.int .i64 m.2) ∧ W.cell? ⟨w.heap.size, 4, none⟩ = some (.int .i64 t)) ∧ Sl e2 2 W (.slice (some ⟨bp, op, none⟩) path.length c) path ∧ Sl e2 2 W u8 sec ∧ Below w.heap.size w W) := fun W hW => HPE.out _ (K10.out _ _ Q11.out (Below.trans (Below.drew (Below.refl _ _)) hW))
            go_wp2_with fail
            refine wp_region_mono 9 [109, 110, 111, 112, 113, 108, 114, 115, 12] [[], [0], [], [2], [1, 3], [4], [5], [5], [6]] [fun v _ => v = u8, fun v w => Sl e2 2 w v sec, fun v _ => v = .pointer (some ⟨w.heap.size, 0, none⟩), fun v _ => v = .agg #[.int .i64 p.1, .int .i64 p.2], fun v _ => v = .tuple #[.int .i64 kn, .int .i64 ek], fun v _ => v = .tuple #[.int .i64 kn, .int .i64 ek], fun v _ => v = .int .i64 kn, fun v _ => v = .int .i64 ek, fun v _ => v = .int .i64 kn] (by kernel_rfl) (by kernel_rfl) ⟨st_eq _, st_sl _ _ _, st_eq _, st_eq _, st_eq _, st_eq _, st_eq _, st_eq _, st_eq _, trivial⟩ ?_ ?_
            · simp only [List.take_succ_cons, List.take_zero, steps, and_true]
              refine ⟨?_, ?_, ?_, ?_, ?_, ?_, ?_, ?_, ?_⟩
              · intro x W hB _; simp only [putX, setX, List.foldl_cons, List.foldl_nil]; refine ⟨?_⟩; go_simp; exact ⟨rfl, Below.refl _ _⟩
              · intro x W hB hN; simp only [needs, sAt, dAt] at hN; simp only [putX, setX, List.foldl_cons, List.foldl_nil]; refine ⟨?_⟩; go_simp; refine (CopyPath_any _ sec _ (HX18.out W hB).2.2.1 (by omega)).mono ?_; rintro e w' ⟨r, rfl, o, b⟩; exact ⟨_, rfl, o.sl e2_len, b⟩
              · intro x W hB _; simp only [putX, setX, List.foldl_cons, List.foldl_nil]; refine ⟨?_⟩; go_simp; exact ⟨rfl, Below.refl _ _⟩
              · intro x W hB hN; simp only [needs, sAt, dAt] at hN; simp only [putX, setX, List.foldl_cons, List.foldl_nil]; obtain ⟨⟨d0, d1, _⟩, _⟩ := HX18.out W hB; refine ⟨?_⟩; go_simp; exact ⟨rfl, Below.refl _ _⟩
              · intro x W hB hN; simp only [needs, sAt, dAt] at hN; simp only [putX, setX, List.foldl_cons, List.foldl_nil]; refine ⟨?_⟩; go_simp; refine (HWS.out _ _ hN.1).mono ?_; rintro e w' ⟨rfl, b⟩; exact ⟨_, rfl, rfl, b⟩
              · intro x W hB hN; simp only [needs, sAt, dAt] at hN; simp only [putX, setX, List.foldl_cons, List.foldl_nil]; refine ⟨?_⟩; go_simp; exact ⟨rfl, Below.refl _ _⟩
              · intro x W hB hN; simp only [needs, sAt, dAt] at hN; simp only [putX, setX, List.foldl_cons, List.foldl_nil]; refine ⟨?_⟩; go_simp; exact ⟨rfl, Below.refl _ _⟩
              · intro x W hB hN; simp only [needs, sAt, dAt] at hN; simp only [putX, setX, List.foldl_cons, List.foldl_nil]; refine ⟨?_⟩; go_simp; exact ⟨rfl, Below.refl _ _⟩
              · intro x W hB hN; simp only [needs, sAt, dAt] at hN; simp only [putX, setX, List.foldl_cons, List.foldl_nil]; refine ⟨?_⟩; go_simp; exact ⟨rfl, Below.refl _ _⟩
            · intro x2 W2 hB hA
              simp only [allSp] at hA
              have s1 := hA.2.2.2.2.2.2.2.2.1
              have s2 := hA.2.2.2.2.2.2.2.1
              have Q12 := Lib.hid (K10.out _ _ Q11.out (Below.trans (Below.drew (Below.refl _ _)) hB))
              clear hA hB HX18
              simp only [putX, setX, List.foldl_cons, List.foldl_nil, List.drop_succ_cons, List.drop_zero, s1, s2, List.setIfInBounds_toArray, List.set_cons_succ, List.set_cons_zero]
              clear s1 s2
              rcases HE.out with ⟨rfl, rfl⟩ | ⟨rfl, rfl⟩ | ⟨rfl, rfl⟩
              · go_wp2_with fail
                go_ret
                exact ⟨rfl, (HPE.out _ Q12.out).2.2.2⟩
              · go_wp2_with fail
                go_ret
                exact ⟨rfl, (HPE.out _ Q12.out).2.2.2⟩
              · go_wp2_with fail
                go_ret
                exact ⟨rfl, (HPE.out _ Q12.out).2.2.2⟩
end Go.Proofs.Ytghglgaimhfedaa
