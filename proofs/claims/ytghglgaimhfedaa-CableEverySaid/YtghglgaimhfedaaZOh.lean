/-
  The law CableBoxes, walked: pulls, squares, layback and length over a box are as the reference says, or the errors.
-/
import Derived.Test.YtghglgaimhfedaaZOf
import Derived.Test.YtghglgaimhfedaaZOb
import Derived.Test.YtghglgaimhfedaaZOg
import Derived.Test.YtghglgaimhfedaaZKp
import Derived.Test.YtghglgaimhfedaaZMx
import Derived.Test.YtghglgaimhfedaaZMg
namespace Go.Proofs.Ytghglgaimhfedaa
open Go.RowKit Go.Shelf
attribute [local go_sem] monoUpon_value monoUpon_skip monoUpon_enter

theorem rBoxErr_any (v u : Value) (l : Ln) (b : List (Int × Int)) (w : World) (hs : Sl e3 3 w v l.ks) (hu : Sl e2 2 w u b) (hbig' : b.length ≤ 1000) :
    Calls Try.prog 61 #[.agg #[.int .i64 l.x, .int .i64 l.z, v], u] w fun e w' => e = .returned (.int .i64 (boxErr1 l b).2) ∧ Below w.heap.size w w' := by
  have HC := Lib.hid (fun w' (hw : Below w.heap.size w w') => rCheckBox_any v u l b w' (hs.below hw) (hu.below hw) hbig')
  obtain ⟨A, c, rfl, hcap⟩ := hs.form
  obtain ⟨A', c', rfl, hcap'⟩ := hu.form
  clear hs hu
  generalize boxErr1 l b = be at *
  obtain ⟨b1, b2⟩ := be
  simp only at *
  go_enter Try.func61, Try.ntmps61
  go_wp2_with (go_at_call 23; refine (HC.out _ (below_alloc1 _ _)).mono ?_; rintro e w1 ⟨rfl, hb1⟩)
  go_ret
  exact ⟨rfl, below_tr (below_alloc1 _ _) hb1⟩
theorem boxErr_line {l : Ln} {b : List (Int × Int)} (h : ¬ lineErr l = 0) : boxErr l b = lineErr l := by
  unfold boxErr checkBox; rw [if_neg h]; rfl
theorem boxErr_box {l : Ln} {b : List (Int × Int)} (h : lineErr l = 0) : boxErr l b = (boxErr1 l b).2 := by
  unfold boxErr checkBox; rw [if_pos h]
set_option maxRecDepth 100000 in
set_option maxHeartbeats 1000000 in
theorem boxes_far (v u : Value) (l : Ln) (b : List (Int × Int)) (w : World) (hs : Sl e3 3 w v l.ks) (hu : Sl e2 2 w u b) (hn : ¬ (l.ks.length ≤ 12 ∧ b.length ≤ 14)) :
    Calls Try.prog 8 #[.agg #[.int .i64 l.x, .int .i64 l.z, v], u] w fun e w' => e = .returned (.bool true) ∧ Below w.heap.size w w' := by
  have HS := Lib.hid hs
  obtain ⟨A, c, rfl, hcap⟩ := hs.form
  obtain ⟨A', c', rfl, hcap'⟩ := hu.form
  clear hs hu
  have f1 : fewB l.ks.length (b.length : Int) = false := fewB_false hn
  clear hn hcap hcap'
  go_enter Try.func8, Try.ntmps8
  go_wp2_with (first
    | (go_at_call 14; refine (awakeB _).mono ?_; rintro e w1 ⟨rfl, b1⟩; have HX := law_hx HS.out (fun _ => True) (fun _ _ => trivial) b1; clear b1; have HB1 := Lib.hid (Below.refl w1.heap.size w1); obtain ⟨g0, g1, g2⟩ := (HX.out _ HB1.out).1)
    | (go_at_call 15; refine (few_any _ l _ _ (HX.out _ HB1.out).2.1).mono ?_; rintro e w2 ⟨rfl, b2⟩; have HB2 := Lib.hid (below_tr HB1.out b2); clear b2))
  go_ret
  exact ⟨rfl, (HX.out _ HB2.out).2.2.2⟩
set_option maxRecDepth 100000 in
set_option maxHeartbeats 4000000 in
theorem boxes_err (v u : Value) (l : Ln) (b : List (Int × Int)) (w : World) (hs : Sl e3 3 w v l.ks) (hu : Sl e2 2 w u b) (hn : l.ks.length ≤ 12) (hc : b.length ≤ 14) (h1 : ¬ boxErr l b = 0) :
    Calls Try.prog 8 #[.agg #[.int .i64 l.x, .int .i64 l.z, v], u] w fun e w' => e = .returned (.bool true) ∧ Below w.heap.size w w' := by
  have f1 := fewB_true hn hc
  have HS := Lib.hid hs
  have HU := Lib.hid hu
  obtain ⟨A, c, rfl, hcap⟩ := hs.form
  obtain ⟨A', c', rfl, hcap'⟩ := hu.form
  clear hs hu hcap hcap'
  have hsh : boxShapeErr l b = boxErr l b := if_neg h1
  have h1s : ¬ boxShapeErr l b = 0 := by rw [hsh]; exact h1
  have HPI : Hid (∀ v u w, Sl e3 3 w v l.ks → Sl e2 2 w u b → Calls Try.prog 57 #[.agg #[.int .i64 l.x, .int .i64 l.z, v], u] w fun e w' => ∃ A c, e = .returned (.tuple #[.slice A 0 c, .int .i64 (boxErr l b)]) ∧ Sl e2 2 w' (.slice A 0 c) [] ∧ Below w.heap.size w w') := fun v u w k1 k2 => by
    have h := PullsIn_any v u l b w k1 k2 (by omega) (by omega)
    have e : pullsIn l b = ([], (boxErr l b)) := if_neg h1
    rw [e] at h
    refine h.mono fun e w' ⟨r, a, b, c⟩ => ?_
    have s := b.sl e2_len
    obtain ⟨A, c', rfl, _⟩ := s.form
    exact ⟨A, c', a, s, c⟩
  have HSI : Hid (∀ v u w, Sl e3 3 w v l.ks → Sl e2 2 w u b → Calls Try.prog 58 #[.agg #[.int .i64 l.x, .int .i64 l.z, v], u] w fun e w' => ∃ A c, e = .returned (.tuple #[.slice A 0 c, .int .i64 (boxErr l b)]) ∧ Sl e2 2 w' (.slice A 0 c) [] ∧ Below w.heap.size w w') := fun v u w k1 k2 => by
    have h := SquaresIn_any v u l b w k1 k2 (by omega) (by omega)
    have e : squaresIn l b = ([], (boxErr l b)) := if_neg h1
    rw [e] at h
    refine h.mono fun e w' ⟨r, a, b, c⟩ => ?_
    have s := b.sl e2_len
    obtain ⟨A, c', rfl, _⟩ := s.form
    exact ⟨A, c', a, s, c⟩
  have HLI : Hid (∀ v u w, Sl e3 3 w v l.ks → Sl e2 2 w u b → Calls Try.prog 59 #[.agg #[.int .i64 l.x, .int .i64 l.z, v], u] w fun e w' => e = .returned (.tuple #[.agg #[.int .i64 0, .int .i64 0], .int .i64 (boxErr l b)]) ∧ Below w.heap.size w w') := fun v u w k1 k2 => by
    have h := LaybackIn_any v u l b w k1 k2 (by omega) (by omega)
    have e : laybackIn l b = ((0, 0), (boxErr l b)) := (if_neg h1s).trans (by rw [hsh])
    rw [e] at h; exact h
  have HEN : Hid (∀ v u w, Sl e3 3 w v l.ks → Sl e2 2 w u b → Calls Try.prog 60 #[.agg #[.int .i64 l.x, .int .i64 l.z, v], u] w fun e w' => e = .returned (.tuple #[.int .i64 0, .int .i64 (boxErr l b)]) ∧ Below w.heap.size w w') := fun v u w k1 k2 => by
    have h := EnoughFor_any v u l b w k1 k2 (by omega) (by omega)
    have e : enoughFor l b = (0, (boxErr l b)) := (if_neg h1s).trans (by rw [hsh])
    rw [e] at h; exact h
  have HLE := Lib.hid (fun v w h1 => LineErr_any v l w h1 (by omega))
  have HBE := Lib.hid (fun v u w h1 h2 => rBoxErr_any v u l b w h1 h2 (by omega))
  have h0' := ne1 h1
  have h0'' := eq1 h1
  have q1 := eq_range
  have T2 : Hid True := trivial
  have T3 : Hid True := trivial
  have T5 : Hid True := trivial
  have T6 : Hid True := trivial
  have T8 : Hid True := trivial
  have T9 : Hid True := trivial
  by_cases h4 : lineErr l = 0
  · have e4 : boxErr l b = (boxErr1 l b).2 := boxErr_box h4
    rw [h4] at HLE
    rw [← e4] at HBE
    clear e4 h4 h1 hsh h1s
    generalize boxErr l b = d at *
    go_enter Try.func8, Try.ntmps8
    go_wp2_with (first
        | (go_at_call 14; refine (awakeB _).mono ?_; rintro e w1 ⟨rfl, b1⟩; have HX := law_hx HS.out (fun W => Sl e2 2 W (.slice A' b.length c') b) (fun W hW => HU.out.below hW) b1; have HXP : ∃ P : World → Prop, Keeps P ∧ P w1 ∧ ∀ W, P W → (W.cell? ⟨w.heap.size, 0, none⟩ = some (.int .i64 l.x) ∧ W.cell? ⟨w.heap.size, 1, none⟩ = some (.int .i64 l.z) ∧ W.cell? ⟨w.heap.size, 2, none⟩ = some (.slice A l.ks.length c)) ∧ Sl e3 3 W (.slice A l.ks.length c) l.ks ∧ Sl e2 2 W (.slice A' b.length c') b ∧ Below w.heap.size w W := ⟨_, (keeps_cells _ _ _ _).and ((keeps_sl _ _ _ _).and ((keeps_sl _ _ _ _).and (keeps_below _))), HX.out _ (Below.refl _ _), fun _ h => h⟩; obtain ⟨P, KP, hP, HPE⟩ := HXP; have K0 := Lib.hid KP; have HPE := Lib.hid HPE; have Q1 := Lib.hid hP; clear b1 HX KP hP; obtain ⟨g0, g1, g2⟩ := (HPE.out _ Q1.out).1)
        | (go_at_call 15; refine (few_any _ l _ _ (HPE.out _ Q1.out).2.1).mono ?_; rintro e w2 ⟨rfl, b2⟩; have Q2 := Lib.hid (K0.out _ _ Q1.out b2); clear b2 g0 g1 g2; obtain ⟨g0, g1, g2⟩ := (HPE.out _ Q2.out).1)
        | (go_at_call 17; clear T2; refine (CopyLine_any _ l _ (HPE.out _ Q2.out).2.1 (by omega)).mono ?_; rintro e w3 ⟨r3, rfl, s3, b3⟩; have K3 := Lib.hid (Keeps.and K0.out (keeps_sl e3 3 r3 l.ks)); have Q3 := Lib.hid (And.intro (K0.out _ _ Q2.out b3) s3); clear b3 s3 g0 g1 g2)
        | (go_at_call 19; clear T3; refine (CopyRanges_any _ b _ (HPE.out _ Q3.out.1).2.2.1 (by omega)).mono ?_; rintro e w4 ⟨r4, rfl, o4, b4⟩; have s4 := o4.sl e2_len; clear o4; have K4 := Lib.hid (Keeps.and K3.out (keeps_sl e2 2 r4 b)); have Q4 := Lib.hid (And.intro (K3.out _ _ Q3.out b4) s4); clear b4 s4)
        | (go_at_call 57; refine (HPI.out _ _ _ (Q4.out.1.2) (Q4.out.2)).mono ?_; rintro e w5 ⟨A5, c5, rfl, s5, b5⟩; have K5 := Lib.hid (Keeps.and K4.out (keeps_sl e2 2 (.slice A5 0 c5) [])); have Q5 := Lib.hid (And.intro (K4.out _ _ Q4.out b5) s5); clear b5 s5; obtain ⟨g0, g1, g2⟩ := (HPE.out _ Q5.out.1.1.1).1)
        | (go_at_call 17; clear T5; refine (CopyLine_any _ l _ (HPE.out _ Q5.out.1.1.1).2.1 (by omega)).mono ?_; rintro e w6 ⟨r6, rfl, s6, b6⟩; have K6 := Lib.hid (Keeps.and K5.out (keeps_sl e3 3 r6 l.ks)); have Q6 := Lib.hid (And.intro (K5.out _ _ Q5.out b6) s6); clear b6 s6 g0 g1 g2)
        | (go_at_call 19; clear T6; refine (CopyRanges_any _ b _ (HPE.out _ Q6.out.1.1.1.1).2.2.1 (by omega)).mono ?_; rintro e w7 ⟨r7, rfl, o7, b7⟩; have s7 := o7.sl e2_len; clear o7; have K7 := Lib.hid (Keeps.and K6.out (keeps_sl e2 2 r7 b)); have Q7 := Lib.hid (And.intro (K6.out _ _ Q6.out b7) s7); clear b7 s7)
        | (go_at_call 58; refine (HSI.out _ _ _ (Q7.out.1.2) (Q7.out.2)).mono ?_; rintro e w8 ⟨A8, c8, rfl, s8, b8⟩; have K8 := Lib.hid (Keeps.and K7.out (keeps_sl e2 2 (.slice A8 0 c8) [])); have Q8 := Lib.hid (And.intro (K7.out _ _ Q7.out b8) s8); clear b8 s8; obtain ⟨g0, g1, g2⟩ := (HPE.out _ Q8.out.1.1.1.1.1.1).1)
        | (go_at_call 17; clear T8; refine (CopyLine_any _ l _ (HPE.out _ Q8.out.1.1.1.1.1.1).2.1 (by omega)).mono ?_; rintro e w9 ⟨r9, rfl, s9, b9⟩; have K9 := Lib.hid (Keeps.and K8.out (keeps_sl e3 3 r9 l.ks)); have Q9 := Lib.hid (And.intro (K8.out _ _ Q8.out b9) s9); clear b9 s9 g0 g1 g2)
        | (go_at_call 19; clear T9; refine (CopyRanges_any _ b _ (HPE.out _ Q9.out.1.1.1.1.1.1.1).2.2.1 (by omega)).mono ?_; rintro e w10 ⟨r10, rfl, o10, b10⟩; have s10 := o10.sl e2_len; clear o10; have K10 := Lib.hid (Keeps.and K9.out (keeps_sl e2 2 r10 b)); have Q10 := Lib.hid (And.intro (K9.out _ _ Q9.out b10) s10); clear b10 s10)
        | (go_at_call 59; refine (HLI.out _ _ _ (Q10.out.1.2) (Q10.out.2)).mono ?_; rintro e w11 ⟨rfl, b11⟩; have K11 := Lib.hid (Keeps.and K10.out (keeps_sl e1 1 (.slice (some ⟨w11.heap.size, 0, none⟩) 2 2) [0, 0])); have Q11 := Lib.hid (And.intro (K10.out _ _ (K10.out _ _ Q10.out b11) (below_alloc1 w11 (.cells #[.int .i64 0, .int .i64 0] 66))) (sl2 w11 0 0 66)); clear b11; obtain ⟨g0, g1, g2⟩ := (HPE.out _ Q11.out.1.1.1.1.1.1.1.1.1).1)
        | (go_at_call 17; refine (CopyLine_any _ l _ (HPE.out _ Q11.out.1.1.1.1.1.1.1.1.1).2.1 (by omega)).mono ?_; rintro e w12 ⟨r12, rfl, s12, b12⟩; have K12 := Lib.hid (Keeps.and K11.out (keeps_sl e3 3 r12 l.ks)); have Q12 := Lib.hid (And.intro (K11.out _ _ Q11.out b12) s12); clear b12 s12 g0 g1 g2)
        | (go_at_call 19; refine (CopyRanges_any _ b _ (HPE.out _ Q12.out.1.1.1.1.1.1.1.1.1.1).2.2.1 (by omega)).mono ?_; rintro e w13 ⟨r13, rfl, o13, b13⟩; have s13 := o13.sl e2_len; clear o13; have K13 := Lib.hid (Keeps.and K12.out (keeps_sl e2 2 r13 b)); have Q13 := Lib.hid (And.intro (K12.out _ _ Q12.out b13) s13); clear b13 s13)
        | (go_at_call 60; refine (HEN.out _ _ _ (Q13.out.1.2) (Q13.out.2)).mono ?_; rintro e w14 ⟨rfl, b14⟩; have Q14 := Lib.hid (K13.out _ _ Q13.out b14); clear b14; obtain ⟨g0, g1, g2⟩ := (HPE.out _ Q14.out.1.1.1.1.1.1.1.1.1.1.1).1)
        | (go_at_call 33; refine (HLE.out _ _ (HPE.out _ Q14.out.1.1.1.1.1.1.1.1.1.1.1).2.1).mono ?_; rintro e w15 ⟨rfl, b15⟩; have Q15 := Lib.hid (K13.out _ _ Q14.out b15); clear b15 g0 g1 g2; obtain ⟨g0, g1, g2⟩ := (HPE.out _ Q15.out.1.1.1.1.1.1.1.1.1.1.1).1; obtain ⟨x0, x1⟩ := box_cells (Q15.out.1.1.2))
        | (go_at_call 61; refine (HBE.out _ _ _ (HPE.out _ Q15.out.1.1.1.1.1.1.1.1.1.1.1).2.1 (HPE.out _ Q15.out.1.1.1.1.1.1.1.1.1.1.1).2.2.1).mono ?_; rintro e w16 ⟨rfl, b16⟩; have Q16 := Lib.hid (K13.out _ _ Q15.out b16); clear b16 g0 g1 g2 x0 x1; obtain ⟨g0, g1, g2⟩ := (HPE.out _ Q16.out.1.1.1.1.1.1.1.1.1.1.1).1; obtain ⟨x0, x1⟩ := box_cells (Q16.out.1.1.2)))
    go_ret
    exact ⟨rfl, (HPE.out _ Q16.out.1.1.1.1.1.1.1.1.1.1.1).2.2.2⟩
  · have e4 : boxErr l b = lineErr l := boxErr_line h4
    rw [← e4] at HLE
    clear e4 h4 h1 hsh h1s
    generalize boxErr l b = d at *
    go_enter Try.func8, Try.ntmps8
    go_wp2_with (first
        | (go_at_call 14; refine (awakeB _).mono ?_; rintro e w1 ⟨rfl, b1⟩; have HX := law_hx HS.out (fun W => Sl e2 2 W (.slice A' b.length c') b) (fun W hW => HU.out.below hW) b1; have HXP : ∃ P : World → Prop, Keeps P ∧ P w1 ∧ ∀ W, P W → (W.cell? ⟨w.heap.size, 0, none⟩ = some (.int .i64 l.x) ∧ W.cell? ⟨w.heap.size, 1, none⟩ = some (.int .i64 l.z) ∧ W.cell? ⟨w.heap.size, 2, none⟩ = some (.slice A l.ks.length c)) ∧ Sl e3 3 W (.slice A l.ks.length c) l.ks ∧ Sl e2 2 W (.slice A' b.length c') b ∧ Below w.heap.size w W := ⟨_, (keeps_cells _ _ _ _).and ((keeps_sl _ _ _ _).and ((keeps_sl _ _ _ _).and (keeps_below _))), HX.out _ (Below.refl _ _), fun _ h => h⟩; obtain ⟨P, KP, hP, HPE⟩ := HXP; have K0 := Lib.hid KP; have HPE := Lib.hid HPE; have Q1 := Lib.hid hP; clear b1 HX KP hP; obtain ⟨g0, g1, g2⟩ := (HPE.out _ Q1.out).1)
        | (go_at_call 15; refine (few_any _ l _ _ (HPE.out _ Q1.out).2.1).mono ?_; rintro e w2 ⟨rfl, b2⟩; have Q2 := Lib.hid (K0.out _ _ Q1.out b2); clear b2 g0 g1 g2; obtain ⟨g0, g1, g2⟩ := (HPE.out _ Q2.out).1)
        | (go_at_call 17; clear T2; refine (CopyLine_any _ l _ (HPE.out _ Q2.out).2.1 (by omega)).mono ?_; rintro e w3 ⟨r3, rfl, s3, b3⟩; have K3 := Lib.hid (Keeps.and K0.out (keeps_sl e3 3 r3 l.ks)); have Q3 := Lib.hid (And.intro (K0.out _ _ Q2.out b3) s3); clear b3 s3 g0 g1 g2)
        | (go_at_call 19; clear T3; refine (CopyRanges_any _ b _ (HPE.out _ Q3.out.1).2.2.1 (by omega)).mono ?_; rintro e w4 ⟨r4, rfl, o4, b4⟩; have s4 := o4.sl e2_len; clear o4; have K4 := Lib.hid (Keeps.and K3.out (keeps_sl e2 2 r4 b)); have Q4 := Lib.hid (And.intro (K3.out _ _ Q3.out b4) s4); clear b4 s4)
        | (go_at_call 57; refine (HPI.out _ _ _ (Q4.out.1.2) (Q4.out.2)).mono ?_; rintro e w5 ⟨A5, c5, rfl, s5, b5⟩; have K5 := Lib.hid (Keeps.and K4.out (keeps_sl e2 2 (.slice A5 0 c5) [])); have Q5 := Lib.hid (And.intro (K4.out _ _ Q4.out b5) s5); clear b5 s5; obtain ⟨g0, g1, g2⟩ := (HPE.out _ Q5.out.1.1.1).1)
        | (go_at_call 17; clear T5; refine (CopyLine_any _ l _ (HPE.out _ Q5.out.1.1.1).2.1 (by omega)).mono ?_; rintro e w6 ⟨r6, rfl, s6, b6⟩; have K6 := Lib.hid (Keeps.and K5.out (keeps_sl e3 3 r6 l.ks)); have Q6 := Lib.hid (And.intro (K5.out _ _ Q5.out b6) s6); clear b6 s6 g0 g1 g2)
        | (go_at_call 19; clear T6; refine (CopyRanges_any _ b _ (HPE.out _ Q6.out.1.1.1.1).2.2.1 (by omega)).mono ?_; rintro e w7 ⟨r7, rfl, o7, b7⟩; have s7 := o7.sl e2_len; clear o7; have K7 := Lib.hid (Keeps.and K6.out (keeps_sl e2 2 r7 b)); have Q7 := Lib.hid (And.intro (K6.out _ _ Q6.out b7) s7); clear b7 s7)
        | (go_at_call 58; refine (HSI.out _ _ _ (Q7.out.1.2) (Q7.out.2)).mono ?_; rintro e w8 ⟨A8, c8, rfl, s8, b8⟩; have K8 := Lib.hid (Keeps.and K7.out (keeps_sl e2 2 (.slice A8 0 c8) [])); have Q8 := Lib.hid (And.intro (K7.out _ _ Q7.out b8) s8); clear b8 s8; obtain ⟨g0, g1, g2⟩ := (HPE.out _ Q8.out.1.1.1.1.1.1).1)
        | (go_at_call 17; clear T8; refine (CopyLine_any _ l _ (HPE.out _ Q8.out.1.1.1.1.1.1).2.1 (by omega)).mono ?_; rintro e w9 ⟨r9, rfl, s9, b9⟩; have K9 := Lib.hid (Keeps.and K8.out (keeps_sl e3 3 r9 l.ks)); have Q9 := Lib.hid (And.intro (K8.out _ _ Q8.out b9) s9); clear b9 s9 g0 g1 g2)
        | (go_at_call 19; clear T9; refine (CopyRanges_any _ b _ (HPE.out _ Q9.out.1.1.1.1.1.1.1).2.2.1 (by omega)).mono ?_; rintro e w10 ⟨r10, rfl, o10, b10⟩; have s10 := o10.sl e2_len; clear o10; have K10 := Lib.hid (Keeps.and K9.out (keeps_sl e2 2 r10 b)); have Q10 := Lib.hid (And.intro (K9.out _ _ Q9.out b10) s10); clear b10 s10)
        | (go_at_call 59; refine (HLI.out _ _ _ (Q10.out.1.2) (Q10.out.2)).mono ?_; rintro e w11 ⟨rfl, b11⟩; have K11 := Lib.hid (Keeps.and K10.out (keeps_sl e1 1 (.slice (some ⟨w11.heap.size, 0, none⟩) 2 2) [0, 0])); have Q11 := Lib.hid (And.intro (K10.out _ _ (K10.out _ _ Q10.out b11) (below_alloc1 w11 (.cells #[.int .i64 0, .int .i64 0] 66))) (sl2 w11 0 0 66)); clear b11; obtain ⟨g0, g1, g2⟩ := (HPE.out _ Q11.out.1.1.1.1.1.1.1.1.1).1)
        | (go_at_call 17; refine (CopyLine_any _ l _ (HPE.out _ Q11.out.1.1.1.1.1.1.1.1.1).2.1 (by omega)).mono ?_; rintro e w12 ⟨r12, rfl, s12, b12⟩; have K12 := Lib.hid (Keeps.and K11.out (keeps_sl e3 3 r12 l.ks)); have Q12 := Lib.hid (And.intro (K11.out _ _ Q11.out b12) s12); clear b12 s12 g0 g1 g2)
        | (go_at_call 19; refine (CopyRanges_any _ b _ (HPE.out _ Q12.out.1.1.1.1.1.1.1.1.1.1).2.2.1 (by omega)).mono ?_; rintro e w13 ⟨r13, rfl, o13, b13⟩; have s13 := o13.sl e2_len; clear o13; have K13 := Lib.hid (Keeps.and K12.out (keeps_sl e2 2 r13 b)); have Q13 := Lib.hid (And.intro (K12.out _ _ Q12.out b13) s13); clear b13 s13)
        | (go_at_call 60; refine (HEN.out _ _ _ (Q13.out.1.2) (Q13.out.2)).mono ?_; rintro e w14 ⟨rfl, b14⟩; have Q14 := Lib.hid (K13.out _ _ Q13.out b14); clear b14; obtain ⟨g0, g1, g2⟩ := (HPE.out _ Q14.out.1.1.1.1.1.1.1.1.1.1.1).1)
        | (go_at_call 33; refine (HLE.out _ _ (HPE.out _ Q14.out.1.1.1.1.1.1.1.1.1.1.1).2.1).mono ?_; rintro e w15 ⟨rfl, b15⟩; have Q15 := Lib.hid (K13.out _ _ Q14.out b15); clear b15 g0 g1 g2; obtain ⟨g0, g1, g2⟩ := (HPE.out _ Q15.out.1.1.1.1.1.1.1.1.1.1.1).1; obtain ⟨x0, x1⟩ := box_cells (Q15.out.1.1.2))
        | (go_at_call 61; refine (HBE.out _ _ _ (HPE.out _ Q15.out.1.1.1.1.1.1.1.1.1.1.1).2.1 (HPE.out _ Q15.out.1.1.1.1.1.1.1.1.1.1.1).2.2.1).mono ?_; rintro e w16 ⟨rfl, b16⟩; have Q16 := Lib.hid (K13.out _ _ Q15.out b16); clear b16 g0 g1 g2 x0 x1; obtain ⟨g0, g1, g2⟩ := (HPE.out _ Q16.out.1.1.1.1.1.1.1.1.1.1.1).1; obtain ⟨x0, x1⟩ := box_cells (Q16.out.1.1.2)))
    go_ret
    exact ⟨rfl, (HPE.out _ Q15.out.1.1.1.1.1.1.1.1.1.1.1).2.2.2⟩
set_option maxRecDepth 100000 in
set_option maxHeartbeats 4000000 in
theorem boxes_slack (v u : Value) (l : Ln) (b : List (Int × Int)) (w : World) (hs : Sl e3 3 w v l.ks) (hu : Sl e2 2 w u b) (hn : l.ks.length ≤ 12) (hc : b.length ≤ 14) (h1 : boxErr l b = 0) (h3 : ¬ slackErr l = 0) :
    Calls Try.prog 8 #[.agg #[.int .i64 l.x, .int .i64 l.z, v], u] w fun e w' => e = .returned (.bool true) ∧ Below w.heap.size w w' := by
  have f1 := fewB_true hn hc
  have HS := Lib.hid hs
  have HU := Lib.hid hu
  obtain ⟨A, c, rfl, hcap⟩ := hs.form
  obtain ⟨A', c', rfl, hcap'⟩ := hu.form
  clear hs hu hcap hcap'
  have hsh : boxShapeErr l b = slackErr l := if_pos h1
  have h1s : ¬ boxShapeErr l b = 0 := by rw [hsh]; exact h3
  obtain ⟨h4, h5⟩ := boxErr_ok h1
  obtain ⟨hl, hbx⟩ := boxOk_of h1
  have hpl : (loHi l b).length ≤ 10 := by unfold loHi; rw [List.length_map, pulls_len hbx]; exact hl.n1
  have hsl : ((pulls l b).map sqR).length ≤ 10 := by rw [List.length_map, pulls_len hbx]; exact hl.n1
  have HPI : Hid (∀ v u w, Sl e3 3 w v l.ks → Sl e2 2 w u b → Calls Try.prog 57 #[.agg #[.int .i64 l.x, .int .i64 l.z, v], u] w fun e w' => ∃ A c, e = .returned (.tuple #[.slice A (loHi l b).length c, .int .i64 0]) ∧ Sl e2 2 w' (.slice A (loHi l b).length c) (loHi l b) ∧ Below w.heap.size w w') := fun v u w k1 k2 => by
    have h := PullsIn_any v u l b w k1 k2 (by omega) (by omega)
    have e : pullsIn l b = ((loHi l b), 0) := if_pos h1
    rw [e] at h
    refine h.mono fun e w' ⟨r, a, b, c⟩ => ?_
    have s := b.sl e2_len
    obtain ⟨A, c', rfl, _⟩ := s.form
    exact ⟨A, c', a, s, c⟩
  have HSI : Hid (∀ v u w, Sl e3 3 w v l.ks → Sl e2 2 w u b → Calls Try.prog 58 #[.agg #[.int .i64 l.x, .int .i64 l.z, v], u] w fun e w' => ∃ A c, e = .returned (.tuple #[.slice A ((pulls l b).map sqR).length c, .int .i64 0]) ∧ Sl e2 2 w' (.slice A ((pulls l b).map sqR).length c) ((pulls l b).map sqR) ∧ Below w.heap.size w w') := fun v u w k1 k2 => by
    have h := SquaresIn_any v u l b w k1 k2 (by omega) (by omega)
    have e : squaresIn l b = (((pulls l b).map sqR), 0) := if_pos h1
    rw [e] at h
    refine h.mono fun e w' ⟨r, a, b, c⟩ => ?_
    have s := b.sl e2_len
    obtain ⟨A, c', rfl, _⟩ := s.form
    exact ⟨A, c', a, s, c⟩
  have HLI : Hid (∀ v u w, Sl e3 3 w v l.ks → Sl e2 2 w u b → Calls Try.prog 59 #[.agg #[.int .i64 l.x, .int .i64 l.z, v], u] w fun e w' => e = .returned (.tuple #[.agg #[.int .i64 0, .int .i64 0], .int .i64 (slackErr l)]) ∧ Below w.heap.size w w') := fun v u w k1 k2 => by
    have h := LaybackIn_any v u l b w k1 k2 (by omega) (by omega)
    have e : laybackIn l b = ((0, 0), (slackErr l)) := (if_neg h1s).trans (by rw [hsh])
    rw [e] at h; exact h
  have HEN : Hid (∀ v u w, Sl e3 3 w v l.ks → Sl e2 2 w u b → Calls Try.prog 60 #[.agg #[.int .i64 l.x, .int .i64 l.z, v], u] w fun e w' => e = .returned (.tuple #[.int .i64 0, .int .i64 (slackErr l)]) ∧ Below w.heap.size w w') := fun v u w k1 k2 => by
    have h := EnoughFor_any v u l b w k1 k2 (by omega) (by omega)
    have e : enoughFor l b = (0, (slackErr l)) := (if_neg h1s).trans (by rw [hsh])
    rw [e] at h; exact h
  have HLE := Lib.hid (fun v w h1 => LineErr_any v l w h1 (by omega))
  have HBE := Lib.hid (fun v u w h1 h2 => rBoxErr_any v u l b w h1 h2 (by omega))
  have HRP : Hid (∀ v u w, Sl e3 3 w v l.ks → Sl e2 2 w u b → Calls Try.prog 63 #[.agg #[.int .i64 l.x, .int .i64 l.z, v], u] w fun e w' => ∃ r, e = .returned r ∧ Sl e2 2 w' r (loHi l b) ∧ Below w.heap.size w w') := fun v u w k1 k2 =>
    (rPulls_any v u l b w k1 k2 hl hbx).mono fun e w' ⟨r, a, o, d⟩ => ⟨r, a, o.sl e2_len, d⟩
  have HRS : Hid (∀ v u w, Sl e3 3 w v l.ks → Sl e2 2 w u b → Calls Try.prog 64 #[.agg #[.int .i64 l.x, .int .i64 l.z, v], u] w fun e w' => ∃ r, e = .returned r ∧ Sl e2 2 w' r ((pulls l b).map sqR) ∧ Below w.heap.size w w') := fun v u w k1 k2 =>
    (rSquares_any v u l b w k1 k2 hl hbx).mono fun e w' ⟨r, a, o, d⟩ => ⟨r, a, o.sl e2_len, d⟩
  have HSE := Lib.hid (fun v w h1 => rSlackErr_any v l w h1 hl)
  rw [h4] at HLE
  rw [h5] at HBE
  have h0' := ne1 h3
  have h0'' := eq1 h3
  have q1 := eq_range
  clear h1 h3 h4 h5 hl hbx hsh h1s
  generalize loHi l b = pl at *
  generalize (pulls l b).map sqR = sq at *
  have HRG : Hid (∀ u v w, Sl e2 2 w u pl → Sl e2 2 w v pl → Calls Try.prog 62 #[u, v] w fun e w' => e = .returned (.bool true) ∧ Below w.heap.size w w') := fun u v w h k => by
    have := Ranges_any u v pl pl w h k (by omega) (by omega)
    rwa [eqL_refl] at this
  have HRQ : Hid (∀ u v w, Sl e2 2 w u sq → Sl e2 2 w v sq → Calls Try.prog 62 #[u, v] w fun e w' => e = .returned (.bool true) ∧ Below w.heap.size w w') := fun u v w h k => by
    have := Ranges_any u v sq sq w h k (by omega) (by omega)
    rwa [eqL_refl] at this
  generalize slackErr l = d at *
  have T2 : Hid True := trivial
  have T3 : Hid True := trivial
  have T5 : Hid True := trivial
  have T6 : Hid True := trivial
  have T8 : Hid True := trivial
  have T9 : Hid True := trivial
  have T17 : Hid True := trivial
  go_enter Try.func8, Try.ntmps8
  go_wp2_with (first
      | (go_at_call 14; refine (awakeB _).mono ?_; rintro e w1 ⟨rfl, b1⟩; have HX := law_hx HS.out (fun W => Sl e2 2 W (.slice A' b.length c') b) (fun W hW => HU.out.below hW) b1; have HXP : ∃ P : World → Prop, Keeps P ∧ P w1 ∧ ∀ W, P W → (W.cell? ⟨w.heap.size, 0, none⟩ = some (.int .i64 l.x) ∧ W.cell? ⟨w.heap.size, 1, none⟩ = some (.int .i64 l.z) ∧ W.cell? ⟨w.heap.size, 2, none⟩ = some (.slice A l.ks.length c)) ∧ Sl e3 3 W (.slice A l.ks.length c) l.ks ∧ Sl e2 2 W (.slice A' b.length c') b ∧ Below w.heap.size w W := ⟨_, (keeps_cells _ _ _ _).and ((keeps_sl _ _ _ _).and ((keeps_sl _ _ _ _).and (keeps_below _))), HX.out _ (Below.refl _ _), fun _ h => h⟩; obtain ⟨P, KP, hP, HPE⟩ := HXP; have K0 := Lib.hid KP; have HPE := Lib.hid HPE; have Q1 := Lib.hid hP; clear b1 HX KP hP; obtain ⟨g0, g1, g2⟩ := (HPE.out _ Q1.out).1)
      | (go_at_call 15; refine (few_any _ l _ _ (HPE.out _ Q1.out).2.1).mono ?_; rintro e w2 ⟨rfl, b2⟩; have Q2 := Lib.hid (K0.out _ _ Q1.out b2); clear b2 g0 g1 g2; obtain ⟨g0, g1, g2⟩ := (HPE.out _ Q2.out).1)
      | (go_at_call 17; clear T2; refine (CopyLine_any _ l _ (HPE.out _ Q2.out).2.1 (by omega)).mono ?_; rintro e w3 ⟨r3, rfl, s3, b3⟩; have K3 := Lib.hid (Keeps.and K0.out (keeps_sl e3 3 r3 l.ks)); have Q3 := Lib.hid (And.intro (K0.out _ _ Q2.out b3) s3); clear b3 s3 g0 g1 g2)
      | (go_at_call 19; clear T3; refine (CopyRanges_any _ b _ (HPE.out _ Q3.out.1).2.2.1 (by omega)).mono ?_; rintro e w4 ⟨r4, rfl, o4, b4⟩; have s4 := o4.sl e2_len; clear o4; have K4 := Lib.hid (Keeps.and K3.out (keeps_sl e2 2 r4 b)); have Q4 := Lib.hid (And.intro (K3.out _ _ Q3.out b4) s4); clear b4 s4)
      | (go_at_call 57; refine (HPI.out _ _ _ (Q4.out.1.2) (Q4.out.2)).mono ?_; rintro e w5 ⟨A5, c5, rfl, s5, b5⟩; have K5 := Lib.hid (Keeps.and K4.out (keeps_sl e2 2 (.slice A5 pl.length c5) pl)); have Q5 := Lib.hid (And.intro (K4.out _ _ Q4.out b5) s5); clear b5 s5; obtain ⟨g0, g1, g2⟩ := (HPE.out _ Q5.out.1.1.1).1)
      | (go_at_call 17; clear T5; refine (CopyLine_any _ l _ (HPE.out _ Q5.out.1.1.1).2.1 (by omega)).mono ?_; rintro e w6 ⟨r6, rfl, s6, b6⟩; have K6 := Lib.hid (Keeps.and K5.out (keeps_sl e3 3 r6 l.ks)); have Q6 := Lib.hid (And.intro (K5.out _ _ Q5.out b6) s6); clear b6 s6 g0 g1 g2)
      | (go_at_call 19; clear T6; refine (CopyRanges_any _ b _ (HPE.out _ Q6.out.1.1.1.1).2.2.1 (by omega)).mono ?_; rintro e w7 ⟨r7, rfl, o7, b7⟩; have s7 := o7.sl e2_len; clear o7; have K7 := Lib.hid (Keeps.and K6.out (keeps_sl e2 2 r7 b)); have Q7 := Lib.hid (And.intro (K6.out _ _ Q6.out b7) s7); clear b7 s7)
      | (go_at_call 58; refine (HSI.out _ _ _ (Q7.out.1.2) (Q7.out.2)).mono ?_; rintro e w8 ⟨A8, c8, rfl, s8, b8⟩; have K8 := Lib.hid (Keeps.and K7.out (keeps_sl e2 2 (.slice A8 sq.length c8) sq)); have Q8 := Lib.hid (And.intro (K7.out _ _ Q7.out b8) s8); clear b8 s8; obtain ⟨g0, g1, g2⟩ := (HPE.out _ Q8.out.1.1.1.1.1.1).1)
      | (go_at_call 17; clear T8; refine (CopyLine_any _ l _ (HPE.out _ Q8.out.1.1.1.1.1.1).2.1 (by omega)).mono ?_; rintro e w9 ⟨r9, rfl, s9, b9⟩; have K9 := Lib.hid (Keeps.and K8.out (keeps_sl e3 3 r9 l.ks)); have Q9 := Lib.hid (And.intro (K8.out _ _ Q8.out b9) s9); clear b9 s9 g0 g1 g2)
      | (go_at_call 19; clear T9; refine (CopyRanges_any _ b _ (HPE.out _ Q9.out.1.1.1.1.1.1.1).2.2.1 (by omega)).mono ?_; rintro e w10 ⟨r10, rfl, o10, b10⟩; have s10 := o10.sl e2_len; clear o10; have K10 := Lib.hid (Keeps.and K9.out (keeps_sl e2 2 r10 b)); have Q10 := Lib.hid (And.intro (K9.out _ _ Q9.out b10) s10); clear b10 s10)
      | (go_at_call 59; refine (HLI.out _ _ _ (Q10.out.1.2) (Q10.out.2)).mono ?_; rintro e w11 ⟨rfl, b11⟩; have K11 := Lib.hid (Keeps.and K10.out (keeps_sl e1 1 (.slice (some ⟨w11.heap.size, 0, none⟩) 2 2) [0, 0])); have Q11 := Lib.hid (And.intro (K10.out _ _ (K10.out _ _ Q10.out b11) (below_alloc1 w11 (.cells #[.int .i64 0, .int .i64 0] 66))) (sl2 w11 0 0 66)); clear b11; obtain ⟨g0, g1, g2⟩ := (HPE.out _ Q11.out.1.1.1.1.1.1.1.1.1).1)
      | (go_at_call 17; refine (CopyLine_any _ l _ (HPE.out _ Q11.out.1.1.1.1.1.1.1.1.1).2.1 (by omega)).mono ?_; rintro e w12 ⟨r12, rfl, s12, b12⟩; have K12 := Lib.hid (Keeps.and K11.out (keeps_sl e3 3 r12 l.ks)); have Q12 := Lib.hid (And.intro (K11.out _ _ Q11.out b12) s12); clear b12 s12 g0 g1 g2)
      | (go_at_call 19; refine (CopyRanges_any _ b _ (HPE.out _ Q12.out.1.1.1.1.1.1.1.1.1.1).2.2.1 (by omega)).mono ?_; rintro e w13 ⟨r13, rfl, o13, b13⟩; have s13 := o13.sl e2_len; clear o13; have K13 := Lib.hid (Keeps.and K12.out (keeps_sl e2 2 r13 b)); have Q13 := Lib.hid (And.intro (K12.out _ _ Q12.out b13) s13); clear b13 s13)
      | (go_at_call 60; refine (HEN.out _ _ _ (Q13.out.1.2) (Q13.out.2)).mono ?_; rintro e w14 ⟨rfl, b14⟩; have Q14 := Lib.hid (K13.out _ _ Q13.out b14); clear b14; obtain ⟨g0, g1, g2⟩ := (HPE.out _ Q14.out.1.1.1.1.1.1.1.1.1.1.1).1)
      | (go_at_call 33; refine (HLE.out _ _ (HPE.out _ Q14.out.1.1.1.1.1.1.1.1.1.1.1).2.1).mono ?_; rintro e w15 ⟨rfl, b15⟩; have Q15 := Lib.hid (K13.out _ _ Q14.out b15); clear b15 g0 g1 g2; obtain ⟨g0, g1, g2⟩ := (HPE.out _ Q15.out.1.1.1.1.1.1.1.1.1.1.1).1)
      | (go_at_call 61; refine (HBE.out _ _ _ (HPE.out _ Q15.out.1.1.1.1.1.1.1.1.1.1.1).2.1 (HPE.out _ Q15.out.1.1.1.1.1.1.1.1.1.1.1).2.2.1).mono ?_; rintro e w16 ⟨rfl, b16⟩; have Q16 := Lib.hid (K13.out _ _ Q15.out b16); clear b16 g0 g1 g2; obtain ⟨g0, g1, g2⟩ := (HPE.out _ Q16.out.1.1.1.1.1.1.1.1.1.1.1).1)
      | (go_at_call 63; refine (HRP.out _ _ _ (HPE.out _ Q16.out.1.1.1.1.1.1.1.1.1.1.1).2.1 (HPE.out _ Q16.out.1.1.1.1.1.1.1.1.1.1.1).2.2.1).mono ?_; rintro e w17 ⟨r17, rfl, s17, b17⟩; have K17 := Lib.hid (Keeps.and K13.out (keeps_sl e2 2 r17 pl)); have Q17 := Lib.hid (And.intro (K13.out _ _ Q16.out b17) s17); clear b17 s17 g0 g1 g2)
      | (go_at_call 62; clear T17; refine (HRG.out _ _ _ (Q17.out.1.1.1.1.1.1.1.1.1.2) (Q17.out.2)).mono ?_; rintro e w18 ⟨rfl, b18⟩; have Q18 := Lib.hid (K17.out _ _ Q17.out b18); clear b18; obtain ⟨g0, g1, g2⟩ := (HPE.out _ Q18.out.1.1.1.1.1.1.1.1.1.1.1.1).1)
      | (go_at_call 64; refine (HRS.out _ _ _ (HPE.out _ Q18.out.1.1.1.1.1.1.1.1.1.1.1.1).2.1 (HPE.out _ Q18.out.1.1.1.1.1.1.1.1.1.1.1.1).2.2.1).mono ?_; rintro e w19 ⟨r19, rfl, s19, b19⟩; have K19 := Lib.hid (Keeps.and K17.out (keeps_sl e2 2 r19 sq)); have Q19 := Lib.hid (And.intro (K17.out _ _ Q18.out b19) s19); clear b19 s19 g0 g1 g2)
      | (go_at_call 62; refine (HRQ.out _ _ _ (Q19.out.1.1.1.1.1.1.1.2) (Q19.out.2)).mono ?_; rintro e w20 ⟨rfl, b20⟩; have Q20 := Lib.hid (K19.out _ _ Q19.out b20); clear b20; obtain ⟨g0, g1, g2⟩ := (HPE.out _ Q20.out.1.1.1.1.1.1.1.1.1.1.1.1.1).1)
      | (go_at_call 46; refine (HSE.out _ _ (HPE.out _ Q20.out.1.1.1.1.1.1.1.1.1.1.1.1.1).2.1).mono ?_; rintro e w21 ⟨rfl, b21⟩; have Q21 := Lib.hid (K19.out _ _ Q20.out b21); clear b21 g0 g1 g2; obtain ⟨x0, x1⟩ := box_cells (Q21.out.1.1.1.1.2)))
  go_ret
  exact ⟨rfl, (HPE.out _ Q21.out.1.1.1.1.1.1.1.1.1.1.1.1.1).2.2.2⟩
set_option maxRecDepth 100000 in
set_option maxHeartbeats 8000000 in
theorem boxes_ok (v u : Value) (l : Ln) (b : List (Int × Int)) (w : World) (hs : Sl e3 3 w v l.ks) (hu : Sl e2 2 w u b) (hn : l.ks.length ≤ 12) (hc : b.length ≤ 14) (h1 : boxErr l b = 0) (h3 : slackErr l = 0) :
    Calls Try.prog 8 #[.agg #[.int .i64 l.x, .int .i64 l.z, v], u] w fun e w' => e = .returned (.bool true) ∧ Below w.heap.size w w' := by
  have f1 := fewB_true hn hc
  have HS := Lib.hid hs
  have HU := Lib.hid hu
  obtain ⟨A, c, rfl, hcap⟩ := hs.form
  obtain ⟨A', c', rfl, hcap'⟩ := hu.form
  clear hs hu hcap hcap'
  have h1s : boxShapeErr l b = 0 := (if_pos h1).trans h3
  obtain ⟨h4, h5⟩ := boxErr_ok h1
  obtain ⟨hl, hbx⟩ := boxOk_of h1
  have hpl : (loHi l b).length ≤ 10 := by unfold loHi; rw [List.length_map, pulls_len hbx]; exact hl.n1
  have hsl : ((pulls l b).map sqR).length ≤ 10 := by rw [List.length_map, pulls_len hbx]; exact hl.n1
  have HPI : Hid (∀ v u w, Sl e3 3 w v l.ks → Sl e2 2 w u b → Calls Try.prog 57 #[.agg #[.int .i64 l.x, .int .i64 l.z, v], u] w fun e w' => ∃ A c, e = .returned (.tuple #[.slice A (loHi l b).length c, .int .i64 0]) ∧ Sl e2 2 w' (.slice A (loHi l b).length c) (loHi l b) ∧ Below w.heap.size w w') := fun v u w k1 k2 => by
    have h := PullsIn_any v u l b w k1 k2 (by omega) (by omega)
    have e : pullsIn l b = ((loHi l b), 0) := if_pos h1
    rw [e] at h
    refine h.mono fun e w' ⟨r, a, b, c⟩ => ?_
    have s := b.sl e2_len
    obtain ⟨A, c', rfl, _⟩ := s.form
    exact ⟨A, c', a, s, c⟩
  have HSI : Hid (∀ v u w, Sl e3 3 w v l.ks → Sl e2 2 w u b → Calls Try.prog 58 #[.agg #[.int .i64 l.x, .int .i64 l.z, v], u] w fun e w' => ∃ A c, e = .returned (.tuple #[.slice A ((pulls l b).map sqR).length c, .int .i64 0]) ∧ Sl e2 2 w' (.slice A ((pulls l b).map sqR).length c) ((pulls l b).map sqR) ∧ Below w.heap.size w w') := fun v u w k1 k2 => by
    have h := SquaresIn_any v u l b w k1 k2 (by omega) (by omega)
    have e : squaresIn l b = (((pulls l b).map sqR), 0) := if_pos h1
    rw [e] at h
    refine h.mono fun e w' ⟨r, a, b, c⟩ => ?_
    have s := b.sl e2_len
    obtain ⟨A, c', rfl, _⟩ := s.form
    exact ⟨A, c', a, s, c⟩
  have HLI : Hid (∀ v u w, Sl e3 3 w v l.ks → Sl e2 2 w u b → Calls Try.prog 59 #[.agg #[.int .i64 l.x, .int .i64 l.z, v], u] w fun e w' => e = .returned (.tuple #[.agg #[.int .i64 (totR offR (pulls l b)).1, .int .i64 (totR offR (pulls l b)).2], .int .i64 0]) ∧ Below w.heap.size w w') := fun v u w k1 k2 => by
    have h := LaybackIn_any v u l b w k1 k2 (by omega) (by omega)
    have e : laybackIn l b = (totR offR (pulls l b), 0) := if_pos h1s
    rw [e] at h; exact h
  have HEN : Hid (∀ v u w, Sl e3 3 w v l.ks → Sl e2 2 w u b → Calls Try.prog 60 #[.agg #[.int .i64 l.x, .int .i64 l.z, v], u] w fun e w' => e = .returned (.tuple #[.int .i64 (totR lenR (pulls l b)).2, .int .i64 0]) ∧ Below w.heap.size w w') := fun v u w k1 k2 => by
    have h := EnoughFor_any v u l b w k1 k2 (by omega) (by omega)
    have e : enoughFor l b = ((totR lenR (pulls l b)).2, 0) := if_pos h1s
    rw [e] at h; exact h
  have HLE := Lib.hid (fun v w h1 => LineErr_any v l w h1 (by omega))
  have HBE := Lib.hid (fun v u w h1 h2 => rBoxErr_any v u l b w h1 h2 (by omega))
  have HRP : Hid (∀ v u w, Sl e3 3 w v l.ks → Sl e2 2 w u b → Calls Try.prog 63 #[.agg #[.int .i64 l.x, .int .i64 l.z, v], u] w fun e w' => ∃ r, e = .returned r ∧ Sl e2 2 w' r (loHi l b) ∧ Below w.heap.size w w') := fun v u w k1 k2 =>
    (rPulls_any v u l b w k1 k2 hl hbx).mono fun e w' ⟨r, a, o, d⟩ => ⟨r, a, o.sl e2_len, d⟩
  have HRS : Hid (∀ v u w, Sl e3 3 w v l.ks → Sl e2 2 w u b → Calls Try.prog 64 #[.agg #[.int .i64 l.x, .int .i64 l.z, v], u] w fun e w' => ∃ r, e = .returned r ∧ Sl e2 2 w' r ((pulls l b).map sqR) ∧ Below w.heap.size w w') := fun v u w k1 k2 =>
    (rSquares_any v u l b w k1 k2 hl hbx).mono fun e w' ⟨r, a, o, d⟩ => ⟨r, a, o.sl e2_len, d⟩
  have HSE := Lib.hid (fun v w h1 => rSlackErr_any v l w h1 hl)
  rw [h4] at HLE
  rw [h5] at HBE
  have HRL := Lib.hid (fun v u w k1 k2 => rLaybackIn_any v u l b w k1 k2 hl hbx h3)
  have HRE := Lib.hid (fun v u w k1 k2 => rEnough_any v u l b w k1 k2 hl hbx h3)
  rw [h3] at HSE
  have q1 := eq_range
  clear h1 h3 h4 h5 hl hbx h1s
  generalize totR offR (pulls l b) = tt at *
  generalize (totR lenR (pulls l b)).2 = en at *
  generalize loHi l b = pl at *
  generalize (pulls l b).map sqR = sq at *
  have HRG : Hid (∀ u v w, Sl e2 2 w u pl → Sl e2 2 w v pl → Calls Try.prog 62 #[u, v] w fun e w' => e = .returned (.bool true) ∧ Below w.heap.size w w') := fun u v w h k => by
    have := Ranges_any u v pl pl w h k (by omega) (by omega)
    rwa [eqL_refl] at this
  have HRQ : Hid (∀ u v w, Sl e2 2 w u sq → Sl e2 2 w v sq → Calls Try.prog 62 #[u, v] w fun e w' => e = .returned (.bool true) ∧ Below w.heap.size w w') := fun u v w h k => by
    have := Ranges_any u v sq sq w h k (by omega) (by omega)
    rwa [eqL_refl] at this
  obtain ⟨la, lz⟩ := tt
  simp only at *
  have T2 : Hid True := trivial
  have T3 : Hid True := trivial
  have T5 : Hid True := trivial
  have T6 : Hid True := trivial
  have T8 : Hid True := trivial
  have T9 : Hid True := trivial
  have T17 : Hid True := trivial
  go_enter Try.func8, Try.ntmps8
  go_wp2_with (first
      | (go_at_call 14; refine (awakeB _).mono ?_; rintro e w1 ⟨rfl, b1⟩; have HX := law_hx HS.out (fun W => Sl e2 2 W (.slice A' b.length c') b) (fun W hW => HU.out.below hW) b1; have HXP : ∃ P : World → Prop, Keeps P ∧ P w1 ∧ ∀ W, P W → (W.cell? ⟨w.heap.size, 0, none⟩ = some (.int .i64 l.x) ∧ W.cell? ⟨w.heap.size, 1, none⟩ = some (.int .i64 l.z) ∧ W.cell? ⟨w.heap.size, 2, none⟩ = some (.slice A l.ks.length c)) ∧ Sl e3 3 W (.slice A l.ks.length c) l.ks ∧ Sl e2 2 W (.slice A' b.length c') b ∧ Below w.heap.size w W := ⟨_, (keeps_cells _ _ _ _).and ((keeps_sl _ _ _ _).and ((keeps_sl _ _ _ _).and (keeps_below _))), HX.out _ (Below.refl _ _), fun _ h => h⟩; obtain ⟨P, KP, hP, HPE⟩ := HXP; have K0 := Lib.hid KP; have HPE := Lib.hid HPE; have Q1 := Lib.hid hP; clear b1 HX KP hP; obtain ⟨g0, g1, g2⟩ := (HPE.out _ Q1.out).1)
      | (go_at_call 15; refine (few_any _ l _ _ (HPE.out _ Q1.out).2.1).mono ?_; rintro e w2 ⟨rfl, b2⟩; have Q2 := Lib.hid (K0.out _ _ Q1.out b2); clear b2 g0 g1 g2; obtain ⟨g0, g1, g2⟩ := (HPE.out _ Q2.out).1)
      | (go_at_call 17; clear T2; refine (CopyLine_any _ l _ (HPE.out _ Q2.out).2.1 (by omega)).mono ?_; rintro e w3 ⟨r3, rfl, s3, b3⟩; have K3 := Lib.hid (Keeps.and K0.out (keeps_sl e3 3 r3 l.ks)); have Q3 := Lib.hid (And.intro (K0.out _ _ Q2.out b3) s3); clear b3 s3 g0 g1 g2)
      | (go_at_call 19; clear T3; refine (CopyRanges_any _ b _ (HPE.out _ Q3.out.1).2.2.1 (by omega)).mono ?_; rintro e w4 ⟨r4, rfl, o4, b4⟩; have s4 := o4.sl e2_len; clear o4; have K4 := Lib.hid (Keeps.and K3.out (keeps_sl e2 2 r4 b)); have Q4 := Lib.hid (And.intro (K3.out _ _ Q3.out b4) s4); clear b4 s4)
      | (go_at_call 57; refine (HPI.out _ _ _ (Q4.out.1.2) (Q4.out.2)).mono ?_; rintro e w5 ⟨A5, c5, rfl, s5, b5⟩; have K5 := Lib.hid (Keeps.and K4.out (keeps_sl e2 2 (.slice A5 pl.length c5) pl)); have Q5 := Lib.hid (And.intro (K4.out _ _ Q4.out b5) s5); clear b5 s5; obtain ⟨g0, g1, g2⟩ := (HPE.out _ Q5.out.1.1.1).1)
      | (go_at_call 17; clear T5; refine (CopyLine_any _ l _ (HPE.out _ Q5.out.1.1.1).2.1 (by omega)).mono ?_; rintro e w6 ⟨r6, rfl, s6, b6⟩; have K6 := Lib.hid (Keeps.and K5.out (keeps_sl e3 3 r6 l.ks)); have Q6 := Lib.hid (And.intro (K5.out _ _ Q5.out b6) s6); clear b6 s6 g0 g1 g2)
      | (go_at_call 19; clear T6; refine (CopyRanges_any _ b _ (HPE.out _ Q6.out.1.1.1.1).2.2.1 (by omega)).mono ?_; rintro e w7 ⟨r7, rfl, o7, b7⟩; have s7 := o7.sl e2_len; clear o7; have K7 := Lib.hid (Keeps.and K6.out (keeps_sl e2 2 r7 b)); have Q7 := Lib.hid (And.intro (K6.out _ _ Q6.out b7) s7); clear b7 s7)
      | (go_at_call 58; refine (HSI.out _ _ _ (Q7.out.1.2) (Q7.out.2)).mono ?_; rintro e w8 ⟨A8, c8, rfl, s8, b8⟩; have K8 := Lib.hid (Keeps.and K7.out (keeps_sl e2 2 (.slice A8 sq.length c8) sq)); have Q8 := Lib.hid (And.intro (K7.out _ _ Q7.out b8) s8); clear b8 s8; obtain ⟨g0, g1, g2⟩ := (HPE.out _ Q8.out.1.1.1.1.1.1).1)
      | (go_at_call 17; clear T8; refine (CopyLine_any _ l _ (HPE.out _ Q8.out.1.1.1.1.1.1).2.1 (by omega)).mono ?_; rintro e w9 ⟨r9, rfl, s9, b9⟩; have K9 := Lib.hid (Keeps.and K8.out (keeps_sl e3 3 r9 l.ks)); have Q9 := Lib.hid (And.intro (K8.out _ _ Q8.out b9) s9); clear b9 s9 g0 g1 g2)
      | (go_at_call 19; clear T9; refine (CopyRanges_any _ b _ (HPE.out _ Q9.out.1.1.1.1.1.1.1).2.2.1 (by omega)).mono ?_; rintro e w10 ⟨r10, rfl, o10, b10⟩; have s10 := o10.sl e2_len; clear o10; have K10 := Lib.hid (Keeps.and K9.out (keeps_sl e2 2 r10 b)); have Q10 := Lib.hid (And.intro (K9.out _ _ Q9.out b10) s10); clear b10 s10)
      | (go_at_call 59; refine (HLI.out _ _ _ (Q10.out.1.2) (Q10.out.2)).mono ?_; rintro e w11 ⟨rfl, b11⟩; have K11 := Lib.hid (Keeps.and K10.out (keeps_sl e1 1 (.slice (some ⟨w11.heap.size, 0, none⟩) 2 2) [la, lz])); have Q11 := Lib.hid (And.intro (K10.out _ _ (K10.out _ _ Q10.out b11) (below_alloc1 w11 (.cells #[.int .i64 la, .int .i64 lz] 66))) (sl2 w11 la lz 66)); clear b11; obtain ⟨g0, g1, g2⟩ := (HPE.out _ Q11.out.1.1.1.1.1.1.1.1.1).1)
      | (go_at_call 17; refine (CopyLine_any _ l _ (HPE.out _ Q11.out.1.1.1.1.1.1.1.1.1).2.1 (by omega)).mono ?_; rintro e w12 ⟨r12, rfl, s12, b12⟩; have K12 := Lib.hid (Keeps.and K11.out (keeps_sl e3 3 r12 l.ks)); have Q12 := Lib.hid (And.intro (K11.out _ _ Q11.out b12) s12); clear b12 s12 g0 g1 g2)
      | (go_at_call 19; refine (CopyRanges_any _ b _ (HPE.out _ Q12.out.1.1.1.1.1.1.1.1.1.1).2.2.1 (by omega)).mono ?_; rintro e w13 ⟨r13, rfl, o13, b13⟩; have s13 := o13.sl e2_len; clear o13; have K13 := Lib.hid (Keeps.and K12.out (keeps_sl e2 2 r13 b)); have Q13 := Lib.hid (And.intro (K12.out _ _ Q12.out b13) s13); clear b13 s13)
      | (go_at_call 60; refine (HEN.out _ _ _ (Q13.out.1.2) (Q13.out.2)).mono ?_; rintro e w14 ⟨rfl, b14⟩; have Q14 := Lib.hid (K13.out _ _ Q13.out b14); clear b14; obtain ⟨g0, g1, g2⟩ := (HPE.out _ Q14.out.1.1.1.1.1.1.1.1.1.1.1).1)
      | (go_at_call 33; refine (HLE.out _ _ (HPE.out _ Q14.out.1.1.1.1.1.1.1.1.1.1.1).2.1).mono ?_; rintro e w15 ⟨rfl, b15⟩; have Q15 := Lib.hid (K13.out _ _ Q14.out b15); clear b15 g0 g1 g2; obtain ⟨g0, g1, g2⟩ := (HPE.out _ Q15.out.1.1.1.1.1.1.1.1.1.1.1).1)
      | (go_at_call 61; refine (HBE.out _ _ _ (HPE.out _ Q15.out.1.1.1.1.1.1.1.1.1.1.1).2.1 (HPE.out _ Q15.out.1.1.1.1.1.1.1.1.1.1.1).2.2.1).mono ?_; rintro e w16 ⟨rfl, b16⟩; have Q16 := Lib.hid (K13.out _ _ Q15.out b16); clear b16 g0 g1 g2; obtain ⟨g0, g1, g2⟩ := (HPE.out _ Q16.out.1.1.1.1.1.1.1.1.1.1.1).1)
      | (go_at_call 63; refine (HRP.out _ _ _ (HPE.out _ Q16.out.1.1.1.1.1.1.1.1.1.1.1).2.1 (HPE.out _ Q16.out.1.1.1.1.1.1.1.1.1.1.1).2.2.1).mono ?_; rintro e w17 ⟨r17, rfl, s17, b17⟩; have K17 := Lib.hid (Keeps.and K13.out (keeps_sl e2 2 r17 pl)); have Q17 := Lib.hid (And.intro (K13.out _ _ Q16.out b17) s17); clear b17 s17 g0 g1 g2)
      | (go_at_call 62; clear T17; refine (HRG.out _ _ _ (Q17.out.1.1.1.1.1.1.1.1.1.2) (Q17.out.2)).mono ?_; rintro e w18 ⟨rfl, b18⟩; have Q18 := Lib.hid (K17.out _ _ Q17.out b18); clear b18; obtain ⟨g0, g1, g2⟩ := (HPE.out _ Q18.out.1.1.1.1.1.1.1.1.1.1.1.1).1)
      | (go_at_call 64; refine (HRS.out _ _ _ (HPE.out _ Q18.out.1.1.1.1.1.1.1.1.1.1.1.1).2.1 (HPE.out _ Q18.out.1.1.1.1.1.1.1.1.1.1.1.1).2.2.1).mono ?_; rintro e w19 ⟨r19, rfl, s19, b19⟩; have K19 := Lib.hid (Keeps.and K17.out (keeps_sl e2 2 r19 sq)); have Q19 := Lib.hid (And.intro (K17.out _ _ Q18.out b19) s19); clear b19 s19 g0 g1 g2)
      | (go_at_call 62; refine (HRQ.out _ _ _ (Q19.out.1.1.1.1.1.1.1.2) (Q19.out.2)).mono ?_; rintro e w20 ⟨rfl, b20⟩; have Q20 := Lib.hid (K19.out _ _ Q19.out b20); clear b20; obtain ⟨g0, g1, g2⟩ := (HPE.out _ Q20.out.1.1.1.1.1.1.1.1.1.1.1.1.1).1)
      | (go_at_call 46; refine (HSE.out _ _ (HPE.out _ Q20.out.1.1.1.1.1.1.1.1.1.1.1.1.1).2.1).mono ?_; rintro e w21 ⟨rfl, b21⟩; have Q21 := Lib.hid (K19.out _ _ Q20.out b21); clear b21 g0 g1 g2))
  have HXW : Hid (∀ W, Below w21.drew.heap.size w21.drew W → _) := fun W h => K19.out _ _ Q21.out (Below.trans (Below.drew (Below.refl _ _)) h)
  clear Q1 Q2 Q3 Q4 Q5 Q6 Q7 Q8 Q9 Q10 Q11 Q12 Q13 Q14 Q15 Q16 Q17 Q18 Q19 Q20 Q21 K0 K3 K4 K5 K6 K7 K8 K9 K10 K11 K12 K13 K17 HPI HSI HLI HEN HLE HBE HRP HRS HRG HRQ HSE HS HU f1
  refine wp_region_guard 20 [140, 141, 142, 143, 144, 145, 146, 147, 148, 149, 150, 151, 152, 153, 154, 155, 156, 157, 158, 159] [[], [0], [1], [], [], [], [4, 5], [3, 6], [2, 7], [8], [], [10], [9, 11], [12], [], [], [], [15, 16], [14, 17], [13, 18]] [none, none, none, some true, some true, some true, some true, some true, none, none, some true, some true, none, none, some true, some true, some true, some true, some true, none] [fun v _ => v = .int .i64 0, fun v _ => v = .bool true, fun v _ => v = .bool true, fun v _ => v = .agg #[.int .i64 la, .int .i64 lz], fun v _ => v = .agg #[.int .i64 l.x, .int .i64 l.z, .slice A l.ks.length c], fun v _ => v = .slice A' b.length c', fun v _ => v = .agg #[.int .i64 la, .int .i64 lz], fun v _ => v = .bool true, fun v _ => v = .bool true, fun v _ => v = .bool true, fun v _ => v = .int .i64 0, fun v _ => v = .bool true, fun v _ => v = .bool true, fun v _ => v = .bool true, fun v _ => v = .int .i64 en, fun v _ => v = .agg #[.int .i64 l.x, .int .i64 l.z, .slice A l.ks.length c], fun v _ => v = .slice A' b.length c', fun v _ => v = .int .i64 en, fun v _ => v = .bool true, fun v _ => v = .bool true] (by kernel_rfl) (by kernel_rfl) ⟨st_eq _, st_eq _, st_eq _, st_eq _, st_eq _, st_eq _, st_eq _, st_eq _, st_eq _, st_eq _, st_eq _, st_eq _, st_eq _, st_eq _, st_eq _, st_eq _, st_eq _, st_eq _, st_eq _, st_eq _, trivial⟩ ?_ ?_ ?_
  · exact ⟨trivial, trivial, trivial, fun _ _ h => h, fun _ _ h => h, fun _ _ h => h, fun _ _ h => h, fun _ _ h => h, trivial, trivial, fun _ _ h => h, fun _ _ h => h, trivial, trivial, fun _ _ h => h, fun _ _ h => h, fun _ _ h => h, fun _ _ h => h, fun _ _ h => h, trivial, trivial⟩
  · simp only [List.take_succ_cons, List.take_zero, stepsG, stepG, and_true]
    refine ⟨?_, ?_, ?_, ?_, ?_, ?_, ?_, ?_, ?_, ?_, ?_, ?_, ?_, ?_, ?_, ?_, ?_, ?_, ?_, ?_⟩
    · intro x W hB _; simp only [putX, setX, List.foldl_cons, List.foldl_nil]; refine ⟨?_⟩; go_simp; exact ⟨rfl, Below.refl _ _⟩
    · intro x W hB hN; simp only [needs, sAt, dAt] at hN; simp only [putX, setX, List.foldl_cons, List.foldl_nil]; refine ⟨?_⟩; go_simp; exact ⟨rfl, Below.refl _ _⟩
    · intro x W hB hN; simp only [needs, sAt, dAt] at hN; simp only [putX, setX, List.foldl_cons, List.foldl_nil]; refine ⟨?_⟩; go_simp; exact ⟨rfl, Below.refl _ _⟩
    · intro x W hB _; simp only [putX, setX, List.foldl_cons, List.foldl_nil]; obtain ⟨x0, x1⟩ := box_cells (HXW.out W hB).1.1.1.1.2; refine ⟨?_⟩; go_simp; exact ⟨rfl, Below.refl _ _⟩
    · intro x W hB _; simp only [putX, setX, List.foldl_cons, List.foldl_nil]; obtain ⟨g0, g1, g2⟩ := (HPE.out _ (HXW.out W hB).1.1.1.1.1.1.1.1.1.1.1.1.1).1; refine ⟨?_⟩; go_simp; exact ⟨rfl, Below.refl _ _⟩
    · intro x W hB _; simp only [putX, setX, List.foldl_cons, List.foldl_nil]; refine ⟨?_⟩; go_simp; exact ⟨rfl, Below.refl _ _⟩
    · intro x W hB hN; simp only [needs, sAt, dAt] at hN; simp only [putX, setX, List.foldl_cons, List.foldl_nil]; refine ⟨?_⟩; go_simp; refine (HRL.out _ _ _ (HPE.out _ (HXW.out W hB).1.1.1.1.1.1.1.1.1.1.1.1.1).2.1 (HPE.out _ (HXW.out W hB).1.1.1.1.1.1.1.1.1.1.1.1.1).2.2.1).mono ?_; rintro e w' ⟨rfl, b⟩; exact ⟨_, rfl, rfl, b⟩
    · intro x W hB hN; simp only [needs, sAt, dAt] at hN; simp only [putX, setX, List.foldl_cons, List.foldl_nil]; refine ⟨?_⟩; go_simp; exact ⟨rfl, Below.refl _ _⟩
    · intro x W hB hN; simp only [needs, sAt, dAt] at hN; simp only [putX, setX, List.foldl_cons, List.foldl_nil]; refine ⟨?_⟩; go_simp; exact ⟨rfl, Below.refl _ _⟩
    · intro x W hB hN; simp only [needs, sAt, dAt] at hN; simp only [putX, setX, List.foldl_cons, List.foldl_nil]; refine ⟨?_⟩; go_simp; exact ⟨rfl, Below.refl _ _⟩
    · intro x W hB _; simp only [putX, setX, List.foldl_cons, List.foldl_nil]; refine ⟨?_⟩; go_simp; exact ⟨rfl, Below.refl _ _⟩
    · intro x W hB hN; simp only [needs, sAt, dAt] at hN; simp only [putX, setX, List.foldl_cons, List.foldl_nil]; refine ⟨?_⟩; go_simp; exact ⟨rfl, Below.refl _ _⟩
    · intro x W hB hN; simp only [needs, sAt, dAt] at hN; simp only [putX, setX, List.foldl_cons, List.foldl_nil]; refine ⟨?_⟩; go_simp; exact ⟨rfl, Below.refl _ _⟩
    · intro x W hB hN; simp only [needs, sAt, dAt] at hN; simp only [putX, setX, List.foldl_cons, List.foldl_nil]; refine ⟨?_⟩; go_simp; exact ⟨rfl, Below.refl _ _⟩
    · intro x W hB _; simp only [putX, setX, List.foldl_cons, List.foldl_nil]; refine ⟨?_⟩; go_simp; exact ⟨rfl, Below.refl _ _⟩
    · intro x W hB _; simp only [putX, setX, List.foldl_cons, List.foldl_nil]; obtain ⟨g0, g1, g2⟩ := (HPE.out _ (HXW.out W hB).1.1.1.1.1.1.1.1.1.1.1.1.1).1; refine ⟨?_⟩; go_simp; exact ⟨rfl, Below.refl _ _⟩
    · intro x W hB _; simp only [putX, setX, List.foldl_cons, List.foldl_nil]; refine ⟨?_⟩; go_simp; exact ⟨rfl, Below.refl _ _⟩
    · intro x W hB hN; simp only [needs, sAt, dAt] at hN; simp only [putX, setX, List.foldl_cons, List.foldl_nil]; refine ⟨?_⟩; go_simp; refine (HRE.out _ _ _ (HPE.out _ (HXW.out W hB).1.1.1.1.1.1.1.1.1.1.1.1.1).2.1 (HPE.out _ (HXW.out W hB).1.1.1.1.1.1.1.1.1.1.1.1.1).2.2.1).mono ?_; rintro e w' ⟨rfl, b⟩; exact ⟨_, rfl, rfl, b⟩
    · intro x W hB hN; simp only [needs, sAt, dAt] at hN; simp only [putX, setX, List.foldl_cons, List.foldl_nil]; refine ⟨?_⟩; go_simp; exact ⟨rfl, Below.refl _ _⟩
    · intro x W hB hN; simp only [needs, sAt, dAt] at hN; simp only [putX, setX, List.foldl_cons, List.foldl_nil]; refine ⟨?_⟩; go_simp; exact ⟨rfl, Below.refl _ _⟩
  · intro x W hB hA
    simp only [allSp] at hA
    have r1 := hA.2.2.2.2.2.2.2.2.2.2.2.2.2.2.2.2.2.2.2.1
    have HW := Lib.hid (HXW.out W hB)
    clear hA hB HXW HRL HRE
    simp only [putX, setX, List.foldl_cons, List.foldl_nil, List.drop_succ_cons, List.drop_zero, r1, List.setIfInBounds_toArray, List.set_cons_succ, List.set_cons_zero]
    clear r1
    go_wp2_with fail
    go_ret
    exact ⟨rfl, (HPE.out _ (HW.out).1.1.1.1.1.1.1.1.1.1.1.1.1).2.2.2⟩
theorem boxes_near (v u : Value) (l : Ln) (b : List (Int × Int)) (w : World) (hs : Sl e3 3 w v l.ks) (hu : Sl e2 2 w u b) (hn : l.ks.length ≤ 12) (hc : b.length ≤ 14) :
    Calls Try.prog 8 #[.agg #[.int .i64 l.x, .int .i64 l.z, v], u] w fun e w' => e = .returned (.bool true) ∧ Below w.heap.size w w' := by
  by_cases h1 : boxErr l b = 0
  · by_cases h3 : slackErr l = 0
    · exact boxes_ok v u l b w hs hu hn hc h1 h3
    · exact boxes_slack v u l b w hs hu hn hc h1 h3
  · exact boxes_err v u l b w hs hu hn hc h1
end Go.Proofs.Ytghglgaimhfedaa
