/-
  The law CableShapes, walked: offsets, layback, length, bends and the sharpest bend are as the reference says, or the errors.
-/
import Derived.Test.YtghglgaimhfedaaZNi
import Derived.Test.YtghglgaimhfedaaZKp
import Derived.Test.YtghglgaimhfedaaZMx
import Derived.Test.YtghglgaimhfedaaZMg
namespace Go.Proofs.Ytghglgaimhfedaa
open Go.RowKit Go.Shelf
attribute [local go_sem] monoUpon_value monoUpon_skip monoUpon_enter

set_option maxRecDepth 100000 in
set_option maxHeartbeats 1000000 in
theorem shapes_far (v u : Value) (l : Ln) (cu : List Int) (w : World) (hs : Sl e3 3 w v l.ks) (hu : Sl e1 1 w u cu) (hn : ¬ (l.ks.length ≤ 12 ∧ cu.length ≤ 14)) :
    Calls Try.prog 6 #[.agg #[.int .i64 l.x, .int .i64 l.z, v], u] w fun e w' => e = .returned (.bool true) ∧ Below w.heap.size w w' := by
  have HS := Lib.hid hs
  obtain ⟨A, c, rfl, hcap⟩ := hs.form
  obtain ⟨A', c', rfl, hcap'⟩ := hu.form
  clear hs hu
  have f1 : fewB l.ks.length (cu.length : Int) = false := fewB_false hn
  clear hn hcap hcap'
  go_enter Try.func6, Try.ntmps6
  go_wp2_with (first
    | (go_at_call 14; refine (awakeB _).mono ?_; rintro e w1 ⟨rfl, b1⟩; have HX := law_hx HS.out (fun _ => True) (fun _ _ => trivial) b1; clear b1; have HB1 := Lib.hid (Below.refl w1.heap.size w1); obtain ⟨g0, g1, g2⟩ := (HX.out _ HB1.out).1)
    | (go_at_call 15; refine (few_any _ l _ _ (HX.out _ HB1.out).2.1).mono ?_; rintro e w2 ⟨rfl, b2⟩; have HB2 := Lib.hid (below_tr HB1.out b2); clear b2))
  go_ret
  exact ⟨rfl, (HX.out _ HB2.out).2.2.2⟩
set_option maxRecDepth 100000 in
set_option maxHeartbeats 4000000 in
theorem shapes_err (v u : Value) (l : Ln) (cu : List Int) (w : World) (hs : Sl e3 3 w v l.ks) (hu : Sl e1 1 w u cu) (hn : l.ks.length ≤ 12) (hc : cu.length ≤ 14) (h1 : ¬ shapeErr l cu = 0) :
    Calls Try.prog 6 #[.agg #[.int .i64 l.x, .int .i64 l.z, v], u] w fun e w' => e = .returned (.bool true) ∧ Below w.heap.size w w' := by
  have f1 := fewB_true hn hc
  have HS := Lib.hid hs
  have HU := Lib.hid hu
  obtain ⟨A, c, rfl, hcap⟩ := hs.form
  obtain ⟨A', c', rfl, hcap'⟩ := hu.form
  clear hs hu hcap hcap'
  have HOF : Hid (∀ v u w, Sl e3 3 w v l.ks → Sl e1 1 w u cu → Calls Try.prog 44 #[.agg #[.int .i64 l.x, .int .i64 l.z, v], u] w fun e w' => ∃ A c, e = .returned (.tuple #[.slice A 0 c, .int .i64 (shapeErr l cu)]) ∧ Sl e2 2 w' (.slice A 0 c) [] ∧ Below w.heap.size w w') := fun v u w k1 k2 => by
    have h := OffsetsOf_any v u l cu w k1 k2 (by omega) (by omega)
    have e : offsetsOf l cu = ([], shapeErr l cu) := if_neg h1
    rw [e] at h
    refine h.mono fun e w' ⟨r, a, b, c⟩ => ?_
    have s := b.sl e2_len
    obtain ⟨A, c', rfl, _⟩ := s.form
    exact ⟨A, c', a, s, c⟩
  have HBN : Hid (∀ v u w, Sl e3 3 w v l.ks → Sl e1 1 w u cu → Calls Try.prog 42 #[.agg #[.int .i64 l.x, .int .i64 l.z, v], u] w fun e w' => ∃ A c, e = .returned (.tuple #[.slice A 0 c, .int .i64 (shapeErr l cu)]) ∧ Sl e2 2 w' (.slice A 0 c) [] ∧ Below w.heap.size w w') := fun v u w k1 k2 => by
    have h := BendsOf_any v u l cu w k1 k2 (by omega) (by omega)
    have e : bendsOf l cu = ([], shapeErr l cu) := if_neg h1
    rw [e] at h
    refine h.mono fun e w' ⟨r, a, b, c⟩ => ?_
    have s := b.sl e2_len
    obtain ⟨A, c', rfl, _⟩ := s.form
    exact ⟨A, c', a, s, c⟩
  have HLB : Hid (∀ v u w, Sl e3 3 w v l.ks → Sl e1 1 w u cu → Calls Try.prog 40 #[.agg #[.int .i64 l.x, .int .i64 l.z, v], u] w fun e w' => e = .returned (.tuple #[.agg #[.int .i64 0, .int .i64 0], .int .i64 (shapeErr l cu)]) ∧ Below w.heap.size w w') := fun v u w k1 k2 => by
    have h := LaybackOf_any v u l cu w k1 k2 (by omega) (by omega)
    have e : laybackOf l cu = ((0, 0), shapeErr l cu) := if_neg h1
    rw [e] at h; exact h
  have HLN : Hid (∀ v u w, Sl e3 3 w v l.ks → Sl e1 1 w u cu → Calls Try.prog 41 #[.agg #[.int .i64 l.x, .int .i64 l.z, v], u] w fun e w' => e = .returned (.tuple #[.agg #[.int .i64 0, .int .i64 0], .int .i64 (shapeErr l cu)]) ∧ Below w.heap.size w w') := fun v u w k1 k2 => by
    have h := LengthOf_any v u l cu w k1 k2 (by omega) (by omega)
    have e : lengthOf l cu = ((0, 0), shapeErr l cu) := if_neg h1
    rw [e] at h; exact h
  have HSI : Hid (∀ v u w, Sl e3 3 w v l.ks → Sl e1 1 w u cu → Calls Try.prog 45 #[.agg #[.int .i64 l.x, .int .i64 l.z, v], u] w fun e w' => e = .returned (.tuple #[.int .i64 0, .agg #[.int .i64 0, .int .i64 0], .int .i64 (shapeErr l cu)]) ∧ Below w.heap.size w w') := fun v u w k1 k2 => by
    have h := SharpestIn_any v u l cu w k1 k2 (by omega) (by omega)
    have e : sharpestIn l cu = (0, (0, 0), shapeErr l cu) := if_neg h1
    rw [e] at h; exact h
  have HLE := Lib.hid (fun v w h1 => LineErr_any v l w h1 (by omega))
  have HCE := Lib.hid (fun v u w h1 h2 => rCurrentsErr_any v u l cu w h1 h2 (by omega))
  have h0' := ne1 h1
  have h0'' := eq1 h1
  have q1 := eq_range
  have q2 := eq_frac
  have T2 : Hid True := trivial
  have T3 : Hid True := trivial
  have T5 : Hid True := trivial
  have T6 : Hid True := trivial
  have T8 : Hid True := trivial
  have T9 : Hid True := trivial
  have T11 : Hid True := trivial
  have T12 : Hid True := trivial
  by_cases h4 : lineErr l = 0
  · have hl := lineErr_ok h4
    have HSE := Lib.hid (fun v w h1 => rSlackErr_any v l w h1 hl)
    rw [h4] at HLE
    by_cases h5 : cursErr l cu = 0
    · have e4 : shapeErr l cu = slackErr l := by unfold shapeErr; rw [if_pos (currentsErr_of h4 h5)]
      rw [h5] at HCE
      rw [← e4] at HSE
      clear e4 h4 h5 h1 hl
      generalize shapeErr l cu = d at *
      go_enter Try.func6, Try.ntmps6
      go_wp2_with (first
        | (go_at_call 14; refine (awakeB _).mono ?_; rintro e w1 ⟨rfl, b1⟩; have HX := law_hx HS.out (fun W => Sl e1 1 W (.slice A' cu.length c') cu) (fun W hW => HU.out.below hW) b1; have HXP : ∃ P : World → Prop, Keeps P ∧ P w1 ∧ ∀ W, P W → (W.cell? ⟨w.heap.size, 0, none⟩ = some (.int .i64 l.x) ∧ W.cell? ⟨w.heap.size, 1, none⟩ = some (.int .i64 l.z) ∧ W.cell? ⟨w.heap.size, 2, none⟩ = some (.slice A l.ks.length c)) ∧ Sl e3 3 W (.slice A l.ks.length c) l.ks ∧ Sl e1 1 W (.slice A' cu.length c') cu ∧ Below w.heap.size w W := ⟨_, (keeps_cells _ _ _ _).and ((keeps_sl _ _ _ _).and ((keeps_sl _ _ _ _).and (keeps_below _))), HX.out _ (Below.refl _ _), fun _ h => h⟩; obtain ⟨P, KP, hP, HPE⟩ := HXP; have K0 := Lib.hid KP; have HPE := Lib.hid HPE; have Q1 := Lib.hid hP; clear b1 HX KP hP; obtain ⟨g0, g1, g2⟩ := (HPE.out _ Q1.out).1)
        | (go_at_call 15; refine (few_any _ l _ _ (HPE.out _ Q1.out).2.1).mono ?_; rintro e w2 ⟨rfl, b2⟩; have Q2 := Lib.hid (K0.out _ _ Q1.out b2); clear b2 g0 g1 g2; obtain ⟨g0, g1, g2⟩ := (HPE.out _ Q2.out).1)
        | (go_at_call 17; clear T2; refine (CopyLine_any _ l _ (HPE.out _ Q2.out).2.1 (by omega)).mono ?_; rintro e w3 ⟨r3, rfl, s3, b3⟩; have K3 := Lib.hid (Keeps.and K0.out (keeps_sl e3 3 r3 l.ks)); have Q3 := Lib.hid (And.intro (K0.out _ _ Q2.out b3) s3); clear b3 s3 g0 g1 g2)
        | (go_at_call 29; clear T3; refine (CopyInts_any _ cu _ (HPE.out _ Q3.out.1).2.2.1 (by omega)).mono ?_; rintro e w4 ⟨r4, rfl, o4, b4⟩; have s4 := o4.sl e1_len; clear o4; have K4 := Lib.hid (Keeps.and K3.out (keeps_sl e1 1 r4 cu)); have Q4 := Lib.hid (And.intro (K3.out _ _ Q3.out b4) s4); clear b4 s4)
        | (go_at_call 44; refine (HOF.out _ _ _ (Q4.out.1.2) (Q4.out.2)).mono ?_; rintro e w5 ⟨A5, c5, rfl, s5, b5⟩; have K5 := Lib.hid (Keeps.and K4.out (keeps_sl e2 2 (.slice A5 0 c5) [])); have Q5 := Lib.hid (And.intro (K4.out _ _ Q4.out b5) s5); clear b5 s5; obtain ⟨g0, g1, g2⟩ := (HPE.out _ Q5.out.1.1.1).1)
        | (go_at_call 17; clear T5; refine (CopyLine_any _ l _ (HPE.out _ Q5.out.1.1.1).2.1 (by omega)).mono ?_; rintro e w6 ⟨r6, rfl, s6, b6⟩; have K6 := Lib.hid (Keeps.and K5.out (keeps_sl e3 3 r6 l.ks)); have Q6 := Lib.hid (And.intro (K5.out _ _ Q5.out b6) s6); clear b6 s6 g0 g1 g2)
        | (go_at_call 29; clear T6; refine (CopyInts_any _ cu _ (HPE.out _ Q6.out.1.1.1.1).2.2.1 (by omega)).mono ?_; rintro e w7 ⟨r7, rfl, o7, b7⟩; have s7 := o7.sl e1_len; clear o7; have K7 := Lib.hid (Keeps.and K6.out (keeps_sl e1 1 r7 cu)); have Q7 := Lib.hid (And.intro (K6.out _ _ Q6.out b7) s7); clear b7 s7)
        | (go_at_call 40; refine (HLB.out _ _ _ (Q7.out.1.2) (Q7.out.2)).mono ?_; rintro e w8 ⟨rfl, b8⟩; have K8 := Lib.hid (Keeps.and K7.out (keeps_sl e1 1 (.slice (some ⟨w8.heap.size, 0, none⟩) 2 2) [0, 0])); have Q8 := Lib.hid (And.intro (K7.out _ _ (K7.out _ _ Q7.out b8) (below_alloc1 w8 (.cells #[.int .i64 0, .int .i64 0] 66))) (sl2 w8 0 0 66)); clear b8; obtain ⟨g0, g1, g2⟩ := (HPE.out _ Q8.out.1.1.1.1.1.1).1)
        | (go_at_call 17; clear T8; refine (CopyLine_any _ l _ (HPE.out _ Q8.out.1.1.1.1.1.1).2.1 (by omega)).mono ?_; rintro e w9 ⟨r9, rfl, s9, b9⟩; have K9 := Lib.hid (Keeps.and K8.out (keeps_sl e3 3 r9 l.ks)); have Q9 := Lib.hid (And.intro (K8.out _ _ Q8.out b9) s9); clear b9 s9 g0 g1 g2)
        | (go_at_call 29; clear T9; refine (CopyInts_any _ cu _ (HPE.out _ Q9.out.1.1.1.1.1.1.1).2.2.1 (by omega)).mono ?_; rintro e w10 ⟨r10, rfl, o10, b10⟩; have s10 := o10.sl e1_len; clear o10; have K10 := Lib.hid (Keeps.and K9.out (keeps_sl e1 1 r10 cu)); have Q10 := Lib.hid (And.intro (K9.out _ _ Q9.out b10) s10); clear b10 s10)
        | (go_at_call 41; refine (HLN.out _ _ _ (Q10.out.1.2) (Q10.out.2)).mono ?_; rintro e w11 ⟨rfl, b11⟩; have K11 := Lib.hid (Keeps.and K10.out (keeps_sl e1 1 (.slice (some ⟨w11.heap.size, 0, none⟩) 2 2) [0, 0])); have Q11 := Lib.hid (And.intro (K10.out _ _ (K10.out _ _ Q10.out b11) (below_alloc1 w11 (.cells #[.int .i64 0, .int .i64 0] 66))) (sl2 w11 0 0 66)); clear b11; obtain ⟨g0, g1, g2⟩ := (HPE.out _ Q11.out.1.1.1.1.1.1.1.1.1).1)
        | (go_at_call 17; clear T11; refine (CopyLine_any _ l _ (HPE.out _ Q11.out.1.1.1.1.1.1.1.1.1).2.1 (by omega)).mono ?_; rintro e w12 ⟨r12, rfl, s12, b12⟩; have K12 := Lib.hid (Keeps.and K11.out (keeps_sl e3 3 r12 l.ks)); have Q12 := Lib.hid (And.intro (K11.out _ _ Q11.out b12) s12); clear b12 s12 g0 g1 g2)
        | (go_at_call 29; clear T12; refine (CopyInts_any _ cu _ (HPE.out _ Q12.out.1.1.1.1.1.1.1.1.1.1).2.2.1 (by omega)).mono ?_; rintro e w13 ⟨r13, rfl, o13, b13⟩; have s13 := o13.sl e1_len; clear o13; have K13 := Lib.hid (Keeps.and K12.out (keeps_sl e1 1 r13 cu)); have Q13 := Lib.hid (And.intro (K12.out _ _ Q12.out b13) s13); clear b13 s13)
        | (go_at_call 42; refine (HBN.out _ _ _ (Q13.out.1.2) (Q13.out.2)).mono ?_; rintro e w14 ⟨A14, c14, rfl, s14, b14⟩; have K14 := Lib.hid (Keeps.and K13.out (keeps_sl e2 2 (.slice A14 0 c14) [])); have Q14 := Lib.hid (And.intro (K13.out _ _ Q13.out b14) s14); clear b14 s14; obtain ⟨g0, g1, g2⟩ := (HPE.out _ Q14.out.1.1.1.1.1.1.1.1.1.1.1.1).1)
        | (go_at_call 17; refine (CopyLine_any _ l _ (HPE.out _ Q14.out.1.1.1.1.1.1.1.1.1.1.1.1).2.1 (by omega)).mono ?_; rintro e w15 ⟨r15, rfl, s15, b15⟩; have K15 := Lib.hid (Keeps.and K14.out (keeps_sl e3 3 r15 l.ks)); have Q15 := Lib.hid (And.intro (K14.out _ _ Q14.out b15) s15); clear b15 s15 g0 g1 g2)
        | (go_at_call 29; refine (CopyInts_any _ cu _ (HPE.out _ Q15.out.1.1.1.1.1.1.1.1.1.1.1.1.1).2.2.1 (by omega)).mono ?_; rintro e w16 ⟨r16, rfl, o16, b16⟩; have s16 := o16.sl e1_len; clear o16; have K16 := Lib.hid (Keeps.and K15.out (keeps_sl e1 1 r16 cu)); have Q16 := Lib.hid (And.intro (K15.out _ _ Q15.out b16) s16); clear b16 s16)
        | (go_at_call 45; refine (HSI.out _ _ _ (Q16.out.1.2) (Q16.out.2)).mono ?_; rintro e w17 ⟨rfl, b17⟩; have K17 := Lib.hid (Keeps.and (Keeps.and K16.out (keeps_sl e1 1 (.slice (some ⟨w17.heap.size, 0, none⟩) 2 2) [0, 0])) (keeps_sl e1 1 (.slice (some ⟨w17.heap.size + 1, 0, none⟩) 2 2) [0, 0])); have Q17 := Lib.hid (And.intro (And.intro (K16.out _ _ (K16.out _ _ Q16.out b17) (below_al (below_alloc1 w17 (.cells #[.int .i64 0, .int .i64 0] 75)) (.cells #[.int .i64 0, .int .i64 0] 66))) ((sl2 w17 0 0 75).alloc (.cells #[.int .i64 0, .int .i64 0] 66))) ((show Sl e1 1 _ (.slice (some ⟨w17.heap.size + 1, 0, none⟩) 2 2) [0, 0] from (by have h := sl2 (w17.alloc (.cells #[.int .i64 0, .int .i64 0] 75)) 0 0 66; simpa using h)))); clear b17; obtain ⟨g0, g1, g2⟩ := (HPE.out _ Q17.out.1.1.1.1.1.1.1.1.1.1.1.1.1.1.1.1).1)
        | (go_at_call 33; refine (HLE.out _ _ (HPE.out _ Q17.out.1.1.1.1.1.1.1.1.1.1.1.1.1.1.1.1).2.1).mono ?_; rintro e w18 ⟨rfl, b18⟩; have Q18 := Lib.hid (K17.out _ _ Q17.out b18); clear b18 g0 g1 g2; obtain ⟨g0, g1, g2⟩ := (HPE.out _ Q18.out.1.1.1.1.1.1.1.1.1.1.1.1.1.1.1.1).1; obtain ⟨x0, x1⟩ := box_cells (Q18.out.1.1.1.1.1.1.1.1.1.1.2); obtain ⟨x2, x3⟩ := box_cells (Q18.out.1.1.1.1.1.1.1.2); obtain ⟨x4, x5⟩ := box_cells (Q18.out.1.2); obtain ⟨x6, x7⟩ := box_cells (Q18.out.2))
        | (go_at_call 34; refine (HCE.out _ _ _ (HPE.out _ Q18.out.1.1.1.1.1.1.1.1.1.1.1.1.1.1.1.1).2.1 (HPE.out _ Q18.out.1.1.1.1.1.1.1.1.1.1.1.1.1.1.1.1).2.2.1).mono ?_; rintro e w19 ⟨rfl, b19⟩; have Q19 := Lib.hid (K17.out _ _ Q18.out b19); clear b19 g0 g1 g2 x0 x1 x2 x3 x4 x5 x6 x7; obtain ⟨g0, g1, g2⟩ := (HPE.out _ Q19.out.1.1.1.1.1.1.1.1.1.1.1.1.1.1.1.1).1; obtain ⟨x0, x1⟩ := box_cells (Q19.out.1.1.1.1.1.1.1.1.1.1.2); obtain ⟨x2, x3⟩ := box_cells (Q19.out.1.1.1.1.1.1.1.2); obtain ⟨x4, x5⟩ := box_cells (Q19.out.1.2); obtain ⟨x6, x7⟩ := box_cells (Q19.out.2))
        | (go_at_call 46; refine (HSE.out _ _ (HPE.out _ Q19.out.1.1.1.1.1.1.1.1.1.1.1.1.1.1.1.1).2.1).mono ?_; rintro e w20 ⟨rfl, b20⟩; have Q20 := Lib.hid (K17.out _ _ Q19.out b20); clear b20 g0 g1 g2 x0 x1 x2 x3 x4 x5 x6 x7; obtain ⟨g0, g1, g2⟩ := (HPE.out _ Q20.out.1.1.1.1.1.1.1.1.1.1.1.1.1.1.1.1).1; obtain ⟨x0, x1⟩ := box_cells (Q20.out.1.1.1.1.1.1.1.1.1.1.2); obtain ⟨x2, x3⟩ := box_cells (Q20.out.1.1.1.1.1.1.1.2); obtain ⟨x4, x5⟩ := box_cells (Q20.out.1.2); obtain ⟨x6, x7⟩ := box_cells (Q20.out.2)))
      go_ret
      exact ⟨rfl, (HPE.out _ Q20.out.1.1.1.1.1.1.1.1.1.1.1.1.1.1.1.1).2.2.2⟩
    · have e5 : currentsErr l cu = cursErr l cu := if_pos h4
      have e4 : shapeErr l cu = cursErr l cu := by unfold shapeErr; rw [e5, if_neg h5]
      rw [← e4] at HCE
      clear e4 e5 h4 h5 h1 hl
      generalize shapeErr l cu = d at *
      go_enter Try.func6, Try.ntmps6
      go_wp2_with (first
        | (go_at_call 14; refine (awakeB _).mono ?_; rintro e w1 ⟨rfl, b1⟩; have HX := law_hx HS.out (fun W => Sl e1 1 W (.slice A' cu.length c') cu) (fun W hW => HU.out.below hW) b1; have HXP : ∃ P : World → Prop, Keeps P ∧ P w1 ∧ ∀ W, P W → (W.cell? ⟨w.heap.size, 0, none⟩ = some (.int .i64 l.x) ∧ W.cell? ⟨w.heap.size, 1, none⟩ = some (.int .i64 l.z) ∧ W.cell? ⟨w.heap.size, 2, none⟩ = some (.slice A l.ks.length c)) ∧ Sl e3 3 W (.slice A l.ks.length c) l.ks ∧ Sl e1 1 W (.slice A' cu.length c') cu ∧ Below w.heap.size w W := ⟨_, (keeps_cells _ _ _ _).and ((keeps_sl _ _ _ _).and ((keeps_sl _ _ _ _).and (keeps_below _))), HX.out _ (Below.refl _ _), fun _ h => h⟩; obtain ⟨P, KP, hP, HPE⟩ := HXP; have K0 := Lib.hid KP; have HPE := Lib.hid HPE; have Q1 := Lib.hid hP; clear b1 HX KP hP; obtain ⟨g0, g1, g2⟩ := (HPE.out _ Q1.out).1)
        | (go_at_call 15; refine (few_any _ l _ _ (HPE.out _ Q1.out).2.1).mono ?_; rintro e w2 ⟨rfl, b2⟩; have Q2 := Lib.hid (K0.out _ _ Q1.out b2); clear b2 g0 g1 g2; obtain ⟨g0, g1, g2⟩ := (HPE.out _ Q2.out).1)
        | (go_at_call 17; clear T2; refine (CopyLine_any _ l _ (HPE.out _ Q2.out).2.1 (by omega)).mono ?_; rintro e w3 ⟨r3, rfl, s3, b3⟩; have K3 := Lib.hid (Keeps.and K0.out (keeps_sl e3 3 r3 l.ks)); have Q3 := Lib.hid (And.intro (K0.out _ _ Q2.out b3) s3); clear b3 s3 g0 g1 g2)
        | (go_at_call 29; clear T3; refine (CopyInts_any _ cu _ (HPE.out _ Q3.out.1).2.2.1 (by omega)).mono ?_; rintro e w4 ⟨r4, rfl, o4, b4⟩; have s4 := o4.sl e1_len; clear o4; have K4 := Lib.hid (Keeps.and K3.out (keeps_sl e1 1 r4 cu)); have Q4 := Lib.hid (And.intro (K3.out _ _ Q3.out b4) s4); clear b4 s4)
        | (go_at_call 44; refine (HOF.out _ _ _ (Q4.out.1.2) (Q4.out.2)).mono ?_; rintro e w5 ⟨A5, c5, rfl, s5, b5⟩; have K5 := Lib.hid (Keeps.and K4.out (keeps_sl e2 2 (.slice A5 0 c5) [])); have Q5 := Lib.hid (And.intro (K4.out _ _ Q4.out b5) s5); clear b5 s5; obtain ⟨g0, g1, g2⟩ := (HPE.out _ Q5.out.1.1.1).1)
        | (go_at_call 17; clear T5; refine (CopyLine_any _ l _ (HPE.out _ Q5.out.1.1.1).2.1 (by omega)).mono ?_; rintro e w6 ⟨r6, rfl, s6, b6⟩; have K6 := Lib.hid (Keeps.and K5.out (keeps_sl e3 3 r6 l.ks)); have Q6 := Lib.hid (And.intro (K5.out _ _ Q5.out b6) s6); clear b6 s6 g0 g1 g2)
        | (go_at_call 29; clear T6; refine (CopyInts_any _ cu _ (HPE.out _ Q6.out.1.1.1.1).2.2.1 (by omega)).mono ?_; rintro e w7 ⟨r7, rfl, o7, b7⟩; have s7 := o7.sl e1_len; clear o7; have K7 := Lib.hid (Keeps.and K6.out (keeps_sl e1 1 r7 cu)); have Q7 := Lib.hid (And.intro (K6.out _ _ Q6.out b7) s7); clear b7 s7)
        | (go_at_call 40; refine (HLB.out _ _ _ (Q7.out.1.2) (Q7.out.2)).mono ?_; rintro e w8 ⟨rfl, b8⟩; have K8 := Lib.hid (Keeps.and K7.out (keeps_sl e1 1 (.slice (some ⟨w8.heap.size, 0, none⟩) 2 2) [0, 0])); have Q8 := Lib.hid (And.intro (K7.out _ _ (K7.out _ _ Q7.out b8) (below_alloc1 w8 (.cells #[.int .i64 0, .int .i64 0] 66))) (sl2 w8 0 0 66)); clear b8; obtain ⟨g0, g1, g2⟩ := (HPE.out _ Q8.out.1.1.1.1.1.1).1)
        | (go_at_call 17; clear T8; refine (CopyLine_any _ l _ (HPE.out _ Q8.out.1.1.1.1.1.1).2.1 (by omega)).mono ?_; rintro e w9 ⟨r9, rfl, s9, b9⟩; have K9 := Lib.hid (Keeps.and K8.out (keeps_sl e3 3 r9 l.ks)); have Q9 := Lib.hid (And.intro (K8.out _ _ Q8.out b9) s9); clear b9 s9 g0 g1 g2)
        | (go_at_call 29; clear T9; refine (CopyInts_any _ cu _ (HPE.out _ Q9.out.1.1.1.1.1.1.1).2.2.1 (by omega)).mono ?_; rintro e w10 ⟨r10, rfl, o10, b10⟩; have s10 := o10.sl e1_len; clear o10; have K10 := Lib.hid (Keeps.and K9.out (keeps_sl e1 1 r10 cu)); have Q10 := Lib.hid (And.intro (K9.out _ _ Q9.out b10) s10); clear b10 s10)
        | (go_at_call 41; refine (HLN.out _ _ _ (Q10.out.1.2) (Q10.out.2)).mono ?_; rintro e w11 ⟨rfl, b11⟩; have K11 := Lib.hid (Keeps.and K10.out (keeps_sl e1 1 (.slice (some ⟨w11.heap.size, 0, none⟩) 2 2) [0, 0])); have Q11 := Lib.hid (And.intro (K10.out _ _ (K10.out _ _ Q10.out b11) (below_alloc1 w11 (.cells #[.int .i64 0, .int .i64 0] 66))) (sl2 w11 0 0 66)); clear b11; obtain ⟨g0, g1, g2⟩ := (HPE.out _ Q11.out.1.1.1.1.1.1.1.1.1).1)
        | (go_at_call 17; clear T11; refine (CopyLine_any _ l _ (HPE.out _ Q11.out.1.1.1.1.1.1.1.1.1).2.1 (by omega)).mono ?_; rintro e w12 ⟨r12, rfl, s12, b12⟩; have K12 := Lib.hid (Keeps.and K11.out (keeps_sl e3 3 r12 l.ks)); have Q12 := Lib.hid (And.intro (K11.out _ _ Q11.out b12) s12); clear b12 s12 g0 g1 g2)
        | (go_at_call 29; clear T12; refine (CopyInts_any _ cu _ (HPE.out _ Q12.out.1.1.1.1.1.1.1.1.1.1).2.2.1 (by omega)).mono ?_; rintro e w13 ⟨r13, rfl, o13, b13⟩; have s13 := o13.sl e1_len; clear o13; have K13 := Lib.hid (Keeps.and K12.out (keeps_sl e1 1 r13 cu)); have Q13 := Lib.hid (And.intro (K12.out _ _ Q12.out b13) s13); clear b13 s13)
        | (go_at_call 42; refine (HBN.out _ _ _ (Q13.out.1.2) (Q13.out.2)).mono ?_; rintro e w14 ⟨A14, c14, rfl, s14, b14⟩; have K14 := Lib.hid (Keeps.and K13.out (keeps_sl e2 2 (.slice A14 0 c14) [])); have Q14 := Lib.hid (And.intro (K13.out _ _ Q13.out b14) s14); clear b14 s14; obtain ⟨g0, g1, g2⟩ := (HPE.out _ Q14.out.1.1.1.1.1.1.1.1.1.1.1.1).1)
        | (go_at_call 17; refine (CopyLine_any _ l _ (HPE.out _ Q14.out.1.1.1.1.1.1.1.1.1.1.1.1).2.1 (by omega)).mono ?_; rintro e w15 ⟨r15, rfl, s15, b15⟩; have K15 := Lib.hid (Keeps.and K14.out (keeps_sl e3 3 r15 l.ks)); have Q15 := Lib.hid (And.intro (K14.out _ _ Q14.out b15) s15); clear b15 s15 g0 g1 g2)
        | (go_at_call 29; refine (CopyInts_any _ cu _ (HPE.out _ Q15.out.1.1.1.1.1.1.1.1.1.1.1.1.1).2.2.1 (by omega)).mono ?_; rintro e w16 ⟨r16, rfl, o16, b16⟩; have s16 := o16.sl e1_len; clear o16; have K16 := Lib.hid (Keeps.and K15.out (keeps_sl e1 1 r16 cu)); have Q16 := Lib.hid (And.intro (K15.out _ _ Q15.out b16) s16); clear b16 s16)
        | (go_at_call 45; refine (HSI.out _ _ _ (Q16.out.1.2) (Q16.out.2)).mono ?_; rintro e w17 ⟨rfl, b17⟩; have K17 := Lib.hid (Keeps.and (Keeps.and K16.out (keeps_sl e1 1 (.slice (some ⟨w17.heap.size, 0, none⟩) 2 2) [0, 0])) (keeps_sl e1 1 (.slice (some ⟨w17.heap.size + 1, 0, none⟩) 2 2) [0, 0])); have Q17 := Lib.hid (And.intro (And.intro (K16.out _ _ (K16.out _ _ Q16.out b17) (below_al (below_alloc1 w17 (.cells #[.int .i64 0, .int .i64 0] 75)) (.cells #[.int .i64 0, .int .i64 0] 66))) ((sl2 w17 0 0 75).alloc (.cells #[.int .i64 0, .int .i64 0] 66))) ((show Sl e1 1 _ (.slice (some ⟨w17.heap.size + 1, 0, none⟩) 2 2) [0, 0] from (by have h := sl2 (w17.alloc (.cells #[.int .i64 0, .int .i64 0] 75)) 0 0 66; simpa using h)))); clear b17; obtain ⟨g0, g1, g2⟩ := (HPE.out _ Q17.out.1.1.1.1.1.1.1.1.1.1.1.1.1.1.1.1).1)
        | (go_at_call 33; refine (HLE.out _ _ (HPE.out _ Q17.out.1.1.1.1.1.1.1.1.1.1.1.1.1.1.1.1).2.1).mono ?_; rintro e w18 ⟨rfl, b18⟩; have Q18 := Lib.hid (K17.out _ _ Q17.out b18); clear b18 g0 g1 g2; obtain ⟨g0, g1, g2⟩ := (HPE.out _ Q18.out.1.1.1.1.1.1.1.1.1.1.1.1.1.1.1.1).1; obtain ⟨x0, x1⟩ := box_cells (Q18.out.1.1.1.1.1.1.1.1.1.1.2); obtain ⟨x2, x3⟩ := box_cells (Q18.out.1.1.1.1.1.1.1.2); obtain ⟨x4, x5⟩ := box_cells (Q18.out.1.2); obtain ⟨x6, x7⟩ := box_cells (Q18.out.2))
        | (go_at_call 34; refine (HCE.out _ _ _ (HPE.out _ Q18.out.1.1.1.1.1.1.1.1.1.1.1.1.1.1.1.1).2.1 (HPE.out _ Q18.out.1.1.1.1.1.1.1.1.1.1.1.1.1.1.1.1).2.2.1).mono ?_; rintro e w19 ⟨rfl, b19⟩; have Q19 := Lib.hid (K17.out _ _ Q18.out b19); clear b19 g0 g1 g2 x0 x1 x2 x3 x4 x5 x6 x7; obtain ⟨g0, g1, g2⟩ := (HPE.out _ Q19.out.1.1.1.1.1.1.1.1.1.1.1.1.1.1.1.1).1; obtain ⟨x0, x1⟩ := box_cells (Q19.out.1.1.1.1.1.1.1.1.1.1.2); obtain ⟨x2, x3⟩ := box_cells (Q19.out.1.1.1.1.1.1.1.2); obtain ⟨x4, x5⟩ := box_cells (Q19.out.1.2); obtain ⟨x6, x7⟩ := box_cells (Q19.out.2))
        | (go_at_call 46; refine (HSE.out _ _ (HPE.out _ Q19.out.1.1.1.1.1.1.1.1.1.1.1.1.1.1.1.1).2.1).mono ?_; rintro e w20 ⟨rfl, b20⟩; have Q20 := Lib.hid (K17.out _ _ Q19.out b20); clear b20 g0 g1 g2 x0 x1 x2 x3 x4 x5 x6 x7; obtain ⟨g0, g1, g2⟩ := (HPE.out _ Q20.out.1.1.1.1.1.1.1.1.1.1.1.1.1.1.1.1).1; obtain ⟨x0, x1⟩ := box_cells (Q20.out.1.1.1.1.1.1.1.1.1.1.2); obtain ⟨x2, x3⟩ := box_cells (Q20.out.1.1.1.1.1.1.1.2); obtain ⟨x4, x5⟩ := box_cells (Q20.out.1.2); obtain ⟨x6, x7⟩ := box_cells (Q20.out.2)))
      go_ret
      exact ⟨rfl, (HPE.out _ Q19.out.1.1.1.1.1.1.1.1.1.1.1.1.1.1.1.1).2.2.2⟩
  · have e5 : currentsErr l cu = lineErr l := if_neg h4
    have e4 : shapeErr l cu = lineErr l := by unfold shapeErr; rw [e5, if_neg h4]
    rw [← e4] at HLE
    clear e4 e5 h4 h1
    generalize shapeErr l cu = d at *
    go_enter Try.func6, Try.ntmps6
    go_wp2_with (first
        | (go_at_call 14; refine (awakeB _).mono ?_; rintro e w1 ⟨rfl, b1⟩; have HX := law_hx HS.out (fun W => Sl e1 1 W (.slice A' cu.length c') cu) (fun W hW => HU.out.below hW) b1; have HXP : ∃ P : World → Prop, Keeps P ∧ P w1 ∧ ∀ W, P W → (W.cell? ⟨w.heap.size, 0, none⟩ = some (.int .i64 l.x) ∧ W.cell? ⟨w.heap.size, 1, none⟩ = some (.int .i64 l.z) ∧ W.cell? ⟨w.heap.size, 2, none⟩ = some (.slice A l.ks.length c)) ∧ Sl e3 3 W (.slice A l.ks.length c) l.ks ∧ Sl e1 1 W (.slice A' cu.length c') cu ∧ Below w.heap.size w W := ⟨_, (keeps_cells _ _ _ _).and ((keeps_sl _ _ _ _).and ((keeps_sl _ _ _ _).and (keeps_below _))), HX.out _ (Below.refl _ _), fun _ h => h⟩; obtain ⟨P, KP, hP, HPE⟩ := HXP; have K0 := Lib.hid KP; have HPE := Lib.hid HPE; have Q1 := Lib.hid hP; clear b1 HX KP hP; obtain ⟨g0, g1, g2⟩ := (HPE.out _ Q1.out).1)
        | (go_at_call 15; refine (few_any _ l _ _ (HPE.out _ Q1.out).2.1).mono ?_; rintro e w2 ⟨rfl, b2⟩; have Q2 := Lib.hid (K0.out _ _ Q1.out b2); clear b2 g0 g1 g2; obtain ⟨g0, g1, g2⟩ := (HPE.out _ Q2.out).1)
        | (go_at_call 17; clear T2; refine (CopyLine_any _ l _ (HPE.out _ Q2.out).2.1 (by omega)).mono ?_; rintro e w3 ⟨r3, rfl, s3, b3⟩; have K3 := Lib.hid (Keeps.and K0.out (keeps_sl e3 3 r3 l.ks)); have Q3 := Lib.hid (And.intro (K0.out _ _ Q2.out b3) s3); clear b3 s3 g0 g1 g2)
        | (go_at_call 29; clear T3; refine (CopyInts_any _ cu _ (HPE.out _ Q3.out.1).2.2.1 (by omega)).mono ?_; rintro e w4 ⟨r4, rfl, o4, b4⟩; have s4 := o4.sl e1_len; clear o4; have K4 := Lib.hid (Keeps.and K3.out (keeps_sl e1 1 r4 cu)); have Q4 := Lib.hid (And.intro (K3.out _ _ Q3.out b4) s4); clear b4 s4)
        | (go_at_call 44; refine (HOF.out _ _ _ (Q4.out.1.2) (Q4.out.2)).mono ?_; rintro e w5 ⟨A5, c5, rfl, s5, b5⟩; have K5 := Lib.hid (Keeps.and K4.out (keeps_sl e2 2 (.slice A5 0 c5) [])); have Q5 := Lib.hid (And.intro (K4.out _ _ Q4.out b5) s5); clear b5 s5; obtain ⟨g0, g1, g2⟩ := (HPE.out _ Q5.out.1.1.1).1)
        | (go_at_call 17; clear T5; refine (CopyLine_any _ l _ (HPE.out _ Q5.out.1.1.1).2.1 (by omega)).mono ?_; rintro e w6 ⟨r6, rfl, s6, b6⟩; have K6 := Lib.hid (Keeps.and K5.out (keeps_sl e3 3 r6 l.ks)); have Q6 := Lib.hid (And.intro (K5.out _ _ Q5.out b6) s6); clear b6 s6 g0 g1 g2)
        | (go_at_call 29; clear T6; refine (CopyInts_any _ cu _ (HPE.out _ Q6.out.1.1.1.1).2.2.1 (by omega)).mono ?_; rintro e w7 ⟨r7, rfl, o7, b7⟩; have s7 := o7.sl e1_len; clear o7; have K7 := Lib.hid (Keeps.and K6.out (keeps_sl e1 1 r7 cu)); have Q7 := Lib.hid (And.intro (K6.out _ _ Q6.out b7) s7); clear b7 s7)
        | (go_at_call 40; refine (HLB.out _ _ _ (Q7.out.1.2) (Q7.out.2)).mono ?_; rintro e w8 ⟨rfl, b8⟩; have K8 := Lib.hid (Keeps.and K7.out (keeps_sl e1 1 (.slice (some ⟨w8.heap.size, 0, none⟩) 2 2) [0, 0])); have Q8 := Lib.hid (And.intro (K7.out _ _ (K7.out _ _ Q7.out b8) (below_alloc1 w8 (.cells #[.int .i64 0, .int .i64 0] 66))) (sl2 w8 0 0 66)); clear b8; obtain ⟨g0, g1, g2⟩ := (HPE.out _ Q8.out.1.1.1.1.1.1).1)
        | (go_at_call 17; clear T8; refine (CopyLine_any _ l _ (HPE.out _ Q8.out.1.1.1.1.1.1).2.1 (by omega)).mono ?_; rintro e w9 ⟨r9, rfl, s9, b9⟩; have K9 := Lib.hid (Keeps.and K8.out (keeps_sl e3 3 r9 l.ks)); have Q9 := Lib.hid (And.intro (K8.out _ _ Q8.out b9) s9); clear b9 s9 g0 g1 g2)
        | (go_at_call 29; clear T9; refine (CopyInts_any _ cu _ (HPE.out _ Q9.out.1.1.1.1.1.1.1).2.2.1 (by omega)).mono ?_; rintro e w10 ⟨r10, rfl, o10, b10⟩; have s10 := o10.sl e1_len; clear o10; have K10 := Lib.hid (Keeps.and K9.out (keeps_sl e1 1 r10 cu)); have Q10 := Lib.hid (And.intro (K9.out _ _ Q9.out b10) s10); clear b10 s10)
        | (go_at_call 41; refine (HLN.out _ _ _ (Q10.out.1.2) (Q10.out.2)).mono ?_; rintro e w11 ⟨rfl, b11⟩; have K11 := Lib.hid (Keeps.and K10.out (keeps_sl e1 1 (.slice (some ⟨w11.heap.size, 0, none⟩) 2 2) [0, 0])); have Q11 := Lib.hid (And.intro (K10.out _ _ (K10.out _ _ Q10.out b11) (below_alloc1 w11 (.cells #[.int .i64 0, .int .i64 0] 66))) (sl2 w11 0 0 66)); clear b11; obtain ⟨g0, g1, g2⟩ := (HPE.out _ Q11.out.1.1.1.1.1.1.1.1.1).1)
        | (go_at_call 17; clear T11; refine (CopyLine_any _ l _ (HPE.out _ Q11.out.1.1.1.1.1.1.1.1.1).2.1 (by omega)).mono ?_; rintro e w12 ⟨r12, rfl, s12, b12⟩; have K12 := Lib.hid (Keeps.and K11.out (keeps_sl e3 3 r12 l.ks)); have Q12 := Lib.hid (And.intro (K11.out _ _ Q11.out b12) s12); clear b12 s12 g0 g1 g2)
        | (go_at_call 29; clear T12; refine (CopyInts_any _ cu _ (HPE.out _ Q12.out.1.1.1.1.1.1.1.1.1.1).2.2.1 (by omega)).mono ?_; rintro e w13 ⟨r13, rfl, o13, b13⟩; have s13 := o13.sl e1_len; clear o13; have K13 := Lib.hid (Keeps.and K12.out (keeps_sl e1 1 r13 cu)); have Q13 := Lib.hid (And.intro (K12.out _ _ Q12.out b13) s13); clear b13 s13)
        | (go_at_call 42; refine (HBN.out _ _ _ (Q13.out.1.2) (Q13.out.2)).mono ?_; rintro e w14 ⟨A14, c14, rfl, s14, b14⟩; have K14 := Lib.hid (Keeps.and K13.out (keeps_sl e2 2 (.slice A14 0 c14) [])); have Q14 := Lib.hid (And.intro (K13.out _ _ Q13.out b14) s14); clear b14 s14; obtain ⟨g0, g1, g2⟩ := (HPE.out _ Q14.out.1.1.1.1.1.1.1.1.1.1.1.1).1)
        | (go_at_call 17; refine (CopyLine_any _ l _ (HPE.out _ Q14.out.1.1.1.1.1.1.1.1.1.1.1.1).2.1 (by omega)).mono ?_; rintro e w15 ⟨r15, rfl, s15, b15⟩; have K15 := Lib.hid (Keeps.and K14.out (keeps_sl e3 3 r15 l.ks)); have Q15 := Lib.hid (And.intro (K14.out _ _ Q14.out b15) s15); clear b15 s15 g0 g1 g2)
        | (go_at_call 29; refine (CopyInts_any _ cu _ (HPE.out _ Q15.out.1.1.1.1.1.1.1.1.1.1.1.1.1).2.2.1 (by omega)).mono ?_; rintro e w16 ⟨r16, rfl, o16, b16⟩; have s16 := o16.sl e1_len; clear o16; have K16 := Lib.hid (Keeps.and K15.out (keeps_sl e1 1 r16 cu)); have Q16 := Lib.hid (And.intro (K15.out _ _ Q15.out b16) s16); clear b16 s16)
        | (go_at_call 45; refine (HSI.out _ _ _ (Q16.out.1.2) (Q16.out.2)).mono ?_; rintro e w17 ⟨rfl, b17⟩; have K17 := Lib.hid (Keeps.and (Keeps.and K16.out (keeps_sl e1 1 (.slice (some ⟨w17.heap.size, 0, none⟩) 2 2) [0, 0])) (keeps_sl e1 1 (.slice (some ⟨w17.heap.size + 1, 0, none⟩) 2 2) [0, 0])); have Q17 := Lib.hid (And.intro (And.intro (K16.out _ _ (K16.out _ _ Q16.out b17) (below_al (below_alloc1 w17 (.cells #[.int .i64 0, .int .i64 0] 75)) (.cells #[.int .i64 0, .int .i64 0] 66))) ((sl2 w17 0 0 75).alloc (.cells #[.int .i64 0, .int .i64 0] 66))) ((show Sl e1 1 _ (.slice (some ⟨w17.heap.size + 1, 0, none⟩) 2 2) [0, 0] from (by have h := sl2 (w17.alloc (.cells #[.int .i64 0, .int .i64 0] 75)) 0 0 66; simpa using h)))); clear b17; obtain ⟨g0, g1, g2⟩ := (HPE.out _ Q17.out.1.1.1.1.1.1.1.1.1.1.1.1.1.1.1.1).1)
        | (go_at_call 33; refine (HLE.out _ _ (HPE.out _ Q17.out.1.1.1.1.1.1.1.1.1.1.1.1.1.1.1.1).2.1).mono ?_; rintro e w18 ⟨rfl, b18⟩; have Q18 := Lib.hid (K17.out _ _ Q17.out b18); clear b18 g0 g1 g2; obtain ⟨g0, g1, g2⟩ := (HPE.out _ Q18.out.1.1.1.1.1.1.1.1.1.1.1.1.1.1.1.1).1; obtain ⟨x0, x1⟩ := box_cells (Q18.out.1.1.1.1.1.1.1.1.1.1.2); obtain ⟨x2, x3⟩ := box_cells (Q18.out.1.1.1.1.1.1.1.2); obtain ⟨x4, x5⟩ := box_cells (Q18.out.1.2); obtain ⟨x6, x7⟩ := box_cells (Q18.out.2))
        | (go_at_call 34; refine (HCE.out _ _ _ (HPE.out _ Q18.out.1.1.1.1.1.1.1.1.1.1.1.1.1.1.1.1).2.1 (HPE.out _ Q18.out.1.1.1.1.1.1.1.1.1.1.1.1.1.1.1.1).2.2.1).mono ?_; rintro e w19 ⟨rfl, b19⟩; have Q19 := Lib.hid (K17.out _ _ Q18.out b19); clear b19 g0 g1 g2 x0 x1 x2 x3 x4 x5 x6 x7; obtain ⟨g0, g1, g2⟩ := (HPE.out _ Q19.out.1.1.1.1.1.1.1.1.1.1.1.1.1.1.1.1).1; obtain ⟨x0, x1⟩ := box_cells (Q19.out.1.1.1.1.1.1.1.1.1.1.2); obtain ⟨x2, x3⟩ := box_cells (Q19.out.1.1.1.1.1.1.1.2); obtain ⟨x4, x5⟩ := box_cells (Q19.out.1.2); obtain ⟨x6, x7⟩ := box_cells (Q19.out.2))
        | (go_at_call 46; refine (HSE.out _ _ (HPE.out _ Q19.out.1.1.1.1.1.1.1.1.1.1.1.1.1.1.1.1).2.1).mono ?_; rintro e w20 ⟨rfl, b20⟩; have Q20 := Lib.hid (K17.out _ _ Q19.out b20); clear b20 g0 g1 g2 x0 x1 x2 x3 x4 x5 x6 x7; obtain ⟨g0, g1, g2⟩ := (HPE.out _ Q20.out.1.1.1.1.1.1.1.1.1.1.1.1.1.1.1.1).1; obtain ⟨x0, x1⟩ := box_cells (Q20.out.1.1.1.1.1.1.1.1.1.1.2); obtain ⟨x2, x3⟩ := box_cells (Q20.out.1.1.1.1.1.1.1.2); obtain ⟨x4, x5⟩ := box_cells (Q20.out.1.2); obtain ⟨x6, x7⟩ := box_cells (Q20.out.2)))
    go_ret
    exact ⟨rfl, (HPE.out _ Q18.out.1.1.1.1.1.1.1.1.1.1.1.1.1.1.1.1).2.2.2⟩
end Go.Proofs.Ytghglgaimhfedaa
