/-
  The law CableShapes, walked where all is well.
-/
import Derived.Test.YtghglgaimhfedaaZNl
namespace Go.Proofs.Ytghglgaimhfedaa
open Go.RowKit Go.Shelf
attribute [local go_sem] monoUpon_value monoUpon_skip monoUpon_enter

theorem sharpK_lt (bs : List (Int × Int)) (h : 0 < bs.length) : ∀ k, k ≤ bs.length → sharpK bs k < bs.length
  | 0, _ => h
  | k + 1, hk => by
    rw [sharpK_succ]
    split
    · omega
    · exact sharpK_lt bs h k (by omega)
set_option maxRecDepth 100000 in
set_option maxHeartbeats 8000000 in
theorem shapes_ok (v u : Value) (l : Ln) (cu : List Int) (w : World) (hs : Sl e3 3 w v l.ks) (hu : Sl e1 1 w u cu) (hn : l.ks.length ≤ 12) (hc : cu.length ≤ 14) (h1 : shapeErr l cu = 0) :
    Calls Try.prog 6 #[.agg #[.int .i64 l.x, .int .i64 l.z, v], u] w fun e w' => e = .returned (.bool true) ∧ Below w.heap.size w w' := by
  have f1 := fewB_true hn hc
  have HS := Lib.hid hs
  have HU := Lib.hid hu
  obtain ⟨A, c, rfl, hcap⟩ := hs.form
  obtain ⟨A', c', rfl, hcap'⟩ := hu.form
  clear hs hu hcap hcap'
  obtain ⟨h2, h3⟩ := shape_ok h1
  obtain ⟨h4, h5⟩ := currentsErr_ok h2
  have hl := lineErr_ok h4
  have hcu := cursErr_cu h5
  have hbx := cursErr_ok h5
  have hz' := pulls_pos hbx h3
  have hz : ∀ t ∈ tens l cu, 0 < t.2 := by
    intro t ht
    rw [← tensions_eq, tensions] at ht
    obtain ⟨p, hp, rfl⟩ := List.mem_map.1 ht
    exact hz' p hp
  have hbe : bends l cu = bendsF (tens l cu) := by unfold bends; rw [tensions_eq]
  have hol : (offs l cu).length ≤ 10 := by rw [offs_len l cu hcu.len]; exact hl.n1
  have hbl : (bendsF (tens l cu)).length ≤ 10 := by rw [bendsF_len, tens_len l cu hcu.len]; have := hl.n1; omega
  have HOF : Hid (∀ v u w, Sl e3 3 w v l.ks → Sl e1 1 w u cu → Calls Try.prog 44 #[.agg #[.int .i64 l.x, .int .i64 l.z, v], u] w fun e w' => ∃ A c, e = .returned (.tuple #[.slice A (offs l cu).length c, .int .i64 0]) ∧ Sl e2 2 w' (.slice A (offs l cu).length c) (offs l cu) ∧ Below w.heap.size w w') := fun v u w k1 k2 => by
    have h := OffsetsOf_any v u l cu w k1 k2 (by omega) (by omega)
    have e : offsetsOf l cu = (offs l cu, 0) := if_pos h1
    rw [e] at h
    refine h.mono fun e w' ⟨r, a, b, c⟩ => ?_
    have s := b.sl e2_len
    obtain ⟨A, c', rfl, _⟩ := s.form
    exact ⟨A, c', a, s, c⟩
  have HBN : Hid (∀ v u w, Sl e3 3 w v l.ks → Sl e1 1 w u cu → Calls Try.prog 42 #[.agg #[.int .i64 l.x, .int .i64 l.z, v], u] w fun e w' => ∃ A c, e = .returned (.tuple #[.slice A (bendsF (tens l cu)).length c, .int .i64 0]) ∧ Sl e2 2 w' (.slice A (bendsF (tens l cu)).length c) (bendsF (tens l cu)) ∧ Below w.heap.size w w') := fun v u w k1 k2 => by
    have h := BendsOf_any v u l cu w k1 k2 (by omega) (by omega)
    have e : bendsOf l cu = (bendsF (tens l cu), 0) := (if_pos h1).trans (by rw [hbe])
    rw [e] at h
    refine h.mono fun e w' ⟨r, a, b, c⟩ => ?_
    have s := b.sl e2_len
    obtain ⟨A, c', rfl, _⟩ := s.form
    exact ⟨A, c', a, s, c⟩
  have HLB : Hid (∀ v u w, Sl e3 3 w v l.ks → Sl e1 1 w u cu → Calls Try.prog 40 #[.agg #[.int .i64 l.x, .int .i64 l.z, v], u] w fun e w' => e = .returned (.tuple #[.agg #[.int .i64 (totR offR (pulls l (still cu))).1, .int .i64 (totR offR (pulls l (still cu))).2], .int .i64 0]) ∧ Below w.heap.size w w') := fun v u w k1 k2 => by
    have h := LaybackOf_any v u l cu w k1 k2 (by omega) (by omega)
    have e : laybackOf l cu = (totR offR (pulls l (still cu)), 0) := if_pos h1
    rw [e] at h; exact h
  have HLN : Hid (∀ v u w, Sl e3 3 w v l.ks → Sl e1 1 w u cu → Calls Try.prog 41 #[.agg #[.int .i64 l.x, .int .i64 l.z, v], u] w fun e w' => e = .returned (.tuple #[.agg #[.int .i64 (totR lenR (pulls l (still cu))).1, .int .i64 (totR lenR (pulls l (still cu))).2], .int .i64 0]) ∧ Below w.heap.size w w') := fun v u w k1 k2 => by
    have h := LengthOf_any v u l cu w k1 k2 (by omega) (by omega)
    have e : lengthOf l cu = (totR lenR (pulls l (still cu)), 0) := if_pos h1
    rw [e] at h; exact h
  have HLE := Lib.hid (fun v w h1 => LineErr_any v l w h1 (by omega))
  have HCE := Lib.hid (fun v u w h1 h2 => rCurrentsErr_any v u l cu w h1 h2 (by omega))
  have HSE := Lib.hid (fun v w h1 => rSlackErr_any v l w h1 hl)
  rw [h4] at HLE
  rw [h5] at HCE
  rw [h3] at HSE
  have HRB : Hid (∀ v u w, Sl e3 3 w v l.ks → Sl e1 1 w u cu → Calls Try.prog 47 #[.agg #[.int .i64 l.x, .int .i64 l.z, v], u] w fun e w' => ∃ A c, e = .returned (.slice A (bendsF (tens l cu)).length c) ∧ Sl e2 2 w' (.slice A (bendsF (tens l cu)).length c) (bendsF (tens l cu)) ∧ Below w.heap.size w w') := fun v u w k1 k2 => by
    refine (rBends_any v u l cu w k1 k2 hl hcu hz).mono fun e w' ⟨r, a, b, c⟩ => ?_
    have s := b.sl e2_len
    obtain ⟨A, c', rfl, _⟩ := s.form
    exact ⟨A, c', a, s, c⟩
  have HRO : Hid (∀ v u w, Sl e3 3 w v l.ks → Sl e1 1 w u cu → Calls Try.prog 48 #[.agg #[.int .i64 l.x, .int .i64 l.z, v], u] w fun e w' => ∃ r, e = .returned r ∧ Sl e2 2 w' r (offs l cu) ∧ Below w.heap.size w w') := fun v u w k1 k2 =>
    (rOffsets_any v u l cu w k1 k2 hl hcu hz).mono fun e w' ⟨r, a, b, c⟩ => ⟨r, a, b.sl e2_len, c⟩
  have hlay : layF (offs l cu) = totR offR (pulls l (still cu)) := layF_tot _ fun p hp => ⟨pulls_one l cu p hp, hz' p hp⟩
  have HRL : Hid (∀ v u w, Sl e3 3 w v l.ks → Sl e1 1 w u cu → Calls Try.prog 49 #[.agg #[.int .i64 l.x, .int .i64 l.z, v], u] w fun e w' => e = .returned (.agg #[.int .i64 (totR offR (pulls l (still cu))).1, .int .i64 (totR offR (pulls l (still cu))).2]) ∧ Below w.heap.size w w') := fun v u w k1 k2 => by
    have h := rLayback_any v u l cu w k1 k2 hl hcu hz (offs_ok hl hbx hz')
    rwa [hlay] at h
  have HRN := Lib.hid (fun v u w k1 k2 => rLength_any v u l cu w k1 k2 hl hcu hbx hz hz')
  have HRS := Lib.hid (fun v u w k1 k2 => rSharpest_any v u l cu w k1 k2 hl hcu hz)
  have HSI := Lib.hid (fun v u w k1 k2 => SharpestIn_any v u l cu w k1 k2 (by omega) (by omega))
  have hsh : sharpestIn l cu = if (bendsF (tens l cu)).length = 0 then (0, (0, 0), 12) else ((sharpK (bendsF (tens l cu)) (bendsF (tens l cu)).length : Int), (bendsF (tens l cu)).getD (sharpK (bendsF (tens l cu)) (bendsF (tens l cu)).length) (0, 0), 0) := by
    unfold sharpestIn; rw [if_pos h1, hbe]
  rw [hsh] at HSI
  clear h1 h2 h3 h4 h5 hl hcu hbx hz' hz hbe hlay hsh
  generalize bendsF (tens l cu) = bs at *
  generalize offs l cu = os at *
  generalize totR offR (pulls l (still cu)) = tt at *
  generalize totR lenR (pulls l (still cu)) = nn at *
  obtain ⟨la, lz⟩ := tt
  obtain ⟨na, nz⟩ := nn
  simp only at *
  have HFR : Hid (∀ u v w, Sl e2 2 w u os → Sl e2 2 w v os → Calls Try.prog 43 #[u, v] w fun e w' => e = .returned (.bool true) ∧ Below w.heap.size w w') := fun u v w h k => by
    have := Fracs_any u v os os w h k (by omega) (by omega)
    rwa [eqL_refl] at this
  have HFB : Hid (∀ u v w, Sl e2 2 w u bs → Sl e2 2 w v bs → Calls Try.prog 43 #[u, v] w fun e w' => e = .returned (.bool true) ∧ Below w.heap.size w w') := fun u v w h k => by
    have := Fracs_any u v bs bs w h k (by omega) (by omega)
    rwa [eqL_refl] at this
  have q1 := eq_frac
  have q3 := neq_range
  have hp1 := pne0 (x := (la, lz)) rfl
  have hp2 := pne0 (x := (na, nz)) rfl
  simp only at hp1 hp2
  have T2 : Hid True := trivial
  have T3 : Hid True := trivial
  have T5 : Hid True := trivial
  have T6 : Hid True := trivial
  have T8 : Hid True := trivial
  have T9 : Hid True := trivial
  have T11 : Hid True := trivial
  have T12 : Hid True := trivial
  obtain ⟨kz, s1, s2, j, ok, HSI, HRS, hcase⟩ : ∃ (kz s1 s2 j : Int) (ok : Bool), Hid (∀ v u w, Sl e3 3 w v l.ks → Sl e1 1 w u cu → Calls Try.prog 45 #[.agg #[.int .i64 l.x, .int .i64 l.z, v], u] w fun e w' => e = .returned (.tuple #[.int .i64 kz, .agg #[.int .i64 s1, .int .i64 s2], .int .i64 j]) ∧ Below w.heap.size w w') ∧
      Hid (∀ v u w, Sl e3 3 w v l.ks → Sl e1 1 w u cu → Calls Try.prog 51 #[.agg #[.int .i64 l.x, .int .i64 l.z, v], u] w fun e w' => e = .returned (.tuple #[.int .i64 kz, .bool ok]) ∧ Below w.heap.size w w') ∧
      (ok = false ∧ kz = 0 ∧ s1 = 0 ∧ s2 = 0 ∧ j = 12 ∨ ok = true ∧ j = 0 ∧ ∃ k : Nat, kz = k ∧ bs[k]? = some (s1, s2)) := by
    by_cases h0 : bs.length = 0
    · have e : sharpR bs = (0, false) := if_pos h0
      rw [if_pos h0] at HSI
      rw [e] at HRS
      exact ⟨0, 0, 0, 12, false, HSI, HRS, .inl ⟨rfl, rfl, rfl, rfl, rfl⟩⟩
    · have e : sharpR bs = ((sharpK bs bs.length : Int), true) := if_neg h0
      rw [if_neg h0] at HSI
      rw [e] at HRS
      have hlt := sharpK_lt bs (by omega) bs.length (Nat.le_refl _)
      refine ⟨_, _, _, 0, true, HSI, HRS, .inr ⟨rfl, rfl, _, rfl, ?_⟩⟩
      rw [List.getElem?_eq_getElem hlt, getD_eq _ _ _ hlt]
  go_enter Try.func6, Try.ntmps6
  go_wp2_with (first
      | (go_at_call 14; refine (awakeB _).mono ?_; rintro e w1 ⟨rfl, b1⟩; have HX := law_hx HS.out (fun W => Sl e1 1 W (.slice A' cu.length c') cu) (fun W hW => HU.out.below hW) b1; have HXP : ∃ P : World → Prop, Keeps P ∧ P w1 ∧ ∀ W, P W → (W.cell? ⟨w.heap.size, 0, none⟩ = some (.int .i64 l.x) ∧ W.cell? ⟨w.heap.size, 1, none⟩ = some (.int .i64 l.z) ∧ W.cell? ⟨w.heap.size, 2, none⟩ = some (.slice A l.ks.length c)) ∧ Sl e3 3 W (.slice A l.ks.length c) l.ks ∧ Sl e1 1 W (.slice A' cu.length c') cu ∧ Below w.heap.size w W := ⟨_, (keeps_cells _ _ _ _).and ((keeps_sl _ _ _ _).and ((keeps_sl _ _ _ _).and (keeps_below _))), HX.out _ (Below.refl _ _), fun _ h => h⟩; obtain ⟨P, KP, hP, HPE⟩ := HXP; have K0 := Lib.hid KP; have HPE := Lib.hid HPE; have Q1 := Lib.hid hP; clear b1 HX KP hP; obtain ⟨g0, g1, g2⟩ := (HPE.out _ Q1.out).1)
      | (go_at_call 15; refine (few_any _ l _ _ (HPE.out _ Q1.out).2.1).mono ?_; rintro e w2 ⟨rfl, b2⟩; have Q2 := Lib.hid (K0.out _ _ Q1.out b2); clear b2 g0 g1 g2; obtain ⟨g0, g1, g2⟩ := (HPE.out _ Q2.out).1)
      | (go_at_call 17; clear T2; refine (CopyLine_any _ l _ (HPE.out _ Q2.out).2.1 (by omega)).mono ?_; rintro e w3 ⟨r3, rfl, s3, b3⟩; have K3 := Lib.hid (Keeps.and K0.out (keeps_sl e3 3 r3 l.ks)); have Q3 := Lib.hid (And.intro (K0.out _ _ Q2.out b3) s3); clear b3 s3 g0 g1 g2)
      | (go_at_call 29; clear T3; refine (CopyInts_any _ cu _ (HPE.out _ Q3.out.1).2.2.1 (by omega)).mono ?_; rintro e w4 ⟨r4, rfl, o4, b4⟩; have s4 := o4.sl e1_len; clear o4; have K4 := Lib.hid (Keeps.and K3.out (keeps_sl e1 1 r4 cu)); have Q4 := Lib.hid (And.intro (K3.out _ _ Q3.out b4) s4); clear b4 s4)
      | (go_at_call 44; refine (HOF.out _ _ _ (Q4.out.1.2) (Q4.out.2)).mono ?_; rintro e w5 ⟨A5, c5, rfl, s5, b5⟩; have K5 := Lib.hid (Keeps.and K4.out (keeps_sl e2 2 (.slice A5 os.length c5) os)); have Q5 := Lib.hid (And.intro (K4.out _ _ Q4.out b5) s5); clear b5 s5; obtain ⟨g0, g1, g2⟩ := (HPE.out _ Q5.out.1.1.1).1)
      | (go_at_call 17; clear T5; refine (CopyLine_any _ l _ (HPE.out _ Q5.out.1.1.1).2.1 (by omega)).mono ?_; rintro e w6 ⟨r6, rfl, s6, b6⟩; have K6 := Lib.hid (Keeps.and K5.out (keeps_sl e3 3 r6 l.ks)); have Q6 := Lib.hid (And.intro (K5.out _ _ Q5.out b6) s6); clear b6 s6 g0 g1 g2)
      | (go_at_call 29; clear T6; refine (CopyInts_any _ cu _ (HPE.out _ Q6.out.1.1.1.1).2.2.1 (by omega)).mono ?_; rintro e w7 ⟨r7, rfl, o7, b7⟩; have s7 := o7.sl e1_len; clear o7; have K7 := Lib.hid (Keeps.and K6.out (keeps_sl e1 1 r7 cu)); have Q7 := Lib.hid (And.intro (K6.out _ _ Q6.out b7) s7); clear b7 s7)
      | (go_at_call 40; refine (HLB.out _ _ _ (Q7.out.1.2) (Q7.out.2)).mono ?_; rintro e w8 ⟨rfl, b8⟩; have K8 := Lib.hid (Keeps.and K7.out (keeps_sl e1 1 (.slice (some ⟨w8.heap.size, 0, none⟩) 2 2) [la, lz])); have Q8 := Lib.hid (And.intro (K7.out _ _ (K7.out _ _ Q7.out b8) (below_alloc1 w8 (.cells #[.int .i64 la, .int .i64 lz] 66))) (sl2 w8 la lz 66)); clear b8; obtain ⟨g0, g1, g2⟩ := (HPE.out _ Q8.out.1.1.1.1.1.1).1)
      | (go_at_call 17; clear T8; refine (CopyLine_any _ l _ (HPE.out _ Q8.out.1.1.1.1.1.1).2.1 (by omega)).mono ?_; rintro e w9 ⟨r9, rfl, s9, b9⟩; have K9 := Lib.hid (Keeps.and K8.out (keeps_sl e3 3 r9 l.ks)); have Q9 := Lib.hid (And.intro (K8.out _ _ Q8.out b9) s9); clear b9 s9 g0 g1 g2)
      | (go_at_call 29; clear T9; refine (CopyInts_any _ cu _ (HPE.out _ Q9.out.1.1.1.1.1.1.1).2.2.1 (by omega)).mono ?_; rintro e w10 ⟨r10, rfl, o10, b10⟩; have s10 := o10.sl e1_len; clear o10; have K10 := Lib.hid (Keeps.and K9.out (keeps_sl e1 1 r10 cu)); have Q10 := Lib.hid (And.intro (K9.out _ _ Q9.out b10) s10); clear b10 s10)
      | (go_at_call 41; refine (HLN.out _ _ _ (Q10.out.1.2) (Q10.out.2)).mono ?_; rintro e w11 ⟨rfl, b11⟩; have K11 := Lib.hid (Keeps.and K10.out (keeps_sl e1 1 (.slice (some ⟨w11.heap.size, 0, none⟩) 2 2) [na, nz])); have Q11 := Lib.hid (And.intro (K10.out _ _ (K10.out _ _ Q10.out b11) (below_alloc1 w11 (.cells #[.int .i64 na, .int .i64 nz] 66))) (sl2 w11 na nz 66)); clear b11; obtain ⟨g0, g1, g2⟩ := (HPE.out _ Q11.out.1.1.1.1.1.1.1.1.1).1)
      | (go_at_call 17; clear T11; refine (CopyLine_any _ l _ (HPE.out _ Q11.out.1.1.1.1.1.1.1.1.1).2.1 (by omega)).mono ?_; rintro e w12 ⟨r12, rfl, s12, b12⟩; have K12 := Lib.hid (Keeps.and K11.out (keeps_sl e3 3 r12 l.ks)); have Q12 := Lib.hid (And.intro (K11.out _ _ Q11.out b12) s12); clear b12 s12 g0 g1 g2)
      | (go_at_call 29; clear T12; refine (CopyInts_any _ cu _ (HPE.out _ Q12.out.1.1.1.1.1.1.1.1.1.1).2.2.1 (by omega)).mono ?_; rintro e w13 ⟨r13, rfl, o13, b13⟩; have s13 := o13.sl e1_len; clear o13; have K13 := Lib.hid (Keeps.and K12.out (keeps_sl e1 1 r13 cu)); have Q13 := Lib.hid (And.intro (K12.out _ _ Q12.out b13) s13); clear b13 s13)
      | (go_at_call 42; refine (HBN.out _ _ _ (Q13.out.1.2) (Q13.out.2)).mono ?_; rintro e w14 ⟨A14, c14, rfl, s14, b14⟩; have K14 := Lib.hid (Keeps.and K13.out (keeps_sl e2 2 (.slice A14 bs.length c14) bs)); have Q14 := Lib.hid (And.intro (K13.out _ _ Q13.out b14) s14); clear b14 s14; obtain ⟨g0, g1, g2⟩ := (HPE.out _ Q14.out.1.1.1.1.1.1.1.1.1.1.1.1).1)
      | (go_at_call 17; refine (CopyLine_any _ l _ (HPE.out _ Q14.out.1.1.1.1.1.1.1.1.1.1.1.1).2.1 (by omega)).mono ?_; rintro e w15 ⟨r15, rfl, s15, b15⟩; have K15 := Lib.hid (Keeps.and K14.out (keeps_sl e3 3 r15 l.ks)); have Q15 := Lib.hid (And.intro (K14.out _ _ Q14.out b15) s15); clear b15 s15 g0 g1 g2)
      | (go_at_call 29; refine (CopyInts_any _ cu _ (HPE.out _ Q15.out.1.1.1.1.1.1.1.1.1.1.1.1.1).2.2.1 (by omega)).mono ?_; rintro e w16 ⟨r16, rfl, o16, b16⟩; have s16 := o16.sl e1_len; clear o16; have K16 := Lib.hid (Keeps.and K15.out (keeps_sl e1 1 r16 cu)); have Q16 := Lib.hid (And.intro (K15.out _ _ Q15.out b16) s16); clear b16 s16)
      | (go_at_call 45; refine (HSI.out _ _ _ (Q16.out.1.2) (Q16.out.2)).mono ?_; rintro e w17 ⟨rfl, b17⟩; have K17 := Lib.hid (Keeps.and (Keeps.and K16.out (keeps_sl e1 1 (.slice (some ⟨w17.heap.size, 0, none⟩) 2 2) [s1, s2])) (keeps_sl e1 1 (.slice (some ⟨w17.heap.size + 1, 0, none⟩) 2 2) [0, 0])); have Q17 := Lib.hid (And.intro (And.intro (K16.out _ _ (K16.out _ _ Q16.out b17) (below_al (below_alloc1 w17 (.cells #[.int .i64 s1, .int .i64 s2] 75)) (.cells #[.int .i64 0, .int .i64 0] 66))) ((sl2 w17 s1 s2 75).alloc (.cells #[.int .i64 0, .int .i64 0] 66))) ((show Sl e1 1 _ (.slice (some ⟨w17.heap.size + 1, 0, none⟩) 2 2) [0, 0] from (by have h := sl2 (w17.alloc (.cells #[.int .i64 s1, .int .i64 s2] 75)) 0 0 66; simpa using h)))); clear b17; obtain ⟨g0, g1, g2⟩ := (HPE.out _ Q17.out.1.1.1.1.1.1.1.1.1.1.1.1.1.1.1.1).1)
      | (go_at_call 33; refine (HLE.out _ _ (HPE.out _ Q17.out.1.1.1.1.1.1.1.1.1.1.1.1.1.1.1.1).2.1).mono ?_; rintro e w18 ⟨rfl, b18⟩; have Q18 := Lib.hid (K17.out _ _ Q17.out b18); clear b18 g0 g1 g2; obtain ⟨g0, g1, g2⟩ := (HPE.out _ Q18.out.1.1.1.1.1.1.1.1.1.1.1.1.1.1.1.1).1)
      | (go_at_call 34; refine (HCE.out _ _ _ (HPE.out _ Q18.out.1.1.1.1.1.1.1.1.1.1.1.1.1.1.1.1).2.1 (HPE.out _ Q18.out.1.1.1.1.1.1.1.1.1.1.1.1.1.1.1.1).2.2.1).mono ?_; rintro e w19 ⟨rfl, b19⟩; have Q19 := Lib.hid (K17.out _ _ Q18.out b19); clear b19 g0 g1 g2; obtain ⟨g0, g1, g2⟩ := (HPE.out _ Q19.out.1.1.1.1.1.1.1.1.1.1.1.1.1.1.1.1).1)
      | (go_at_call 46; refine (HSE.out _ _ (HPE.out _ Q19.out.1.1.1.1.1.1.1.1.1.1.1.1.1.1.1.1).2.1).mono ?_; rintro e w20 ⟨rfl, b20⟩; have Q20 := Lib.hid (K17.out _ _ Q19.out b20); clear b20 g0 g1 g2; obtain ⟨g0, g1, g2⟩ := (HPE.out _ Q20.out.1.1.1.1.1.1.1.1.1.1.1.1.1.1.1.1).1)
      | (go_at_call 47; refine (HRB.out _ _ _ (HPE.out _ Q20.out.1.1.1.1.1.1.1.1.1.1.1.1.1.1.1.1).2.1 (HPE.out _ Q20.out.1.1.1.1.1.1.1.1.1.1.1.1.1.1.1.1).2.2.1).mono ?_; rintro e w21 ⟨A21, c21, rfl, s21, b21⟩; have K21 := Lib.hid (Keeps.and K17.out (keeps_sl e2 2 (.slice A21 bs.length c21) bs)); have Q21 := Lib.hid (And.intro (K17.out _ _ Q20.out b21) s21); clear b21 s21 g0 g1 g2))
  have HXW : Hid (∀ W, Below w21.drew.heap.size w21.drew W → _) := fun W h => K21.out _ _ Q21.out (Below.trans (Below.drew (Below.refl _ _)) h)
  clear Q1 Q2 Q3 Q4 Q5 Q6 Q7 Q8 Q9 Q10 Q11 Q12 Q13 Q14 Q15 Q16 Q17 Q18 Q19 Q20 Q21 K3 K4 K5 K6 K7 K8 K9 K10 K11 K12 K13 K14 K15 K16 K17 HOF HLB HLN HBN HSI HLE HCE HSE HRB HS HU f1
  refine wp_region_guard 41 [136, 137, 138, 139, 140, 141, 142, 143, 144, 145, 146, 147, 148, 149, 150, 151, 152, 153, 154, 155, 156, 157, 158, 159, 160, 161, 162, 163, 164, 165, 166, 167, 168, 169, 170, 171, 172, 173, 174, 175, 176] [[], [0], [1], [], [], [], [4, 5], [3, 6], [7], [2, 8], [9], [], [11], [10, 12], [13], [], [], [], [16, 17], [15, 18], [14, 19], [20], [], [22], [21, 23], [24], [], [], [], [27, 28], [26, 29], [25, 30], [31], [], [33], [32, 34], [35], [], [], [37, 38], [39]] [none, none, none, some true, some true, some true, some true, some true, some true, none, none, some true, some true, none, none, some true, some true, some true, some true, some true, none, none, some true, some true, none, none, some true, some true, some true, some true, some true, none, none, some true, some true, none, none, some true, some true, some true, some true] [fun v _ => v = .int .i64 0, fun v _ => v = .bool false, fun v _ => v = .bool false, fun v _ => v = .slice A5 os.length c5, fun v _ => v = .agg #[.int .i64 l.x, .int .i64 l.z, .slice A l.ks.length c], fun v _ => v = .slice A' cu.length c', fun v w => Sl e2 2 w v os, fun v _ => v = .bool true, fun v _ => v = .bool false, fun v _ => v = .bool false, fun v _ => v = .bool false, fun v _ => v = .int .i64 0, fun v _ => v = .bool false, fun v _ => v = .bool false, fun v _ => v = .bool false, fun v _ => v = .agg #[.int .i64 la, .int .i64 lz], fun v _ => v = .agg #[.int .i64 l.x, .int .i64 l.z, .slice A l.ks.length c], fun v _ => v = .slice A' cu.length c', fun v _ => v = .agg #[.int .i64 la, .int .i64 lz], fun v _ => v = .bool false, fun v _ => v = .bool false, fun v _ => v = .bool false, fun v _ => v = .int .i64 0, fun v _ => v = .bool false, fun v _ => v = .bool false, fun v _ => v = .bool false, fun v _ => v = .agg #[.int .i64 na, .int .i64 nz], fun v _ => v = .agg #[.int .i64 l.x, .int .i64 l.z, .slice A l.ks.length c], fun v _ => v = .slice A' cu.length c', fun v _ => v = .agg #[.int .i64 na, .int .i64 nz], fun v _ => v = .bool false, fun v _ => v = .bool false, fun v _ => v = .bool false, fun v _ => v = .int .i64 0, fun v _ => v = .bool false, fun v _ => v = .bool false, fun v _ => v = .bool false, fun v _ => v = .slice A14 bs.length c14, fun v _ => v = .slice A21 bs.length c21, fun v _ => v = .bool true, fun v _ => v = .bool false] (by kernel_rfl) (by kernel_rfl) ⟨st_eq _, st_eq _, st_eq _, st_eq _, st_eq _, st_eq _, st_sl _ _ _, st_eq _, st_eq _, st_eq _, st_eq _, st_eq _, st_eq _, st_eq _, st_eq _, st_eq _, st_eq _, st_eq _, st_eq _, st_eq _, st_eq _, st_eq _, st_eq _, st_eq _, st_eq _, st_eq _, st_eq _, st_eq _, st_eq _, st_eq _, st_eq _, st_eq _, st_eq _, st_eq _, st_eq _, st_eq _, st_eq _, st_eq _, st_eq _, st_eq _, st_eq _, trivial⟩ ?_ ?_ ?_
  · exact ⟨trivial, trivial, trivial, fun _ _ h => h, fun _ _ h => h, fun _ _ h => h, fun _ _ h => h, fun _ _ h => h, fun _ _ h => h, trivial, trivial, fun _ _ h => h, fun _ _ h => h, trivial, trivial, fun _ _ h => h, fun _ _ h => h, fun _ _ h => h, fun _ _ h => h, fun _ _ h => h, trivial, trivial, fun _ _ h => h, fun _ _ h => h, trivial, trivial, fun _ _ h => h, fun _ _ h => h, fun _ _ h => h, fun _ _ h => h, fun _ _ h => h, trivial, trivial, fun _ _ h => h, fun _ _ h => h, trivial, trivial, fun _ _ h => h, fun _ _ h => h, fun _ _ h => h, fun _ _ h => h, trivial⟩
  · simp only [List.take_succ_cons, List.take_zero, stepsG, stepG, and_true]
    refine ⟨?_, ?_, ?_, ?_, ?_, ?_, ?_, ?_, ?_, ?_, ?_, ?_, ?_, ?_, ?_, ?_, ?_, ?_, ?_, ?_, ?_, ?_, ?_, ?_, ?_, ?_, ?_, ?_, ?_, ?_, ?_, ?_, ?_, ?_, ?_, ?_, ?_, ?_, ?_, ?_, ?_⟩
    · intro x W hB _; simp only [putX, setX, List.foldl_cons, List.foldl_nil]; refine ⟨?_⟩; go_simp; exact ⟨rfl, Below.refl _ _⟩
    · intro x W hB hN; simp only [needs, sAt, dAt] at hN; simp only [putX, setX, List.foldl_cons, List.foldl_nil]; refine ⟨?_⟩; go_simp; exact ⟨rfl, Below.refl _ _⟩
    · intro x W hB hN; simp only [needs, sAt, dAt] at hN; simp only [putX, setX, List.foldl_cons, List.foldl_nil]; refine ⟨?_⟩; go_simp; exact ⟨rfl, Below.refl _ _⟩
    · intro x W hB _; simp only [putX, setX, List.foldl_cons, List.foldl_nil]; refine ⟨?_⟩; go_simp; exact ⟨rfl, Below.refl _ _⟩
    · intro x W hB _; simp only [putX, setX, List.foldl_cons, List.foldl_nil]; obtain ⟨g0, g1, g2⟩ := (HPE.out _ (HXW.out W hB).1.1.1.1.1.1.1.1.1.1.1.1.1.1.1.1.1).1; refine ⟨?_⟩; go_simp; exact ⟨rfl, Below.refl _ _⟩
    · intro x W hB _; simp only [putX, setX, List.foldl_cons, List.foldl_nil]; refine ⟨?_⟩; go_simp; exact ⟨rfl, Below.refl _ _⟩
    · intro x W hB hN; simp only [needs, sAt, dAt] at hN; simp only [putX, setX, List.foldl_cons, List.foldl_nil]; refine ⟨?_⟩; go_simp; refine (HRO.out _ _ _ (HPE.out _ (HXW.out W hB).1.1.1.1.1.1.1.1.1.1.1.1.1.1.1.1.1).2.1 (HPE.out _ (HXW.out W hB).1.1.1.1.1.1.1.1.1.1.1.1.1.1.1.1.1).2.2.1).mono ?_; rintro e w' ⟨r, rfl, s, b⟩; exact ⟨_, rfl, s, b⟩
    · intro x W hB hN; simp only [needs, sAt, dAt] at hN; simp only [putX, setX, List.foldl_cons, List.foldl_nil]; refine ⟨?_⟩; go_simp; refine (HFR.out _ _ _ (HXW.out W hB).1.1.1.1.1.1.1.1.1.1.1.1.1.1.2 hN.2.1).mono ?_; rintro e w' ⟨rfl, b⟩; exact ⟨_, rfl, rfl, b⟩
    · intro x W hB hN; simp only [needs, sAt, dAt] at hN; simp only [putX, setX, List.foldl_cons, List.foldl_nil]; refine ⟨?_⟩; go_simp; exact ⟨rfl, Below.refl _ _⟩
    · intro x W hB hN; simp only [needs, sAt, dAt] at hN; simp only [putX, setX, List.foldl_cons, List.foldl_nil]; refine ⟨?_⟩; go_simp; exact ⟨rfl, Below.refl _ _⟩
    · intro x W hB hN; simp only [needs, sAt, dAt] at hN; simp only [putX, setX, List.foldl_cons, List.foldl_nil]; refine ⟨?_⟩; go_simp; exact ⟨rfl, Below.refl _ _⟩
    · intro x W hB _; simp only [putX, setX, List.foldl_cons, List.foldl_nil]; refine ⟨?_⟩; go_simp; exact ⟨rfl, Below.refl _ _⟩
    · intro x W hB hN; simp only [needs, sAt, dAt] at hN; simp only [putX, setX, List.foldl_cons, List.foldl_nil]; refine ⟨?_⟩; go_simp; exact ⟨rfl, Below.refl _ _⟩
    · intro x W hB hN; simp only [needs, sAt, dAt] at hN; simp only [putX, setX, List.foldl_cons, List.foldl_nil]; refine ⟨?_⟩; go_simp; exact ⟨rfl, Below.refl _ _⟩
    · intro x W hB hN; simp only [needs, sAt, dAt] at hN; simp only [putX, setX, List.foldl_cons, List.foldl_nil]; refine ⟨?_⟩; go_simp; exact ⟨rfl, Below.refl _ _⟩
    · intro x W hB _; simp only [putX, setX, List.foldl_cons, List.foldl_nil]; obtain ⟨x0, x1⟩ := box_cells (HXW.out W hB).1.1.1.1.1.1.1.1.1.1.1.2; refine ⟨?_⟩; go_simp; exact ⟨rfl, Below.refl _ _⟩
    · intro x W hB _; simp only [putX, setX, List.foldl_cons, List.foldl_nil]; obtain ⟨g0, g1, g2⟩ := (HPE.out _ (HXW.out W hB).1.1.1.1.1.1.1.1.1.1.1.1.1.1.1.1.1).1; refine ⟨?_⟩; go_simp; exact ⟨rfl, Below.refl _ _⟩
    · intro x W hB _; simp only [putX, setX, List.foldl_cons, List.foldl_nil]; refine ⟨?_⟩; go_simp; exact ⟨rfl, Below.refl _ _⟩
    · intro x W hB hN; simp only [needs, sAt, dAt] at hN; simp only [putX, setX, List.foldl_cons, List.foldl_nil]; refine ⟨?_⟩; go_simp; refine (HRL.out _ _ _ (HPE.out _ (HXW.out W hB).1.1.1.1.1.1.1.1.1.1.1.1.1.1.1.1.1).2.1 (HPE.out _ (HXW.out W hB).1.1.1.1.1.1.1.1.1.1.1.1.1.1.1.1.1).2.2.1).mono ?_; rintro e w' ⟨rfl, b⟩; exact ⟨_, rfl, rfl, b⟩
    · intro x W hB hN; simp only [needs, sAt, dAt] at hN; simp only [putX, setX, List.foldl_cons, List.foldl_nil]; refine ⟨?_⟩; go_simp; exact ⟨rfl, Below.refl _ _⟩
    · intro x W hB hN; simp only [needs, sAt, dAt] at hN; simp only [putX, setX, List.foldl_cons, List.foldl_nil]; refine ⟨?_⟩; go_simp; exact ⟨rfl, Below.refl _ _⟩
    · intro x W hB hN; simp only [needs, sAt, dAt] at hN; simp only [putX, setX, List.foldl_cons, List.foldl_nil]; refine ⟨?_⟩; go_simp; exact ⟨rfl, Below.refl _ _⟩
    · intro x W hB _; simp only [putX, setX, List.foldl_cons, List.foldl_nil]; refine ⟨?_⟩; go_simp; exact ⟨rfl, Below.refl _ _⟩
    · intro x W hB hN; simp only [needs, sAt, dAt] at hN; simp only [putX, setX, List.foldl_cons, List.foldl_nil]; refine ⟨?_⟩; go_simp; exact ⟨rfl, Below.refl _ _⟩
    · intro x W hB hN; simp only [needs, sAt, dAt] at hN; simp only [putX, setX, List.foldl_cons, List.foldl_nil]; refine ⟨?_⟩; go_simp; exact ⟨rfl, Below.refl _ _⟩
    · intro x W hB hN; simp only [needs, sAt, dAt] at hN; simp only [putX, setX, List.foldl_cons, List.foldl_nil]; refine ⟨?_⟩; go_simp; exact ⟨rfl, Below.refl _ _⟩
    · intro x W hB _; simp only [putX, setX, List.foldl_cons, List.foldl_nil]; obtain ⟨x0, x1⟩ := box_cells (HXW.out W hB).1.1.1.1.1.1.1.1.2; refine ⟨?_⟩; go_simp; exact ⟨rfl, Below.refl _ _⟩
    · intro x W hB _; simp only [putX, setX, List.foldl_cons, List.foldl_nil]; obtain ⟨g0, g1, g2⟩ := (HPE.out _ (HXW.out W hB).1.1.1.1.1.1.1.1.1.1.1.1.1.1.1.1.1).1; refine ⟨?_⟩; go_simp; exact ⟨rfl, Below.refl _ _⟩
    · intro x W hB _; simp only [putX, setX, List.foldl_cons, List.foldl_nil]; refine ⟨?_⟩; go_simp; exact ⟨rfl, Below.refl _ _⟩
    · intro x W hB hN; simp only [needs, sAt, dAt] at hN; simp only [putX, setX, List.foldl_cons, List.foldl_nil]; refine ⟨?_⟩; go_simp; refine (HRN.out _ _ _ (HPE.out _ (HXW.out W hB).1.1.1.1.1.1.1.1.1.1.1.1.1.1.1.1.1).2.1 (HPE.out _ (HXW.out W hB).1.1.1.1.1.1.1.1.1.1.1.1.1.1.1.1.1).2.2.1).mono ?_; rintro e w' ⟨rfl, b⟩; exact ⟨_, rfl, rfl, b⟩
    · intro x W hB hN; simp only [needs, sAt, dAt] at hN; simp only [putX, setX, List.foldl_cons, List.foldl_nil]; refine ⟨?_⟩; go_simp; exact ⟨rfl, Below.refl _ _⟩
    · intro x W hB hN; simp only [needs, sAt, dAt] at hN; simp only [putX, setX, List.foldl_cons, List.foldl_nil]; refine ⟨?_⟩; go_simp; exact ⟨rfl, Below.refl _ _⟩
    · intro x W hB hN; simp only [needs, sAt, dAt] at hN; simp only [putX, setX, List.foldl_cons, List.foldl_nil]; refine ⟨?_⟩; go_simp; exact ⟨rfl, Below.refl _ _⟩
    · intro x W hB _; simp only [putX, setX, List.foldl_cons, List.foldl_nil]; refine ⟨?_⟩; go_simp; exact ⟨rfl, Below.refl _ _⟩
    · intro x W hB hN; simp only [needs, sAt, dAt] at hN; simp only [putX, setX, List.foldl_cons, List.foldl_nil]; refine ⟨?_⟩; go_simp; exact ⟨rfl, Below.refl _ _⟩
    · intro x W hB hN; simp only [needs, sAt, dAt] at hN; simp only [putX, setX, List.foldl_cons, List.foldl_nil]; refine ⟨?_⟩; go_simp; exact ⟨rfl, Below.refl _ _⟩
    · intro x W hB hN; simp only [needs, sAt, dAt] at hN; simp only [putX, setX, List.foldl_cons, List.foldl_nil]; refine ⟨?_⟩; go_simp; exact ⟨rfl, Below.refl _ _⟩
    · intro x W hB _; simp only [putX, setX, List.foldl_cons, List.foldl_nil]; refine ⟨?_⟩; go_simp; exact ⟨rfl, Below.refl _ _⟩
    · intro x W hB _; simp only [putX, setX, List.foldl_cons, List.foldl_nil]; refine ⟨?_⟩; go_simp; exact ⟨rfl, Below.refl _ _⟩
    · intro x W hB hN; simp only [needs, sAt, dAt] at hN; simp only [putX, setX, List.foldl_cons, List.foldl_nil]; refine ⟨?_⟩; go_simp; refine (HFB.out _ _ _ (HXW.out W hB).1.1.1.1.1.2 (HXW.out W hB).2).mono ?_; rintro e w' ⟨rfl, b⟩; exact ⟨_, rfl, rfl, b⟩
    · intro x W hB hN; simp only [needs, sAt, dAt] at hN; simp only [putX, setX, List.foldl_cons, List.foldl_nil]; refine ⟨?_⟩; go_simp; exact ⟨rfl, Below.refl _ _⟩
  · intro x W hB hA
    simp only [allSp] at hA
    have r1 := hA.2.2.2.2.2.2.2.2.2.2.2.2.2.2.2.2.2.2.2.2.2.2.2.2.2.2.2.2.2.2.2.2.2.2.2.2.1
    have r2 := hA.2.2.2.2.2.2.2.2.2.2.2.2.2.2.2.2.2.2.2.2.2.2.2.2.2.2.2.2.2.2.2.2.2.2.2.2.2.2.2.2.1
    have HW := Lib.hid (HXW.out W hB)
    obtain ⟨g0, g1, g2⟩ := (HPE.out _ (HW.out).1.1.1.1.1.1.1.1.1.1.1.1.1.1.1.1.1).1
    clear hA hB HXW HRO HRL HRN HFR HFB q3 hp1 hp2
    simp only [putX, setX, List.foldl_cons, List.foldl_nil, List.drop_succ_cons, List.drop_zero, r1, r2, List.setIfInBounds_toArray, List.set_cons_succ, List.set_cons_zero]
    clear r1 r2
    rcases hcase with ⟨rfl, rfl, rfl, rfl, rfl⟩ | ⟨rfl, rfl, k, rfl, hbk⟩
    · go_wp2_with (go_at_call 51; refine (HRS.out _ _ _ (HPE.out _ (HW.out).1.1.1.1.1.1.1.1.1.1.1.1.1.1.1.1.1).2.1 (HPE.out _ (HW.out).1.1.1.1.1.1.1.1.1.1.1.1.1.1.1.1.1).2.2.1).mono ?_; rintro e w22 ⟨rfl, b22⟩; have H22 := Lib.hid (K21.out _ _ HW.out b22); clear b22 g0 g1 g2; obtain ⟨x4, x5⟩ := box_cells (H22.out).1.1.2)
      go_ret
      exact ⟨rfl, (HPE.out _ (H22.out).1.1.1.1.1.1.1.1.1.1.1.1.1.1.1.1.1).2.2.2⟩
    · obtain ⟨hlt, hbe⟩ := List.getElem?_eq_some_iff.1 hbk
      have hkl : (k : Int) < (bs.length : Int) := by omega
      have hk0 : (0 : Int) ≤ (k : Int) := by omega
      have HBA := Lib.hid (fun W (h : Sl e2 2 W (.slice A21 bs.length c21) bs) => h.at2 (k := k) hlt)
      rw [hbe] at HBA
      obtain ⟨bb, ob, rfl, _, _⟩ := HBA.out _ (HW.out).2
      clear hbk hbe
      go_wp2_with (go_at_call 51; refine (HRS.out _ _ _ (HPE.out _ (HW.out).1.1.1.1.1.1.1.1.1.1.1.1.1.1.1.1.1).2.1 (HPE.out _ (HW.out).1.1.1.1.1.1.1.1.1.1.1.1.1.1.1.1.1).2.2.1).mono ?_; rintro e w22 ⟨rfl, b22⟩; have H22 := Lib.hid (K21.out _ _ HW.out b22); clear b22 g0 g1 g2; obtain ⟨x4, x5⟩ := box_cells (H22.out).1.1.2; obtain ⟨b0, o0, e0, _, cb1, cb2⟩ := HBA.out _ (H22.out).2; injection e0 with e0; injection e0 with e01 e02; subst e01; subst e02)
      go_quiet (fail)
      go_wp2_with fail
      go_ret
      exact ⟨rfl, below_drN (HPE.out _ (H22.out).1.1.1.1.1.1.1.1.1.1.1.1.1.1.1.1.1).2.2.2 _⟩
theorem shapes_near (v u : Value) (l : Ln) (cu : List Int) (w : World) (hs : Sl e3 3 w v l.ks) (hu : Sl e1 1 w u cu) (hn : l.ks.length ≤ 12) (hc : cu.length ≤ 14) :
    Calls Try.prog 6 #[.agg #[.int .i64 l.x, .int .i64 l.z, v], u] w fun e w' => e = .returned (.bool true) ∧ Below w.heap.size w w' := by
  by_cases h1 : shapeErr l cu = 0
  · exact shapes_ok v u l cu w hs hu hn hc h1
  · exact shapes_err v u l cu w hs hu hn hc h1
end Go.Proofs.Ytghglgaimhfedaa
