/-
  The law CableBroken, walked: which links are broken is as the reference says; greater strengths break no more.
-/
import Derived.Test.YtghglgaimhfedaaQO
namespace Go.Proofs.Ytghglgaimhfedaa
open Go.RowKit Go.Shelf

set_option maxRecDepth 100000 in
set_option maxHeartbeats 1000000 in
theorem broken_far (v u x : Value) (l : Ln) (cu s : List Int) (w : World) (hs : Sl e3 3 w v l.ks) (hu : Sl e1 1 w u cu) (hx : Sl e1 1 w x s) (hn : ¬ (l.ks.length ≤ 12 ∧ cu.length ≤ 14 ∧ s.length ≤ 14)) :
    Calls Try.prog 7 #[.agg #[.int .i64 l.x, .int .i64 l.z, v], u, x] w fun e w' => e = .returned (.bool true) ∧ Below w.heap.size w w' := by
  have HS := Lib.hid hs
  obtain ⟨A, c, rfl, hcap⟩ := hs.form
  obtain ⟨A', c', rfl, hcap'⟩ := hu.form
  obtain ⟨A'', c'', rfl, hcap''⟩ := hx.form
  clear hs hu hx
  by_cases h1 : l.ks.length ≤ 12 ∧ cu.length ≤ 14
  · have f1 := fewB_true h1.1 h1.2
    have f2 : fewB l.ks.length (s.length : Int) = false := fewB_false (by omega)
    have T1 : Hid True := trivial
    clear hn h1 hcap hcap' hcap''
    go_enter Try.func7, Try.ntmps7
    go_wp2_with (first
      | (go_at_call 14; refine (awakeB _).mono ?_; rintro e w1 ⟨rfl, b1⟩; have HX := law_hx HS.out (fun _ => True) (fun _ _ => trivial) b1; clear b1; have HB1 := Lib.hid (Below.refl w1.heap.size w1); obtain ⟨g0, g1, g2⟩ := (HX.out _ HB1.out).1)
      | (go_at_call 15; clear T1; refine (few_any _ l _ _ (HX.out _ HB1.out).2.1).mono ?_; rintro e w2 ⟨rfl, b2⟩; have HB2 := Lib.hid (below_tr HB1.out b2); clear b2; obtain ⟨g3, g4, g5⟩ := (HX.out _ HB2.out).1)
      | (go_at_call 15; refine (few_any _ l _ _ (HX.out _ HB2.out).2.1).mono ?_; rintro e w3 ⟨rfl, b3⟩; have HB3 := Lib.hid (below_tr HB2.out b3); clear b3))
    go_ret
    exact ⟨rfl, (HX.out _ HB3.out).2.2.2⟩
  · have f1 : fewB l.ks.length (cu.length : Int) = false := fewB_false h1
    clear hn h1 hcap hcap' hcap''
    go_enter Try.func7, Try.ntmps7
    go_wp2_with (first
      | (go_at_call 14; refine (awakeB _).mono ?_; rintro e w1 ⟨rfl, b1⟩; have HX := law_hx HS.out (fun _ => True) (fun _ _ => trivial) b1; clear b1; have HB1 := Lib.hid (Below.refl w1.heap.size w1); obtain ⟨g0, g1, g2⟩ := (HX.out _ HB1.out).1)
      | (go_at_call 15; refine (few_any _ l _ _ (HX.out _ HB1.out).2.1).mono ?_; rintro e w2 ⟨rfl, b2⟩; have HB2 := Lib.hid (below_tr HB1.out b2); clear b2))
    go_ret
    exact ⟨rfl, (HX.out _ HB2.out).2.2.2⟩
set_option maxRecDepth 100000 in
set_option maxHeartbeats 4000000 in
theorem broken_near (v u x : Value) (l : Ln) (cu s : List Int) (w : World) (hs : Sl e3 3 w v l.ks) (hu : Sl e1 1 w u cu) (hx : Sl e1 1 w x s) (hn : l.ks.length ≤ 12) (hc : cu.length ≤ 14) (ht : s.length ≤ 14) :
    Calls Try.prog 7 #[.agg #[.int .i64 l.x, .int .i64 l.z, v], u, x] w fun e w' => e = .returned (.bool true) ∧ Below w.heap.size w w' := by
  have f1 := fewB_true hn hc
  have f2 := fewB_true hn ht
  have HS := Lib.hid hs
  have HU := Lib.hid hu
  have HT := Lib.hid hx
  obtain ⟨A, c, rfl, hcap⟩ := hs.form
  obtain ⟨A', c', rfl, hcap'⟩ := hu.form
  obtain ⟨A'', c'', rfl, hcap''⟩ := hx.form
  clear hs hu hx hcap hcap' hcap''
  have BI : ∀ s' : List Int, s'.length ≤ 14 → ∀ v u x w, Sl e3 3 w v l.ks → Sl e1 1 w u cu → Sl e1 1 w x s' → Calls Try.prog 52 #[.agg #[.int .i64 l.x, .int .i64 l.z, v], u, x] w fun e w' => ∃ A c, e = .returned (.tuple #[.slice A (brokenIn l cu s').1.length c, .int .i64 (brokenIn l cu s').2]) ∧ Sl e1 1 w' (.slice A (brokenIn l cu s').1.length c) (brokenIn l cu s').1 ∧ Below w.heap.size w w' := fun s' hs' v u x w h1 h2 h3 =>
    (BrokenIn_any v u x l cu s' w h1 h2 h3 (by omega) (by omega) (by omega)).mono fun e w' ⟨r, a, b, c⟩ => by
      have s := b.sl e1_len
      obtain ⟨A, c', rfl, _⟩ := s.form
      exact ⟨A, c', a, s, c⟩
  have HBI := Lib.hid (BI s ht)
  have HLE := Lib.hid (fun v w h1 => LineErr_any v l w h1 (by omega))
  have HCE := Lib.hid (fun v u w h1 h2 => rCurrentsErr_any v u l cu w h1 h2 (by omega))
  have HSE := Lib.hid (fun v u w h1 h2 => rStrengthsErr_any v u l s w h1 h2 (by omega))
  have T1 : Hid True := trivial
  have T2 : Hid True := trivial
  have T3 : Hid True := trivial
  have T4 : Hid True := trivial
  have T5 : Hid True := trivial
  have T6 : Hid True := trivial
  by_cases h0 : currentsErr l cu = 0
  · obtain ⟨h2, h3⟩ := currentsErr_ok h0
    have hl := lineErr_ok h2
    have hcu := cursErr_cu h3
    rw [h2] at HLE
    rw [h3] at HCE
    by_cases h4 : strsErr l s = 0
    · obtain ⟨h5, h6⟩ := strsErr_ok h4
      have htl : (tens l cu).length = s.length := (tens_len l cu hcu.len).trans h5.symm
      have e1' : brokenIn l cu s = (brokenR l cu s, 0) := (if_pos h0).trans (if_pos h4)
      have e3' : strongestIn l cu = ((strongR l cu).1, (strongR l cu).2, 0) := (if_pos h0).trans (by rw [tensions_eq]; rfl)
      have hts0 : 0 < (tens l cu).length := by rw [tens_len l cu hcu.len]; exact hl.n0
      have hnb : 0 ≤ (strongR l cu).2 ∧ (strongR l cu).2 ≤ 800000000 := by
        have hlt := strongK_lt (tens l cu) hts0 (tens l cu).length (Nat.le_refl _)
        have e : (strongR l cu).2 = sq (tens l cu)[strongK (tens l cu) (tens l cu).length] := by
          show sq ((tens l cu).getD _ (0, 0)) = _
          rw [getD_eq _ _ _ hlt]
        rw [e]
        have := tens_bd hl hcu _ (List.getElem_mem hlt)
        exact sq_bd2 this.1 this.2
      have hmax : ∀ i, i < s.length → sq ((tens l cu).getD i (0, 0)) ≤ (strongR l cu).2 := fun i hi => strongK_max (tens l cu) (tens l cu).length i (by rw [htl]; exact hi)
      obtain ⟨n0, n1⟩ := hnb
      have HRU := Lib.hid (fun w => RootUp_any (strongR l cu).2 w n0 (by omega))
      obtain ⟨r0, r1, r2⟩ := isqrtUp_bd n0 n1
      have e5' : brokenIn l cu (moreK s s.length) = (brokenR l cu (moreK s s.length), 0) := (if_pos h0).trans (if_pos (strsErr_of (by rw [moreK_len]; exact h5) (moreK_in s h6 _)))
      have e6' : brokenIn l cu (List.replicate s.length (isqrtUp (strongR l cu).2)) = ([], 0) := by
        refine (if_pos h0).trans ((if_pos (strsErr_of (by simpa using h5) (fun n hn => by rw [List.eq_of_mem_replicate hn]; exact ⟨r0, r1⟩))).trans ?_)
        unfold brokenR
        rw [htl, brokenK_none _ _ _ _ hmax r2]
      have hsub : ∀ x ∈ brokenR l cu (moreK s s.length), x ∈ brokenR l cu s := by
        unfold brokenR
        rw [htl]
        exact brokenK_fewer _ s h6 _
      have hbl : (brokenR l cu s).length ≤ 1000 := by
        have := brokenK_len (tens l cu) s (tens l cu).length
        unfold brokenR; omega
      have hfl : (brokenR l cu (moreK s s.length)).length ≤ 1000 := by
        have := brokenK_len (tens l cu) (moreK s s.length) (tens l cu).length
        unfold brokenR; omega
      have HSI := Lib.hid (fun v u w h1 h2 => StrongestIn_any v u l cu w h1 h2 (by omega) (by omega))
      rw [e3'] at HSI
      rw [h4] at HSE
      rw [e1'] at HBI
      simp only at HBI HSI
      have HRB : Hid (∀ v u x w, Sl e3 3 w v l.ks → Sl e1 1 w u cu → Sl e1 1 w x s → Calls Try.prog 54 #[.agg #[.int .i64 l.x, .int .i64 l.z, v], u, x] w fun e w' => ∃ r, e = .returned r ∧ Sl e1 1 w' r (brokenR l cu s) ∧ Below w.heap.size w w') := fun v u x w h1 h2 h3 =>
        (rBroken_any v u x l cu s w h1 h2 h3 hl hcu h5 h6).mono fun e w' ⟨r, a, b, c⟩ => ⟨r, a, b.sl e1_len, c⟩
      have HIN : Hid (∀ u v w, Sl e1 1 w u (brokenR l cu s) → Sl e1 1 w v (brokenR l cu s) → Calls Try.prog 24 #[u, v] w fun e w' => e = .returned (.bool true) ∧ Below w.heap.size w w') := fun u v w h k => by
        have := Ints_any u v (brokenR l cu s) (brokenR l cu s) w h k hbl hbl
        rwa [eqL_refl] at this
      have HB1' := Lib.hid (BI (moreK s s.length) (by rw [moreK_len]; exact ht))
      rw [e5'] at HB1'
      simp only at HB1'
      have HB2' : Hid (∀ v u x w, Sl e3 3 w v l.ks → Sl e1 1 w u cu → Sl e1 1 w x (List.replicate s.length (isqrtUp (strongR l cu).2)) → Calls Try.prog 52 #[.agg #[.int .i64 l.x, .int .i64 l.z, v], u, x] w fun e w' => ∃ A c, e = .returned (.tuple #[.slice A 0 c, .int .i64 0]) ∧ Below w.heap.size w w') := fun v u x w h1 h2 h3 => by
        have h := BI (List.replicate s.length (isqrtUp (strongR l cu).2)) (by simpa using ht) v u x w h1 h2 h3
        rw [e6'] at h
        exact h.mono fun e w' ⟨A, c, a, _, d⟩ => ⟨A, c, a, d⟩
      have HHA : Hid (∀ v y w, Sl e1 1 w v (brokenR l cu s) → y ∈ brokenR l cu (moreK s s.length) → Calls Try.prog 56 #[v, .int .i64 y] w fun e w' => e = .returned (.bool true) ∧ Below w.heap.size w w') := fun v y w h1 h2 => by
        have h := Has_any v (brokenR l cu s) y w h1 hbl
        rwa [hasL_of (hsub y h2)] at h
      have HS6 := Lib.hid h6
      clear e1' e3' e5' e6' h0 h2 h3 h4 h5 h6 hl hcu BI hmax hts0 htl hsub
      generalize hmo : brokenR l cu (moreK s s.length) = fw at *
      clear hmo
      generalize brokenR l cu s = br at *
      generalize hru : isqrtUp (strongR l cu).2 = ru at *
      clear hru
      generalize strongR l cu = sr at *
      obtain ⟨at', n⟩ := sr
      simp only at *
      obtain ⟨i0, hi, hz0, hz1, hz2⟩ := info_parts intinfo
      go_enter Try.func7, Try.ntmps7
      go_wp2_with (first
      | (go_at_call 14; refine (awakeB _).mono ?_; rintro e w1 ⟨rfl, b1⟩; have HX := law_hx HS.out (fun W => Sl e1 1 W (.slice A' cu.length c') cu ∧ Sl e1 1 W (.slice A'' s.length c'') s) (fun W hW => ⟨HU.out.below hW, HT.out.below hW⟩) b1; clear b1; have HB1 := Lib.hid (Below.refl w1.heap.size w1); obtain ⟨g0, g1, g2⟩ := (HX.out _ HB1.out).1)
      | (go_at_call 15; clear T1; refine (few_any _ l _ _ (HX.out _ HB1.out).2.1).mono ?_; rintro e w2 ⟨rfl, b2⟩; have HB2 := Lib.hid (below_tr HB1.out b2); clear b2 g0 g1 g2; obtain ⟨g0, g1, g2⟩ := (HX.out _ HB2.out).1)
      | (go_at_call 15; clear T2; refine (few_any _ l _ _ (HX.out _ HB2.out).2.1).mono ?_; rintro e w3 ⟨rfl, b3⟩; have HB3 := Lib.hid (below_tr HB2.out b3); clear b3 g0 g1 g2; obtain ⟨g0, g1, g2⟩ := (HX.out _ HB3.out).1)
      | (go_at_call 17; clear T3; refine (CopyLine_any _ l _ (HX.out _ HB3.out).2.1 (by omega)).mono ?_; rintro e w4 ⟨r4, rfl, s4, b4⟩; have S4 := Lib.hid s4; have HB4 := Lib.hid (below_tr HB3.out b4); clear s4 b4 g0 g1 g2)
      | (go_at_call 29; clear T4; refine (CopyInts_any _ cu _ (HX.out _ HB4.out).2.2.1.1 (by omega)).mono ?_; rintro e w5 ⟨r5, rfl, o5, b5⟩; have S5 := Lib.hid (And.intro (S4.out.below b5) (o5.sl e1_len)); have HB5 := Lib.hid (below_tr HB4.out b5); clear o5 b5)
      | (go_at_call 29; clear T5; refine (CopyInts_any _ s _ (HX.out _ HB5.out).2.2.1.2 (by omega)).mono ?_; rintro e w6 ⟨r6, rfl, o6, b6⟩; have S6 := Lib.hid (And.intro (S5.out.1.below b6) (And.intro (S5.out.2.below b6) (o6.sl e1_len))); have HB6 := Lib.hid (below_tr HB5.out b6); clear o6 b6)
      | (go_at_call 52; clear T6; refine (HBI.out _ _ _ _ S6.out.1 S6.out.2.1 S6.out.2.2).mono ?_; rintro e w7 ⟨A7, c7, rfl, s7, b7⟩; have S7 := Lib.hid s7; have HB7 := Lib.hid (below_tr HB6.out b7); clear s7 b7; obtain ⟨g0, g1, g2⟩ := (HX.out _ HB7.out).1)
      | (go_at_call 33; refine (HLE.out _ _ (HX.out _ HB7.out).2.1).mono ?_; rintro e w8 ⟨rfl, b8⟩; have C8 := Lib.hid b8; have HB8 := Lib.hid (below_tr HB7.out b8); clear b8 g0 g1 g2; obtain ⟨g0, g1, g2⟩ := (HX.out _ HB8.out).1)
      | (go_at_call 34; refine (HCE.out _ _ _ (HX.out _ HB8.out).2.1 (HX.out _ HB8.out).2.2.1.1).mono ?_; rintro e w9 ⟨rfl, b9⟩; have C9 := Lib.hid (below_tr C8.out b9); have HB9 := Lib.hid (below_tr HB8.out b9); clear b9 g0 g1 g2; obtain ⟨g0, g1, g2⟩ := (HX.out _ HB9.out).1)
      | (go_at_call 53; refine (HSE.out _ _ _ (HX.out _ HB9.out).2.1 (HX.out _ HB9.out).2.2.1.2).mono ?_; rintro e w10 ⟨rfl, b10⟩; have C10 := Lib.hid (below_tr C9.out b10); have HB10 := Lib.hid (below_tr HB9.out b10); clear b10 g0 g1 g2; obtain ⟨g0, g1, g2⟩ := (HX.out _ HB10.out).1)
      | (go_at_call 54; refine (HRB.out _ _ _ _ (HX.out _ HB10.out).2.1 (HX.out _ HB10.out).2.2.1.1 (HX.out _ HB10.out).2.2.1.2).mono ?_; rintro e w11 ⟨r11, rfl, s11, b11⟩; have S11 := Lib.hid s11; have C11 := Lib.hid (below_tr C10.out b11); have HB11 := Lib.hid (below_tr HB10.out b11); clear s11 b11 g0 g1 g2)
      | (go_at_call 24; refine (HIN.out _ _ _ (S7.out.below C11.out) S11.out).mono ?_; rintro e w12 ⟨rfl, b12⟩; have C12 := Lib.hid (below_tr C11.out b12); have HB12 := Lib.hid (below_tr HB11.out b12); clear b12; obtain ⟨g0, g1, g2⟩ := (HX.out _ HB12.out).1)
      | (go_at_call 17; refine (CopyLine_any _ l _ (HX.out _ HB12.out).2.1 (by omega)).mono ?_; rintro e w13 ⟨r13, rfl, s13, b13⟩; have S13 := Lib.hid s13; have C13 := Lib.hid (below_tr C12.out b13); have HB13 := Lib.hid (below_tr HB12.out b13); clear s13 b13 g0 g1 g2)
      | (go_at_call 29; refine (CopyInts_any _ cu _ (HX.out _ HB13.out).2.2.1.1 (by omega)).mono ?_; rintro e w14 ⟨r14, rfl, o14, b14⟩; have S14 := Lib.hid (And.intro (S13.out.below b14) (o14.sl e1_len)); have C14 := Lib.hid (below_tr C13.out b14); have HB14 := Lib.hid (below_tr HB13.out b14); clear o14 b14)
      | (go_at_call 32; refine (HSI.out _ _ _ S14.out.1 S14.out.2).mono ?_; rintro e w15 ⟨rfl, b15⟩; have C15 := Lib.hid (below_tr C14.out b15); have HB15 := Lib.hid (below_tr HB14.out b15); clear b15))
      go_loopw [13, 14, 15] (fun p q i wr => ∃ k : Nat, k ≤ s.length ∧ i = .int .i64 k ∧ Ow e1 1 3 w15.heap.size wr p (moreK s k) ∧ Ow e1 1 3 w15.heap.size wr q (List.replicate k ru) ∧ Apart p q ∧ Below w15.heap.size w15 wr) (fun _ _ i _ => s.length - (intOf i).toNat)
      case atStart => exact ⟨0, Nat.zero_le _, rfl, Ow.nil _ _ _ _ _, Ow.nil _ _ _ _ _, (fun b h => by cases h), Below.refl _ _⟩
      case round =>
        obtain ⟨k, hk, rfl, hownp, hownq, hap, hb⟩ := hrel
        have HOP := Lib.hid hownp
        have HOQ := Lib.hid hownq
        have HAP := Lib.hid hap
        have HB := Lib.hid hb
        clear hownp hownq hap
        by_cases hlt : k < s.length
        · obtain ⟨bs, os, rfl, hbs, hc0⟩ := (HX.out _ (below_tr HB15.out hb)).2.2.1.2.at1 hlt
          have hms := moreK_succ s k
          rw [getD_eq _ _ _ hlt] at hms
          have hrs := replicate_snoc k ru
          have hy := HS6.out s[k] (List.getElem_mem hlt)
          have hl1 := moreK_len s k
          have HMS := Lib.hid hms
          have HRS := Lib.hid hrs
          clear hb hms hrs
          generalize s[k] = y at *
          have hw1 : IntKind.i64.wrap (y + (k : Int)) = y + (k : Int) := IntWalk.i64_in _ (by omega)
          have T7 : Hid True := trivial
          have hwz := HB.out.size
          by_cases hmin : y + (k : Int) < 50000
          · have hmn : min 50000 (y + (k : Int)) = y + (k : Int) := by omega
            rw [hmn] at HMS
            clear hmn
            go_wp2_with (first
              | (at_builtin; clear T7; refine wpList_append_at _ rfl _ _ 36 rfl w15.heap.size 3 i0 _ 1 8 Try.underlying36 hi hz0 hz1 hz2 rfl (by decide) _ _ _ rfl (HOP.out.own.alloc _) ⟨_, 0, none⟩ 1 1 (e1 (y + (k : Int))) rfl rfl (cells_new _ _ _) (e1_one _) (by simp only [maxLen]; omega) (by omega) (by simp; omega) ?_; intro v1 w16 hown1 hg1 hblk1; have HO1 := Lib.hid hown1; have HQ16 := Lib.hid ((HOQ.out.alloc (.cells #[.int .i64 (y + (k : Int))] 3)).beside HAP.out.symm hg1); have HAP1 : Hid (Apart v1 u14) := Apart.grown HAP.out (HOQ.out.alloc (.cells #[.int .i64 (y + (k : Int))] 3)) (Nat.le_refl _) hblk1; have HB16 := Lib.hid ((HOP.out.alloc _).grown hg1 (below_al HB.out _) (Nat.le_refl _)); have hz16 := HB16.out.size; clear hown1 hg1 hblk1)
              | (go_at_call 55; refine (HRU.out _).mono ?_; rintro e w17 ⟨rfl, rfl⟩)
              | (at_builtin; refine wpList_append_at _ rfl _ _ 36 rfl w15.heap.size 3 i0 _ 1 8 Try.underlying36 hi hz0 hz1 hz2 rfl (by decide) _ _ _ rfl (HQ16.out.own.alloc _) ⟨_, 0, none⟩ 1 1 (e1 ru) rfl rfl (cells_new _ _ _) (e1_one _) (by simp only [maxLen]; simp; omega) (by simp; omega) (by simp; omega) ?_; intro v2 w18 hown2 hg2 hblk2; have HO2 := Lib.hid hown2; have HG2 := Lib.hid hg2; have HK2 := Lib.hid hblk2; clear hown2 hg2 hblk2))
            go_roundw
            case rel =>
              have hp1 : Ow e1 1 3 w15.heap.size (w16.alloc (.cells #[.int .i64 ru] 3)) v1 (moreK s (k + 1)) := by rw [HMS.out]; exact (Ow.snoc HO1.out).alloc _
              exact ⟨k + 1, by omega, by go_num, hp1.beside HAP1.out HG2.out, by rw [HRS.out]; exact Ow.snoc HO2.out, (Apart.grown HAP1.out.symm hp1 (Nat.le_refl _) HK2.out).symm, (HQ16.out.alloc _).grown HG2.out (below_al HB16.out _) (Nat.le_refl _)⟩
            case measure => simp [intOf]; omega
          · have hmn : min 50000 (y + (k : Int)) = 50000 := by omega
            rw [hmn] at HMS
            clear hmn
            go_wp2_with (first
              | (at_builtin; clear T7; refine wpList_append_at _ rfl _ _ 36 rfl w15.heap.size 3 i0 _ 1 8 Try.underlying36 hi hz0 hz1 hz2 rfl (by decide) _ _ _ rfl (HOP.out.own.alloc _) ⟨_, 0, none⟩ 1 1 (e1 (50000)) rfl rfl (cells_new _ _ _) (e1_one _) (by simp only [maxLen]; omega) (by omega) (by simp; omega) ?_; intro v1 w16 hown1 hg1 hblk1; have HO1 := Lib.hid hown1; have HQ16 := Lib.hid ((HOQ.out.alloc (.cells #[.int .i64 (50000)] 3)).beside HAP.out.symm hg1); have HAP1 : Hid (Apart v1 u14) := Apart.grown HAP.out (HOQ.out.alloc (.cells #[.int .i64 (50000)] 3)) (Nat.le_refl _) hblk1; have HB16 := Lib.hid ((HOP.out.alloc _).grown hg1 (below_al HB.out _) (Nat.le_refl _)); have hz16 := HB16.out.size; clear hown1 hg1 hblk1)
              | (go_at_call 55; refine (HRU.out _).mono ?_; rintro e w17 ⟨rfl, rfl⟩)
              | (at_builtin; refine wpList_append_at _ rfl _ _ 36 rfl w15.heap.size 3 i0 _ 1 8 Try.underlying36 hi hz0 hz1 hz2 rfl (by decide) _ _ _ rfl (HQ16.out.own.alloc _) ⟨_, 0, none⟩ 1 1 (e1 ru) rfl rfl (cells_new _ _ _) (e1_one _) (by simp only [maxLen]; simp; omega) (by simp; omega) (by simp; omega) ?_; intro v2 w18 hown2 hg2 hblk2; have HO2 := Lib.hid hown2; have HG2 := Lib.hid hg2; have HK2 := Lib.hid hblk2; clear hown2 hg2 hblk2))
            go_roundw
            case rel =>
              have hp1 : Ow e1 1 3 w15.heap.size (w16.alloc (.cells #[.int .i64 ru] 3)) v1 (moreK s (k + 1)) := by rw [HMS.out]; exact (Ow.snoc HO1.out).alloc _
              exact ⟨k + 1, by omega, by go_num, hp1.beside HAP1.out HG2.out, by rw [HRS.out]; exact Ow.snoc HO2.out, (Apart.grown HAP1.out.symm hp1 (Nat.le_refl _) HK2.out).symm, (HQ16.out.alloc _).grown HG2.out (below_al HB16.out _) (Nat.le_refl _)⟩
            case measure => simp [intOf]; omega
        · obtain rfl : k = s.length := by omega
          have HBL := Lib.hid (below_tr HB15.out HB.out)
          have HCL := Lib.hid (below_tr C15.out HB.out)
          have SP := Lib.hid (HOP.out.sl e1_len)
          have SQ := Lib.hid (HOQ.out.sl e1_len)
          have T8 : Hid True := trivial
          have T9 : Hid True := trivial
          have T10 : Hid True := trivial
          obtain ⟨g0, g1, g2⟩ := (HX.out _ HBL.out).1
          clear hb HOP HOQ HAP HRU HRB HIN HSI HBI HSE HCE HLE
          go_wp2_with (first
            | (go_at_call 17; clear T8; refine (CopyLine_any _ l _ (HX.out _ HBL.out).2.1 (by omega)).mono ?_; rintro e w20 ⟨r20, rfl, s20, b20⟩; have S20 := Lib.hid s20; have D20 := Lib.hid b20; clear s20 b20 g0 g1 g2)
            | (go_at_call 29; clear T9; refine (CopyInts_any _ cu _ (HX.out _ (below_tr HBL.out D20.out)).2.2.1.1 (by omega)).mono ?_; rintro e w21 ⟨r21, rfl, o21, b21⟩; have S21 := Lib.hid (And.intro (S20.out.below b21) (o21.sl e1_len)); have D21 := Lib.hid (below_tr D20.out b21); clear o21 b21)
            | (go_at_call 52; clear T10; refine (HB1'.out _ _ _ _ S21.out.1 S21.out.2 (SP.out.below D21.out)).mono ?_; rintro e w22 ⟨A22, c22, rfl, s22, b22⟩; have S22 := Lib.hid s22; have D22 := Lib.hid (below_tr D21.out b22); clear s22 b22; obtain ⟨g0, g1, g2⟩ := (HX.out _ (below_tr HBL.out D22.out)).1)
            | (go_at_call 17; refine (CopyLine_any _ l _ (HX.out _ (below_tr HBL.out D22.out)).2.1 (by omega)).mono ?_; rintro e w23 ⟨r23, rfl, s23, b23⟩; have S23 := Lib.hid s23; have F23 := Lib.hid b23; have D23 := Lib.hid (below_tr D22.out b23); clear s23 b23 g0 g1 g2)
            | (go_at_call 29; refine (CopyInts_any _ cu _ (HX.out _ (below_tr HBL.out D23.out)).2.2.1.1 (by omega)).mono ?_; rintro e w24 ⟨r24, rfl, o24, b24⟩; have S24 := Lib.hid (And.intro (S23.out.below b24) (o24.sl e1_len)); have F24 := Lib.hid (below_tr F23.out b24); have D24 := Lib.hid (below_tr D23.out b24); clear o24 b24)
            | (go_at_call 52; refine (HB2'.out _ _ _ _ S24.out.1 S24.out.2 (SQ.out.below D24.out)).mono ?_; rintro e w25 ⟨A25, c25, rfl, b25⟩; have F25 := Lib.hid (below_tr F24.out b25); have D25 := Lib.hid (below_tr D24.out b25); clear b25))
          have SB := Lib.hid (S7.out.below (below_tr HCL.out D25.out))
          have SF := Lib.hid (S22.out.below F25.out)
          have HBE := Lib.hid (below_tr HBL.out D25.out)
          go_loopw [20] (fun i wx => ∃ k : Nat, k ≤ fw.length ∧ i = .int .i64 k ∧ Below w25.heap.size w25 wx) (fun i _ => fw.length - (intOf i).toNat)
          case atStart => exact ⟨0, Nat.zero_le _, rfl, Below.refl _ _⟩
          case round =>
            obtain ⟨k, hk, rfl, hb⟩ := hrel
            have HB' := Lib.hid hb
            by_cases hlt : k < fw.length
            · obtain ⟨bf, of', rfl, hbf, hc0⟩ := (SF.out.below hb).at1 hlt
              have HM := Lib.hid (List.getElem_mem hlt)
              clear hb
              generalize fw[k] = y at *
              go_wp2_with (go_at_call 56; refine (HHA.out _ _ _ (SB.out.below HB'.out) HM.out).mono ?_; rintro e w26 ⟨rfl, b26⟩)
              go_roundw
              case rel => exact ⟨k + 1, by omega, by go_num, below_tr HB'.out b26⟩
              case measure => simp [intOf]; omega
            · clear hb
              obtain rfl : k = fw.length := by omega
              go_wp2_with fail
              go_ret
              exact ⟨rfl, (HX.out _ (below_tr HBE.out HB'.out)).2.2.2⟩
    · have e1' : brokenIn l cu s = ([], strsErr l s) := (if_pos h0).trans (if_neg h4)
      have h4' := ne1 h4
      rw [e1'] at HBI
      simp only [List.length_nil] at HBI
      clear e1' h0 h2 h3 h4 hl hcu BI
      generalize strsErr l s = d at *
      go_enter Try.func7, Try.ntmps7
      go_wp2_with (first
      | (go_at_call 14; refine (awakeB _).mono ?_; rintro e w1 ⟨rfl, b1⟩; have HX := law_hx HS.out (fun W => Sl e1 1 W (.slice A' cu.length c') cu ∧ Sl e1 1 W (.slice A'' s.length c'') s) (fun W hW => ⟨HU.out.below hW, HT.out.below hW⟩) b1; clear b1; have HB1 := Lib.hid (Below.refl w1.heap.size w1); obtain ⟨g0, g1, g2⟩ := (HX.out _ HB1.out).1)
      | (go_at_call 15; clear T1; refine (few_any _ l _ _ (HX.out _ HB1.out).2.1).mono ?_; rintro e w2 ⟨rfl, b2⟩; have HB2 := Lib.hid (below_tr HB1.out b2); clear b2 g0 g1 g2; obtain ⟨g0, g1, g2⟩ := (HX.out _ HB2.out).1)
      | (go_at_call 15; clear T2; refine (few_any _ l _ _ (HX.out _ HB2.out).2.1).mono ?_; rintro e w3 ⟨rfl, b3⟩; have HB3 := Lib.hid (below_tr HB2.out b3); clear b3 g0 g1 g2; obtain ⟨g0, g1, g2⟩ := (HX.out _ HB3.out).1)
      | (go_at_call 17; clear T3; refine (CopyLine_any _ l _ (HX.out _ HB3.out).2.1 (by omega)).mono ?_; rintro e w4 ⟨r4, rfl, s4, b4⟩; have S4 := Lib.hid s4; have HB4 := Lib.hid (below_tr HB3.out b4); clear s4 b4 g0 g1 g2)
      | (go_at_call 29; clear T4; refine (CopyInts_any _ cu _ (HX.out _ HB4.out).2.2.1.1 (by omega)).mono ?_; rintro e w5 ⟨r5, rfl, o5, b5⟩; have S5 := Lib.hid (And.intro (S4.out.below b5) (o5.sl e1_len)); have HB5 := Lib.hid (below_tr HB4.out b5); clear o5 b5)
      | (go_at_call 29; clear T5; refine (CopyInts_any _ s _ (HX.out _ HB5.out).2.2.1.2 (by omega)).mono ?_; rintro e w6 ⟨r6, rfl, o6, b6⟩; have S6 := Lib.hid (And.intro (S5.out.1.below b6) (And.intro (S5.out.2.below b6) (o6.sl e1_len))); have HB6 := Lib.hid (below_tr HB5.out b6); clear o6 b6)
      | (go_at_call 52; clear T6; refine (HBI.out _ _ _ _ S6.out.1 S6.out.2.1 S6.out.2.2).mono ?_; rintro e w7 ⟨A7, c7, rfl, s7, b7⟩; have S7 := Lib.hid s7; have HB7 := Lib.hid (below_tr HB6.out b7); clear s7 b7; obtain ⟨g0, g1, g2⟩ := (HX.out _ HB7.out).1)
      | (go_at_call 33; refine (HLE.out _ _ (HX.out _ HB7.out).2.1).mono ?_; rintro e w8 ⟨rfl, b8⟩; have C8 := Lib.hid b8; have HB8 := Lib.hid (below_tr HB7.out b8); clear b8 g0 g1 g2; obtain ⟨g0, g1, g2⟩ := (HX.out _ HB8.out).1)
      | (go_at_call 34; refine (HCE.out _ _ _ (HX.out _ HB8.out).2.1 (HX.out _ HB8.out).2.2.1.1).mono ?_; rintro e w9 ⟨rfl, b9⟩; have C9 := Lib.hid (below_tr C8.out b9); have HB9 := Lib.hid (below_tr HB8.out b9); clear b9 g0 g1 g2; obtain ⟨g0, g1, g2⟩ := (HX.out _ HB9.out).1)
      | (go_at_call 53; refine (HSE.out _ _ _ (HX.out _ HB9.out).2.1 (HX.out _ HB9.out).2.2.1.2).mono ?_; rintro e w10 ⟨rfl, b10⟩; have C10 := Lib.hid (below_tr C9.out b10); have HB10 := Lib.hid (below_tr HB9.out b10); clear b10 g0 g1 g2; obtain ⟨g0, g1, g2⟩ := (HX.out _ HB10.out).1)
      | (go_at_call 54; refine (HRB.out _ _ _ _ (HX.out _ HB10.out).2.1 (HX.out _ HB10.out).2.2.1.1 (HX.out _ HB10.out).2.2.1.2).mono ?_; rintro e w11 ⟨r11, rfl, s11, b11⟩; have S11 := Lib.hid s11; have C11 := Lib.hid (below_tr C10.out b11); have HB11 := Lib.hid (below_tr HB10.out b11); clear s11 b11 g0 g1 g2)
      | (go_at_call 24; refine (HIN.out _ _ _ (S7.out.below C11.out) S11.out).mono ?_; rintro e w12 ⟨rfl, b12⟩; have C12 := Lib.hid (below_tr C11.out b12); have HB12 := Lib.hid (below_tr HB11.out b12); clear b12; obtain ⟨g0, g1, g2⟩ := (HX.out _ HB12.out).1)
      | (go_at_call 17; refine (CopyLine_any _ l _ (HX.out _ HB12.out).2.1 (by omega)).mono ?_; rintro e w13 ⟨r13, rfl, s13, b13⟩; have S13 := Lib.hid s13; have C13 := Lib.hid (below_tr C12.out b13); have HB13 := Lib.hid (below_tr HB12.out b13); clear s13 b13 g0 g1 g2)
      | (go_at_call 29; refine (CopyInts_any _ cu _ (HX.out _ HB13.out).2.2.1.1 (by omega)).mono ?_; rintro e w14 ⟨r14, rfl, o14, b14⟩; have S14 := Lib.hid (And.intro (S13.out.below b14) (o14.sl e1_len)); have C14 := Lib.hid (below_tr C13.out b14); have HB14 := Lib.hid (below_tr HB13.out b14); clear o14 b14)
      | (go_at_call 32; refine (HSI.out _ _ _ S14.out.1 S14.out.2).mono ?_; rintro e w15 ⟨rfl, b15⟩; have C15 := Lib.hid (below_tr C14.out b15); have HB15 := Lib.hid (below_tr HB14.out b15); clear b15))
      go_ret
      exact ⟨rfl, (HX.out _ HB10.out).2.2.2⟩
  · have h0' := ne1 h0
    have h0'' := eq1 h0
    have e1' : brokenIn l cu s = ([], currentsErr l cu) := if_neg h0
    rw [e1'] at HBI
    simp only [List.length_nil] at HBI
    clear e1' BI
    by_cases h4 : lineErr l = 0
    · have e4 : currentsErr l cu = cursErr l cu := if_pos h4
      rw [h4] at HLE
      rw [← e4] at HCE
      clear e4 h4 h0
      generalize currentsErr l cu = d at *
      go_enter Try.func7, Try.ntmps7
      go_wp2_with (first
      | (go_at_call 14; refine (awakeB _).mono ?_; rintro e w1 ⟨rfl, b1⟩; have HX := law_hx HS.out (fun W => Sl e1 1 W (.slice A' cu.length c') cu ∧ Sl e1 1 W (.slice A'' s.length c'') s) (fun W hW => ⟨HU.out.below hW, HT.out.below hW⟩) b1; clear b1; have HB1 := Lib.hid (Below.refl w1.heap.size w1); obtain ⟨g0, g1, g2⟩ := (HX.out _ HB1.out).1)
      | (go_at_call 15; clear T1; refine (few_any _ l _ _ (HX.out _ HB1.out).2.1).mono ?_; rintro e w2 ⟨rfl, b2⟩; have HB2 := Lib.hid (below_tr HB1.out b2); clear b2 g0 g1 g2; obtain ⟨g0, g1, g2⟩ := (HX.out _ HB2.out).1)
      | (go_at_call 15; clear T2; refine (few_any _ l _ _ (HX.out _ HB2.out).2.1).mono ?_; rintro e w3 ⟨rfl, b3⟩; have HB3 := Lib.hid (below_tr HB2.out b3); clear b3 g0 g1 g2; obtain ⟨g0, g1, g2⟩ := (HX.out _ HB3.out).1)
      | (go_at_call 17; clear T3; refine (CopyLine_any _ l _ (HX.out _ HB3.out).2.1 (by omega)).mono ?_; rintro e w4 ⟨r4, rfl, s4, b4⟩; have S4 := Lib.hid s4; have HB4 := Lib.hid (below_tr HB3.out b4); clear s4 b4 g0 g1 g2)
      | (go_at_call 29; clear T4; refine (CopyInts_any _ cu _ (HX.out _ HB4.out).2.2.1.1 (by omega)).mono ?_; rintro e w5 ⟨r5, rfl, o5, b5⟩; have S5 := Lib.hid (And.intro (S4.out.below b5) (o5.sl e1_len)); have HB5 := Lib.hid (below_tr HB4.out b5); clear o5 b5)
      | (go_at_call 29; clear T5; refine (CopyInts_any _ s _ (HX.out _ HB5.out).2.2.1.2 (by omega)).mono ?_; rintro e w6 ⟨r6, rfl, o6, b6⟩; have S6 := Lib.hid (And.intro (S5.out.1.below b6) (And.intro (S5.out.2.below b6) (o6.sl e1_len))); have HB6 := Lib.hid (below_tr HB5.out b6); clear o6 b6)
      | (go_at_call 52; clear T6; refine (HBI.out _ _ _ _ S6.out.1 S6.out.2.1 S6.out.2.2).mono ?_; rintro e w7 ⟨A7, c7, rfl, s7, b7⟩; have S7 := Lib.hid s7; have HB7 := Lib.hid (below_tr HB6.out b7); clear s7 b7; obtain ⟨g0, g1, g2⟩ := (HX.out _ HB7.out).1)
      | (go_at_call 33; refine (HLE.out _ _ (HX.out _ HB7.out).2.1).mono ?_; rintro e w8 ⟨rfl, b8⟩; have C8 := Lib.hid b8; have HB8 := Lib.hid (below_tr HB7.out b8); clear b8 g0 g1 g2; obtain ⟨g0, g1, g2⟩ := (HX.out _ HB8.out).1)
      | (go_at_call 34; refine (HCE.out _ _ _ (HX.out _ HB8.out).2.1 (HX.out _ HB8.out).2.2.1.1).mono ?_; rintro e w9 ⟨rfl, b9⟩; have C9 := Lib.hid (below_tr C8.out b9); have HB9 := Lib.hid (below_tr HB8.out b9); clear b9 g0 g1 g2; obtain ⟨g0, g1, g2⟩ := (HX.out _ HB9.out).1)
      | (go_at_call 53; refine (HSE.out _ _ _ (HX.out _ HB9.out).2.1 (HX.out _ HB9.out).2.2.1.2).mono ?_; rintro e w10 ⟨rfl, b10⟩; have C10 := Lib.hid (below_tr C9.out b10); have HB10 := Lib.hid (below_tr HB9.out b10); clear b10 g0 g1 g2; obtain ⟨g0, g1, g2⟩ := (HX.out _ HB10.out).1)
      | (go_at_call 54; refine (HRB.out _ _ _ _ (HX.out _ HB10.out).2.1 (HX.out _ HB10.out).2.2.1.1 (HX.out _ HB10.out).2.2.1.2).mono ?_; rintro e w11 ⟨r11, rfl, s11, b11⟩; have S11 := Lib.hid s11; have C11 := Lib.hid (below_tr C10.out b11); have HB11 := Lib.hid (below_tr HB10.out b11); clear s11 b11 g0 g1 g2)
      | (go_at_call 24; refine (HIN.out _ _ _ (S7.out.below C11.out) S11.out).mono ?_; rintro e w12 ⟨rfl, b12⟩; have C12 := Lib.hid (below_tr C11.out b12); have HB12 := Lib.hid (below_tr HB11.out b12); clear b12; obtain ⟨g0, g1, g2⟩ := (HX.out _ HB12.out).1)
      | (go_at_call 17; refine (CopyLine_any _ l _ (HX.out _ HB12.out).2.1 (by omega)).mono ?_; rintro e w13 ⟨r13, rfl, s13, b13⟩; have S13 := Lib.hid s13; have C13 := Lib.hid (below_tr C12.out b13); have HB13 := Lib.hid (below_tr HB12.out b13); clear s13 b13 g0 g1 g2)
      | (go_at_call 29; refine (CopyInts_any _ cu _ (HX.out _ HB13.out).2.2.1.1 (by omega)).mono ?_; rintro e w14 ⟨r14, rfl, o14, b14⟩; have S14 := Lib.hid (And.intro (S13.out.below b14) (o14.sl e1_len)); have C14 := Lib.hid (below_tr C13.out b14); have HB14 := Lib.hid (below_tr HB13.out b14); clear o14 b14)
      | (go_at_call 32; refine (HSI.out _ _ _ S14.out.1 S14.out.2).mono ?_; rintro e w15 ⟨rfl, b15⟩; have C15 := Lib.hid (below_tr C14.out b15); have HB15 := Lib.hid (below_tr HB14.out b15); clear b15))
      go_ret
      exact ⟨rfl, (HX.out _ HB9.out).2.2.2⟩
    · have e4 : currentsErr l cu = lineErr l := if_neg h4
      rw [← e4] at HLE
      clear e4 h4 h0
      generalize currentsErr l cu = d at *
      go_enter Try.func7, Try.ntmps7
      go_wp2_with (first
      | (go_at_call 14; refine (awakeB _).mono ?_; rintro e w1 ⟨rfl, b1⟩; have HX := law_hx HS.out (fun W => Sl e1 1 W (.slice A' cu.length c') cu ∧ Sl e1 1 W (.slice A'' s.length c'') s) (fun W hW => ⟨HU.out.below hW, HT.out.below hW⟩) b1; clear b1; have HB1 := Lib.hid (Below.refl w1.heap.size w1); obtain ⟨g0, g1, g2⟩ := (HX.out _ HB1.out).1)
      | (go_at_call 15; clear T1; refine (few_any _ l _ _ (HX.out _ HB1.out).2.1).mono ?_; rintro e w2 ⟨rfl, b2⟩; have HB2 := Lib.hid (below_tr HB1.out b2); clear b2 g0 g1 g2; obtain ⟨g0, g1, g2⟩ := (HX.out _ HB2.out).1)
      | (go_at_call 15; clear T2; refine (few_any _ l _ _ (HX.out _ HB2.out).2.1).mono ?_; rintro e w3 ⟨rfl, b3⟩; have HB3 := Lib.hid (below_tr HB2.out b3); clear b3 g0 g1 g2; obtain ⟨g0, g1, g2⟩ := (HX.out _ HB3.out).1)
      | (go_at_call 17; clear T3; refine (CopyLine_any _ l _ (HX.out _ HB3.out).2.1 (by omega)).mono ?_; rintro e w4 ⟨r4, rfl, s4, b4⟩; have S4 := Lib.hid s4; have HB4 := Lib.hid (below_tr HB3.out b4); clear s4 b4 g0 g1 g2)
      | (go_at_call 29; clear T4; refine (CopyInts_any _ cu _ (HX.out _ HB4.out).2.2.1.1 (by omega)).mono ?_; rintro e w5 ⟨r5, rfl, o5, b5⟩; have S5 := Lib.hid (And.intro (S4.out.below b5) (o5.sl e1_len)); have HB5 := Lib.hid (below_tr HB4.out b5); clear o5 b5)
      | (go_at_call 29; clear T5; refine (CopyInts_any _ s _ (HX.out _ HB5.out).2.2.1.2 (by omega)).mono ?_; rintro e w6 ⟨r6, rfl, o6, b6⟩; have S6 := Lib.hid (And.intro (S5.out.1.below b6) (And.intro (S5.out.2.below b6) (o6.sl e1_len))); have HB6 := Lib.hid (below_tr HB5.out b6); clear o6 b6)
      | (go_at_call 52; clear T6; refine (HBI.out _ _ _ _ S6.out.1 S6.out.2.1 S6.out.2.2).mono ?_; rintro e w7 ⟨A7, c7, rfl, s7, b7⟩; have S7 := Lib.hid s7; have HB7 := Lib.hid (below_tr HB6.out b7); clear s7 b7; obtain ⟨g0, g1, g2⟩ := (HX.out _ HB7.out).1)
      | (go_at_call 33; refine (HLE.out _ _ (HX.out _ HB7.out).2.1).mono ?_; rintro e w8 ⟨rfl, b8⟩; have C8 := Lib.hid b8; have HB8 := Lib.hid (below_tr HB7.out b8); clear b8 g0 g1 g2; obtain ⟨g0, g1, g2⟩ := (HX.out _ HB8.out).1)
      | (go_at_call 34; refine (HCE.out _ _ _ (HX.out _ HB8.out).2.1 (HX.out _ HB8.out).2.2.1.1).mono ?_; rintro e w9 ⟨rfl, b9⟩; have C9 := Lib.hid (below_tr C8.out b9); have HB9 := Lib.hid (below_tr HB8.out b9); clear b9 g0 g1 g2; obtain ⟨g0, g1, g2⟩ := (HX.out _ HB9.out).1)
      | (go_at_call 53; refine (HSE.out _ _ _ (HX.out _ HB9.out).2.1 (HX.out _ HB9.out).2.2.1.2).mono ?_; rintro e w10 ⟨rfl, b10⟩; have C10 := Lib.hid (below_tr C9.out b10); have HB10 := Lib.hid (below_tr HB9.out b10); clear b10 g0 g1 g2; obtain ⟨g0, g1, g2⟩ := (HX.out _ HB10.out).1)
      | (go_at_call 54; refine (HRB.out _ _ _ _ (HX.out _ HB10.out).2.1 (HX.out _ HB10.out).2.2.1.1 (HX.out _ HB10.out).2.2.1.2).mono ?_; rintro e w11 ⟨r11, rfl, s11, b11⟩; have S11 := Lib.hid s11; have C11 := Lib.hid (below_tr C10.out b11); have HB11 := Lib.hid (below_tr HB10.out b11); clear s11 b11 g0 g1 g2)
      | (go_at_call 24; refine (HIN.out _ _ _ (S7.out.below C11.out) S11.out).mono ?_; rintro e w12 ⟨rfl, b12⟩; have C12 := Lib.hid (below_tr C11.out b12); have HB12 := Lib.hid (below_tr HB11.out b12); clear b12; obtain ⟨g0, g1, g2⟩ := (HX.out _ HB12.out).1)
      | (go_at_call 17; refine (CopyLine_any _ l _ (HX.out _ HB12.out).2.1 (by omega)).mono ?_; rintro e w13 ⟨r13, rfl, s13, b13⟩; have S13 := Lib.hid s13; have C13 := Lib.hid (below_tr C12.out b13); have HB13 := Lib.hid (below_tr HB12.out b13); clear s13 b13 g0 g1 g2)
      | (go_at_call 29; refine (CopyInts_any _ cu _ (HX.out _ HB13.out).2.2.1.1 (by omega)).mono ?_; rintro e w14 ⟨r14, rfl, o14, b14⟩; have S14 := Lib.hid (And.intro (S13.out.below b14) (o14.sl e1_len)); have C14 := Lib.hid (below_tr C13.out b14); have HB14 := Lib.hid (below_tr HB13.out b14); clear o14 b14)
      | (go_at_call 32; refine (HSI.out _ _ _ S14.out.1 S14.out.2).mono ?_; rintro e w15 ⟨rfl, b15⟩; have C15 := Lib.hid (below_tr C14.out b15); have HB15 := Lib.hid (below_tr HB14.out b15); clear b15))
      go_ret
      exact ⟨rfl, (HX.out _ HB8.out).2.2.2⟩
end Go.Proofs.Ytghglgaimhfedaa
