/-
  The law CableTensions, walked: the tensions, the balance and the strongest link are as the reference says.
-/
import Derived.Test.YtghglgaimhfedaaZMf
import Derived.Test.YtghglgaimhfedaaQK
namespace Go.Proofs.Ytghglgaimhfedaa
open Go.RowKit Go.Shelf

theorem awakeB (w : World) : Calls Try.prog 14 #[] w fun e w' => e = .returned (.bool true) ∧ Below w.heap.size w w' := awake_any w
theorem fewB_true {k : Nat} {n : Nat} (h : k ≤ 12) (h' : n ≤ 14) : fewB k (n : Int) = true := by unfold fewB; rw [decide_eq_true_eq]; omega
theorem fewB_false {k : Nat} {n : Nat} (h : ¬ (k ≤ 12 ∧ n ≤ 14)) : fewB k (n : Int) = false := by unfold fewB; rw [decide_eq_false_iff_not]; omega
/-- Behind the first call of a law: the box of its line, and its arguments, read as before. -/
theorem law_hx {w w1 : World} {l : Ln} {v : Value} (hs : Sl e3 3 w v l.ks) (P : World → Prop) (hP : ∀ W, Below w.heap.size w W → P W) (b1 : Below (w.alloc (.cells #[.int .i64 l.x, .int .i64 l.z, v] 26)).heap.size (w.alloc (.cells #[.int .i64 l.x, .int .i64 l.z, v] 26)) w1) :
    Hid (∀ W, Below w1.heap.size w1 W → (W.cell? ⟨w.heap.size, 0, none⟩ = some (.int .i64 l.x) ∧ W.cell? ⟨w.heap.size, 1, none⟩ = some (.int .i64 l.z) ∧ W.cell? ⟨w.heap.size, 2, none⟩ = some v) ∧ Sl e3 3 W v l.ks ∧ P W ∧ Below w.heap.size w W) := by
  intro W hW
  have bx := fun j u hu => ((At.new w #[.int .i64 l.x, .int .i64 l.z, v] 26 j u hu).below b1).below hW
  have hb : Below w.heap.size w W := below_tr (below_tr (below_alloc1 _ _) b1) hW
  exact ⟨⟨(bx 0 _ rfl).1, (bx 1 _ rfl).1, (bx 2 _ rfl).1⟩, hs.below hb, hP W hb, hb⟩
set_option maxRecDepth 100000 in
set_option maxHeartbeats 1000000 in
theorem tensions_far (v u x : Value) (l : Ln) (cu : List Int) (t : List (Int × Int)) (w : World) (hs : Sl e3 3 w v l.ks) (hu : Sl e1 1 w u cu) (hx : Sl e2 2 w x t) (hn : ¬ (l.ks.length ≤ 12 ∧ cu.length ≤ 14 ∧ t.length ≤ 14)) :
    Calls Try.prog 4 #[.agg #[.int .i64 l.x, .int .i64 l.z, v], u, x] w fun e w' => e = .returned (.bool true) ∧ Below w.heap.size w w' := by
  have HS := Lib.hid hs
  obtain ⟨A, c, rfl, hcap⟩ := hs.form
  obtain ⟨A', c', rfl, hcap'⟩ := hu.form
  obtain ⟨A'', c'', rfl, hcap''⟩ := hx.form
  clear hs hu hx
  by_cases h1 : l.ks.length ≤ 12 ∧ cu.length ≤ 14
  · have f1 := fewB_true h1.1 h1.2
    have f2 : fewB l.ks.length (t.length : Int) = false := fewB_false (by omega)
    have T1 : Hid True := trivial
    clear hn h1 hcap hcap' hcap''
    go_enter Try.func4, Try.ntmps4
    go_wp2_with (first
      | (go_at_call 14; refine (awakeB _).mono ?_; rintro e w1 ⟨rfl, b1⟩; have HX := law_hx HS.out (fun _ => True) (fun _ _ => trivial) b1; clear b1; have HB1 := Lib.hid (Below.refl w1.heap.size w1); obtain ⟨g0, g1, g2⟩ := (HX.out _ HB1.out).1)
      | (go_at_call 15; clear T1; refine (few_any _ l _ _ (HX.out _ HB1.out).2.1).mono ?_; rintro e w2 ⟨rfl, b2⟩; have HB2 := Lib.hid (below_tr HB1.out b2); clear b2; obtain ⟨g3, g4, g5⟩ := (HX.out _ HB2.out).1)
      | (go_at_call 15; refine (few_any _ l _ _ (HX.out _ HB2.out).2.1).mono ?_; rintro e w3 ⟨rfl, b3⟩; have HB3 := Lib.hid (below_tr HB2.out b3); clear b3))
    go_ret
    exact ⟨rfl, (HX.out _ HB3.out).2.2.2⟩
  · have f1 : fewB l.ks.length (cu.length : Int) = false := fewB_false h1
    clear hn h1 hcap hcap' hcap''
    go_enter Try.func4, Try.ntmps4
    go_wp2_with (first
      | (go_at_call 14; refine (awakeB _).mono ?_; rintro e w1 ⟨rfl, b1⟩; have HX := law_hx HS.out (fun _ => True) (fun _ _ => trivial) b1; clear b1; have HB1 := Lib.hid (Below.refl w1.heap.size w1); obtain ⟨g0, g1, g2⟩ := (HX.out _ HB1.out).1)
      | (go_at_call 15; refine (few_any _ l _ _ (HX.out _ HB1.out).2.1).mono ?_; rintro e w2 ⟨rfl, b2⟩; have HB2 := Lib.hid (below_tr HB1.out b2); clear b2))
    go_ret
    exact ⟨rfl, (HX.out _ HB2.out).2.2.2⟩
set_option maxRecDepth 100000 in
set_option maxHeartbeats 4000000 in
theorem tensions_near (v u x : Value) (l : Ln) (cu : List Int) (t : List (Int × Int)) (w : World) (hs : Sl e3 3 w v l.ks) (hu : Sl e1 1 w u cu) (hx : Sl e2 2 w x t) (hn : l.ks.length ≤ 12) (hc : cu.length ≤ 14) (ht : t.length ≤ 14) :
    Calls Try.prog 4 #[.agg #[.int .i64 l.x, .int .i64 l.z, v], u, x] w fun e w' => e = .returned (.bool true) ∧ Below w.heap.size w w' := by
  have f1 := fewB_true hn hc
  have f2 := fewB_true hn ht
  have HS := Lib.hid hs
  have HU := Lib.hid hu
  have HT := Lib.hid hx
  obtain ⟨A, c, rfl, hcap⟩ := hs.form
  obtain ⟨A', c', rfl, hcap'⟩ := hu.form
  obtain ⟨A'', c'', rfl, hcap''⟩ := hx.form
  clear hs hu hx hcap hcap' hcap''
  have HTO : Hid (∀ v u w, Sl e3 3 w v l.ks → Sl e1 1 w u cu → Calls Try.prog 28 #[.agg #[.int .i64 l.x, .int .i64 l.z, v], u] w fun e w' => ∃ A c, e = .returned (.tuple #[.slice A (tensionsOf l cu).1.length c, .int .i64 (tensionsOf l cu).2]) ∧ Sl e2 2 w' (.slice A (tensionsOf l cu).1.length c) (tensionsOf l cu).1 ∧ Below w.heap.size w w') := fun v u w h1 h2 =>
    (TensionsOf_any v u l cu w h1 h2 (by omega) (by omega)).mono fun e w' ⟨r, a, b, c⟩ => by
      have s := b.sl e2_len
      obtain ⟨A, c', rfl, _⟩ := s.form
      exact ⟨A, c', a, s, c⟩
  have HCB := Lib.hid (fun v u x w h1 h2 h3 => CheckBalance_any v u x l cu t w h1 h2 h3 (by omega) (by omega))
  have HSI := Lib.hid (fun v u w h1 h2 => StrongestIn_any v u l cu w h1 h2 (by omega) (by omega))
  have HLE := Lib.hid (fun v w h1 => LineErr_any v l w h1 (by omega))
  have HCE := Lib.hid (fun v u w h1 h2 => rCurrentsErr_any v u l cu w h1 h2 (by omega))
  have T1 : Hid True := trivial
  have T2 : Hid True := trivial
  have T3 : Hid True := trivial
  have T4 : Hid True := trivial
  have T5 : Hid True := trivial
  have T6 : Hid True := trivial
  by_cases h0 : currentsErr l cu = 0
  · obtain ⟨h2, h3⟩ := currentsErr_ok h0
    have hl := lineErr_ok h2
    have hcu := cursErr_cu h3
    have HSR := Lib.hid (fun v u w h1 h2 => Strongest_any v u l cu w h1 h2 hl hcu)
    have HBE := Lib.hid (fun v u x w h1 h2 h3 => BalanceErr_any v u x l cu t w h1 h2 h3 hl hcu (by omega))
    have HTR : Hid (∀ v u w, Sl e3 3 w v l.ks → Sl e1 1 w u cu → Calls Try.prog 38 #[.agg #[.int .i64 l.x, .int .i64 l.z, v], u] w fun e w' => ∃ r, e = .returned r ∧ Sl e2 2 w' r (tens l cu) ∧ Below w.heap.size w w') := fun v u w h1 h2 =>
      (Tensions_any v u l cu w h1 h2 hl hcu).mono fun e w' ⟨r, a, b, c⟩ => ⟨r, a, b.sl e2_len, c⟩
    have e1' : tensionsOf l cu = (tens l cu, 0) := (if_pos h0).trans (by rw [tensions_eq])
    have e2' : checkBalance l cu t = balErr l cu t := if_pos h0
    have e3' : strongestIn l cu = ((strongR l cu).1, (strongR l cu).2, 0) := (if_pos h0).trans (by rw [tensions_eq]; rfl)
    have hlen : (tens l cu).length ≤ 1000 := by rw [tens_len _ _ hcu.len]; omega
    rw [e1'] at HTO
    rw [e2'] at HCB
    rw [e3'] at HSI
    rw [h2] at HLE
    rw [h3] at HCE
    simp only at HTO HSI
    clear e1' e2' e3' h0 h2 h3 hl hcu
    generalize balErr l cu t = be at *
    generalize strongR l cu = sr at *
    generalize tens l cu = ts at *
    have HSF : Hid (∀ u v w, Sl e2 2 w u ts → Sl e2 2 w v ts → Calls Try.prog 37 #[u, v] w fun e w' => e = .returned (.bool true) ∧ Below w.heap.size w w') := fun u v w h k => by
      have := Forces_any u v ts ts w h k hlen hlen
      rwa [eqL_refl] at this
    obtain ⟨b1, b2⟩ := be
    obtain ⟨s1, s2⟩ := sr
    simp only at *
    go_enter Try.func4, Try.ntmps4
    go_wp2_with (first
      | (go_at_call 14; refine (awakeB _).mono ?_; rintro e w1 ⟨rfl, b1⟩; have HX := law_hx HS.out (fun W => Sl e1 1 W (.slice A' cu.length c') cu ∧ Sl e2 2 W (.slice A'' t.length c'') t) (fun W hW => ⟨HU.out.below hW, HT.out.below hW⟩) b1; clear b1; have HB1 := Lib.hid (Below.refl w1.heap.size w1); obtain ⟨g0, g1, g2⟩ := (HX.out _ HB1.out).1)
      | (go_at_call 15; clear T1; refine (few_any _ l _ _ (HX.out _ HB1.out).2.1).mono ?_; rintro e w2 ⟨rfl, b2⟩; have HB2 := Lib.hid (below_tr HB1.out b2); clear b2 g0 g1 g2; obtain ⟨g0, g1, g2⟩ := (HX.out _ HB2.out).1)
      | (go_at_call 15; clear T2; refine (few_any _ l _ _ (HX.out _ HB2.out).2.1).mono ?_; rintro e w3 ⟨rfl, b3⟩; have HB3 := Lib.hid (below_tr HB2.out b3); clear b3 g0 g1 g2; obtain ⟨g0, g1, g2⟩ := (HX.out _ HB3.out).1)
      | (go_at_call 17; clear T3; refine (CopyLine_any _ l _ (HX.out _ HB3.out).2.1 (by omega)).mono ?_; rintro e w4 ⟨r4, rfl, s4, b4⟩; have S4 := Lib.hid s4; have HB4 := Lib.hid (below_tr HB3.out b4); clear s4 b4 g0 g1 g2)
      | (go_at_call 29; clear T4; refine (CopyInts_any _ cu _ (HX.out _ HB4.out).2.2.1.1 (by omega)).mono ?_; rintro e w5 ⟨r5, rfl, o5, b5⟩; have S5 := Lib.hid (And.intro (S4.out.below b5) (o5.sl e1_len)); have HB5 := Lib.hid (below_tr HB4.out b5); clear o5 b5)
      | (go_at_call 28; refine (HTO.out _ _ _ S5.out.1 S5.out.2).mono ?_; rintro e w6 ⟨A6, c6, rfl, s6, b6⟩; have S6 := Lib.hid s6; have HB6 := Lib.hid (below_tr HB5.out b6); clear s6 b6; obtain ⟨g0, g1, g2⟩ := (HX.out _ HB6.out).1)
      | (go_at_call 17; clear T5; refine (CopyLine_any _ l _ (HX.out _ HB6.out).2.1 (by omega)).mono ?_; rintro e w7 ⟨r7, rfl, s7, b7⟩; have S7 := Lib.hid s7; have C7 := Lib.hid b7; have HB7 := Lib.hid (below_tr HB6.out b7); clear s7 b7 g0 g1 g2)
      | (go_at_call 29; clear T6; refine (CopyInts_any _ cu _ (HX.out _ HB7.out).2.2.1.1 (by omega)).mono ?_; rintro e w8 ⟨r8, rfl, o8, b8⟩; have S8 := Lib.hid (And.intro (S7.out.below b8) (o8.sl e1_len)); have C8 := Lib.hid (below_tr C7.out b8); have HB8 := Lib.hid (below_tr HB7.out b8); clear o8 b8)
      | (go_at_call 31; refine (CopyForces_any _ t _ (HX.out _ HB8.out).2.2.1.2 (by omega)).mono ?_; rintro e w9 ⟨r9, rfl, o9, b9⟩; have S9 := Lib.hid (And.intro (S8.out.1.below b9) (And.intro (S8.out.2.below b9) (o9.sl e2_len))); have C9 := Lib.hid (below_tr C8.out b9); have HB9 := Lib.hid (below_tr HB8.out b9); clear o9 b9)
      | (go_at_call 30; refine (HCB.out _ _ _ _ S9.out.1 S9.out.2.1 S9.out.2.2).mono ?_; rintro e w10 ⟨rfl, b10⟩; have C10 := Lib.hid (below_tr C9.out b10); have HB10 := Lib.hid (below_tr HB9.out b10); clear b10; obtain ⟨g0, g1, g2⟩ := (HX.out _ HB10.out).1)
      | (go_at_call 17; refine (CopyLine_any _ l _ (HX.out _ HB10.out).2.1 (by omega)).mono ?_; rintro e w11 ⟨r11, rfl, s11, b11⟩; have S11 := Lib.hid s11; have C11 := Lib.hid (below_tr C10.out b11); have HB11 := Lib.hid (below_tr HB10.out b11); clear s11 b11 g0 g1 g2)
      | (go_at_call 29; refine (CopyInts_any _ cu _ (HX.out _ HB11.out).2.2.1.1 (by omega)).mono ?_; rintro e w12 ⟨r12, rfl, o12, b12⟩; have S12 := Lib.hid (And.intro (S11.out.below b12) (o12.sl e1_len)); have C12 := Lib.hid (below_tr C11.out b12); have HB12 := Lib.hid (below_tr HB11.out b12); clear o12 b12)
      | (go_at_call 32; refine (HSI.out _ _ _ S12.out.1 S12.out.2).mono ?_; rintro e w13 ⟨rfl, b13⟩; have C13 := Lib.hid (below_tr C12.out b13); have HB13 := Lib.hid (below_tr HB12.out b13); clear b13; obtain ⟨g0, g1, g2⟩ := (HX.out _ HB13.out).1)
      | (go_at_call 33; refine (HLE.out _ _ (HX.out _ HB13.out).2.1).mono ?_; rintro e w14 ⟨rfl, b14⟩; have C14 := Lib.hid (below_tr C13.out b14); have HB14 := Lib.hid (below_tr HB13.out b14); clear b14 g0 g1 g2; obtain ⟨g0, g1, g2⟩ := (HX.out _ HB14.out).1)
      | (go_at_call 34; refine (HCE.out _ _ _ (HX.out _ HB14.out).2.1 (HX.out _ HB14.out).2.2.1.1).mono ?_; rintro e w15 ⟨rfl, b15⟩; have C15 := Lib.hid (below_tr C14.out b15); have HB15 := Lib.hid (below_tr HB14.out b15); clear b15 g0 g1 g2; obtain ⟨g0, g1, g2⟩ := (HX.out _ HB15.out).1)
      | (go_at_call 35; refine (HSR.out _ _ _ (HX.out _ HB15.out).2.1 (HX.out _ HB15.out).2.2.1.1).mono ?_; rintro e w16 ⟨rfl, b16⟩; have C16 := Lib.hid (below_tr C15.out b16); have HB16 := Lib.hid (below_tr HB15.out b16); clear b16 g0 g1 g2; obtain ⟨g0, g1, g2⟩ := (HX.out _ HB16.out).1)
      | (go_at_call 36; refine (HBE.out _ _ _ _ (HX.out _ HB16.out).2.1 (HX.out _ HB16.out).2.2.1.1 (HX.out _ HB16.out).2.2.1.2).mono ?_; rintro e w17 ⟨rfl, b17⟩; have C17 := Lib.hid (below_tr C16.out b17); have HB17 := Lib.hid (below_tr HB16.out b17); clear b17 g0 g1 g2; obtain ⟨g0, g1, g2⟩ := (HX.out _ HB17.out).1)
      | (go_at_call 38; refine (HTR.out _ _ _ (HX.out _ HB17.out).2.1 (HX.out _ HB17.out).2.2.1.1).mono ?_; rintro e w18 ⟨r18, rfl, s18, b18⟩; have S18 := Lib.hid s18; have C18 := Lib.hid (below_tr C17.out b18); have HB18 := Lib.hid (below_tr HB17.out b18); clear b18 g0 g1 g2)
      | (go_at_call 37; refine (HSF.out _ _ _ (S6.out.below C18.out) S18.out).mono ?_; rintro e w19 ⟨rfl, b19⟩; have HB19 := Lib.hid (below_tr HB18.out b19); clear b19))
    go_ret
    exact ⟨rfl, (HX.out _ HB19.out).2.2.2⟩
  · have h0' := ne1 h0
    have h0'' := eq1 h0
    have e1' : tensionsOf l cu = ([], currentsErr l cu) := if_neg h0
    have e2' : checkBalance l cu t = (0, currentsErr l cu) := if_neg h0
    have e3' : strongestIn l cu = (0, 0, currentsErr l cu) := if_neg h0
    rw [e1'] at HTO
    rw [e2'] at HCB
    rw [e3'] at HSI
    simp only [List.length_nil] at HTO HCB HSI
    clear e1' e2' e3'
    by_cases h4 : lineErr l = 0
    · have e4 : currentsErr l cu = cursErr l cu := if_pos h4
      rw [h4] at HLE
      rw [← e4] at HCE
      clear e4 h4 h0
      generalize currentsErr l cu = d at *
      go_enter Try.func4, Try.ntmps4
      go_wp2_with (first
      | (go_at_call 14; refine (awakeB _).mono ?_; rintro e w1 ⟨rfl, b1⟩; have HX := law_hx HS.out (fun W => Sl e1 1 W (.slice A' cu.length c') cu ∧ Sl e2 2 W (.slice A'' t.length c'') t) (fun W hW => ⟨HU.out.below hW, HT.out.below hW⟩) b1; clear b1; have HB1 := Lib.hid (Below.refl w1.heap.size w1); obtain ⟨g0, g1, g2⟩ := (HX.out _ HB1.out).1)
      | (go_at_call 15; clear T1; refine (few_any _ l _ _ (HX.out _ HB1.out).2.1).mono ?_; rintro e w2 ⟨rfl, b2⟩; have HB2 := Lib.hid (below_tr HB1.out b2); clear b2 g0 g1 g2; obtain ⟨g0, g1, g2⟩ := (HX.out _ HB2.out).1)
      | (go_at_call 15; clear T2; refine (few_any _ l _ _ (HX.out _ HB2.out).2.1).mono ?_; rintro e w3 ⟨rfl, b3⟩; have HB3 := Lib.hid (below_tr HB2.out b3); clear b3 g0 g1 g2; obtain ⟨g0, g1, g2⟩ := (HX.out _ HB3.out).1)
      | (go_at_call 17; clear T3; refine (CopyLine_any _ l _ (HX.out _ HB3.out).2.1 (by omega)).mono ?_; rintro e w4 ⟨r4, rfl, s4, b4⟩; have S4 := Lib.hid s4; have HB4 := Lib.hid (below_tr HB3.out b4); clear s4 b4 g0 g1 g2)
      | (go_at_call 29; clear T4; refine (CopyInts_any _ cu _ (HX.out _ HB4.out).2.2.1.1 (by omega)).mono ?_; rintro e w5 ⟨r5, rfl, o5, b5⟩; have S5 := Lib.hid (And.intro (S4.out.below b5) (o5.sl e1_len)); have HB5 := Lib.hid (below_tr HB4.out b5); clear o5 b5)
      | (go_at_call 28; refine (HTO.out _ _ _ S5.out.1 S5.out.2).mono ?_; rintro e w6 ⟨A6, c6, rfl, s6, b6⟩; have S6 := Lib.hid s6; have HB6 := Lib.hid (below_tr HB5.out b6); clear s6 b6; obtain ⟨g0, g1, g2⟩ := (HX.out _ HB6.out).1)
      | (go_at_call 17; clear T5; refine (CopyLine_any _ l _ (HX.out _ HB6.out).2.1 (by omega)).mono ?_; rintro e w7 ⟨r7, rfl, s7, b7⟩; have S7 := Lib.hid s7; have C7 := Lib.hid b7; have HB7 := Lib.hid (below_tr HB6.out b7); clear s7 b7 g0 g1 g2)
      | (go_at_call 29; clear T6; refine (CopyInts_any _ cu _ (HX.out _ HB7.out).2.2.1.1 (by omega)).mono ?_; rintro e w8 ⟨r8, rfl, o8, b8⟩; have S8 := Lib.hid (And.intro (S7.out.below b8) (o8.sl e1_len)); have C8 := Lib.hid (below_tr C7.out b8); have HB8 := Lib.hid (below_tr HB7.out b8); clear o8 b8)
      | (go_at_call 31; refine (CopyForces_any _ t _ (HX.out _ HB8.out).2.2.1.2 (by omega)).mono ?_; rintro e w9 ⟨r9, rfl, o9, b9⟩; have S9 := Lib.hid (And.intro (S8.out.1.below b9) (And.intro (S8.out.2.below b9) (o9.sl e2_len))); have C9 := Lib.hid (below_tr C8.out b9); have HB9 := Lib.hid (below_tr HB8.out b9); clear o9 b9)
      | (go_at_call 30; refine (HCB.out _ _ _ _ S9.out.1 S9.out.2.1 S9.out.2.2).mono ?_; rintro e w10 ⟨rfl, b10⟩; have C10 := Lib.hid (below_tr C9.out b10); have HB10 := Lib.hid (below_tr HB9.out b10); clear b10; obtain ⟨g0, g1, g2⟩ := (HX.out _ HB10.out).1)
      | (go_at_call 17; refine (CopyLine_any _ l _ (HX.out _ HB10.out).2.1 (by omega)).mono ?_; rintro e w11 ⟨r11, rfl, s11, b11⟩; have S11 := Lib.hid s11; have C11 := Lib.hid (below_tr C10.out b11); have HB11 := Lib.hid (below_tr HB10.out b11); clear s11 b11 g0 g1 g2)
      | (go_at_call 29; refine (CopyInts_any _ cu _ (HX.out _ HB11.out).2.2.1.1 (by omega)).mono ?_; rintro e w12 ⟨r12, rfl, o12, b12⟩; have S12 := Lib.hid (And.intro (S11.out.below b12) (o12.sl e1_len)); have C12 := Lib.hid (below_tr C11.out b12); have HB12 := Lib.hid (below_tr HB11.out b12); clear o12 b12)
      | (go_at_call 32; refine (HSI.out _ _ _ S12.out.1 S12.out.2).mono ?_; rintro e w13 ⟨rfl, b13⟩; have C13 := Lib.hid (below_tr C12.out b13); have HB13 := Lib.hid (below_tr HB12.out b13); clear b13; obtain ⟨g0, g1, g2⟩ := (HX.out _ HB13.out).1)
      | (go_at_call 33; refine (HLE.out _ _ (HX.out _ HB13.out).2.1).mono ?_; rintro e w14 ⟨rfl, b14⟩; have C14 := Lib.hid (below_tr C13.out b14); have HB14 := Lib.hid (below_tr HB13.out b14); clear b14 g0 g1 g2; obtain ⟨g0, g1, g2⟩ := (HX.out _ HB14.out).1)
      | (go_at_call 34; refine (HCE.out _ _ _ (HX.out _ HB14.out).2.1 (HX.out _ HB14.out).2.2.1.1).mono ?_; rintro e w15 ⟨rfl, b15⟩; have C15 := Lib.hid (below_tr C14.out b15); have HB15 := Lib.hid (below_tr HB14.out b15); clear b15 g0 g1 g2; obtain ⟨g0, g1, g2⟩ := (HX.out _ HB15.out).1)
      | (go_at_call 35; refine (HSR.out _ _ _ (HX.out _ HB15.out).2.1 (HX.out _ HB15.out).2.2.1.1).mono ?_; rintro e w16 ⟨rfl, b16⟩; have C16 := Lib.hid (below_tr C15.out b16); have HB16 := Lib.hid (below_tr HB15.out b16); clear b16 g0 g1 g2; obtain ⟨g0, g1, g2⟩ := (HX.out _ HB16.out).1)
      | (go_at_call 36; refine (HBE.out _ _ _ _ (HX.out _ HB16.out).2.1 (HX.out _ HB16.out).2.2.1.1 (HX.out _ HB16.out).2.2.1.2).mono ?_; rintro e w17 ⟨rfl, b17⟩; have C17 := Lib.hid (below_tr C16.out b17); have HB17 := Lib.hid (below_tr HB16.out b17); clear b17 g0 g1 g2; obtain ⟨g0, g1, g2⟩ := (HX.out _ HB17.out).1)
      | (go_at_call 38; refine (HTR.out _ _ _ (HX.out _ HB17.out).2.1 (HX.out _ HB17.out).2.2.1.1).mono ?_; rintro e w18 ⟨r18, rfl, s18, b18⟩; have S18 := Lib.hid s18; have C18 := Lib.hid (below_tr C17.out b18); have HB18 := Lib.hid (below_tr HB17.out b18); clear b18 g0 g1 g2)
      | (go_at_call 37; refine (HSF.out _ _ _ (S6.out.below C18.out) S18.out).mono ?_; rintro e w19 ⟨rfl, b19⟩; have HB19 := Lib.hid (below_tr HB18.out b19); clear b19))
      go_ret
      exact ⟨rfl, (HX.out _ HB15.out).2.2.2⟩
    · have e4 : currentsErr l cu = lineErr l := if_neg h4
      rw [← e4] at HLE
      clear e4 h4 h0
      generalize currentsErr l cu = d at *
      go_enter Try.func4, Try.ntmps4
      go_wp2_with (first
      | (go_at_call 14; refine (awakeB _).mono ?_; rintro e w1 ⟨rfl, b1⟩; have HX := law_hx HS.out (fun W => Sl e1 1 W (.slice A' cu.length c') cu ∧ Sl e2 2 W (.slice A'' t.length c'') t) (fun W hW => ⟨HU.out.below hW, HT.out.below hW⟩) b1; clear b1; have HB1 := Lib.hid (Below.refl w1.heap.size w1); obtain ⟨g0, g1, g2⟩ := (HX.out _ HB1.out).1)
      | (go_at_call 15; clear T1; refine (few_any _ l _ _ (HX.out _ HB1.out).2.1).mono ?_; rintro e w2 ⟨rfl, b2⟩; have HB2 := Lib.hid (below_tr HB1.out b2); clear b2 g0 g1 g2; obtain ⟨g0, g1, g2⟩ := (HX.out _ HB2.out).1)
      | (go_at_call 15; clear T2; refine (few_any _ l _ _ (HX.out _ HB2.out).2.1).mono ?_; rintro e w3 ⟨rfl, b3⟩; have HB3 := Lib.hid (below_tr HB2.out b3); clear b3 g0 g1 g2; obtain ⟨g0, g1, g2⟩ := (HX.out _ HB3.out).1)
      | (go_at_call 17; clear T3; refine (CopyLine_any _ l _ (HX.out _ HB3.out).2.1 (by omega)).mono ?_; rintro e w4 ⟨r4, rfl, s4, b4⟩; have S4 := Lib.hid s4; have HB4 := Lib.hid (below_tr HB3.out b4); clear s4 b4 g0 g1 g2)
      | (go_at_call 29; clear T4; refine (CopyInts_any _ cu _ (HX.out _ HB4.out).2.2.1.1 (by omega)).mono ?_; rintro e w5 ⟨r5, rfl, o5, b5⟩; have S5 := Lib.hid (And.intro (S4.out.below b5) (o5.sl e1_len)); have HB5 := Lib.hid (below_tr HB4.out b5); clear o5 b5)
      | (go_at_call 28; refine (HTO.out _ _ _ S5.out.1 S5.out.2).mono ?_; rintro e w6 ⟨A6, c6, rfl, s6, b6⟩; have S6 := Lib.hid s6; have HB6 := Lib.hid (below_tr HB5.out b6); clear s6 b6; obtain ⟨g0, g1, g2⟩ := (HX.out _ HB6.out).1)
      | (go_at_call 17; clear T5; refine (CopyLine_any _ l _ (HX.out _ HB6.out).2.1 (by omega)).mono ?_; rintro e w7 ⟨r7, rfl, s7, b7⟩; have S7 := Lib.hid s7; have C7 := Lib.hid b7; have HB7 := Lib.hid (below_tr HB6.out b7); clear s7 b7 g0 g1 g2)
      | (go_at_call 29; clear T6; refine (CopyInts_any _ cu _ (HX.out _ HB7.out).2.2.1.1 (by omega)).mono ?_; rintro e w8 ⟨r8, rfl, o8, b8⟩; have S8 := Lib.hid (And.intro (S7.out.below b8) (o8.sl e1_len)); have C8 := Lib.hid (below_tr C7.out b8); have HB8 := Lib.hid (below_tr HB7.out b8); clear o8 b8)
      | (go_at_call 31; refine (CopyForces_any _ t _ (HX.out _ HB8.out).2.2.1.2 (by omega)).mono ?_; rintro e w9 ⟨r9, rfl, o9, b9⟩; have S9 := Lib.hid (And.intro (S8.out.1.below b9) (And.intro (S8.out.2.below b9) (o9.sl e2_len))); have C9 := Lib.hid (below_tr C8.out b9); have HB9 := Lib.hid (below_tr HB8.out b9); clear o9 b9)
      | (go_at_call 30; refine (HCB.out _ _ _ _ S9.out.1 S9.out.2.1 S9.out.2.2).mono ?_; rintro e w10 ⟨rfl, b10⟩; have C10 := Lib.hid (below_tr C9.out b10); have HB10 := Lib.hid (below_tr HB9.out b10); clear b10; obtain ⟨g0, g1, g2⟩ := (HX.out _ HB10.out).1)
      | (go_at_call 17; refine (CopyLine_any _ l _ (HX.out _ HB10.out).2.1 (by omega)).mono ?_; rintro e w11 ⟨r11, rfl, s11, b11⟩; have S11 := Lib.hid s11; have C11 := Lib.hid (below_tr C10.out b11); have HB11 := Lib.hid (below_tr HB10.out b11); clear s11 b11 g0 g1 g2)
      | (go_at_call 29; refine (CopyInts_any _ cu _ (HX.out _ HB11.out).2.2.1.1 (by omega)).mono ?_; rintro e w12 ⟨r12, rfl, o12, b12⟩; have S12 := Lib.hid (And.intro (S11.out.below b12) (o12.sl e1_len)); have C12 := Lib.hid (below_tr C11.out b12); have HB12 := Lib.hid (below_tr HB11.out b12); clear o12 b12)
      | (go_at_call 32; refine (HSI.out _ _ _ S12.out.1 S12.out.2).mono ?_; rintro e w13 ⟨rfl, b13⟩; have C13 := Lib.hid (below_tr C12.out b13); have HB13 := Lib.hid (below_tr HB12.out b13); clear b13; obtain ⟨g0, g1, g2⟩ := (HX.out _ HB13.out).1)
      | (go_at_call 33; refine (HLE.out _ _ (HX.out _ HB13.out).2.1).mono ?_; rintro e w14 ⟨rfl, b14⟩; have C14 := Lib.hid (below_tr C13.out b14); have HB14 := Lib.hid (below_tr HB13.out b14); clear b14 g0 g1 g2; obtain ⟨g0, g1, g2⟩ := (HX.out _ HB14.out).1)
      | (go_at_call 34; refine (HCE.out _ _ _ (HX.out _ HB14.out).2.1 (HX.out _ HB14.out).2.2.1.1).mono ?_; rintro e w15 ⟨rfl, b15⟩; have C15 := Lib.hid (below_tr C14.out b15); have HB15 := Lib.hid (below_tr HB14.out b15); clear b15 g0 g1 g2; obtain ⟨g0, g1, g2⟩ := (HX.out _ HB15.out).1)
      | (go_at_call 35; refine (HSR.out _ _ _ (HX.out _ HB15.out).2.1 (HX.out _ HB15.out).2.2.1.1).mono ?_; rintro e w16 ⟨rfl, b16⟩; have C16 := Lib.hid (below_tr C15.out b16); have HB16 := Lib.hid (below_tr HB15.out b16); clear b16 g0 g1 g2; obtain ⟨g0, g1, g2⟩ := (HX.out _ HB16.out).1)
      | (go_at_call 36; refine (HBE.out _ _ _ _ (HX.out _ HB16.out).2.1 (HX.out _ HB16.out).2.2.1.1 (HX.out _ HB16.out).2.2.1.2).mono ?_; rintro e w17 ⟨rfl, b17⟩; have C17 := Lib.hid (below_tr C16.out b17); have HB17 := Lib.hid (below_tr HB16.out b17); clear b17 g0 g1 g2; obtain ⟨g0, g1, g2⟩ := (HX.out _ HB17.out).1)
      | (go_at_call 38; refine (HTR.out _ _ _ (HX.out _ HB17.out).2.1 (HX.out _ HB17.out).2.2.1.1).mono ?_; rintro e w18 ⟨r18, rfl, s18, b18⟩; have S18 := Lib.hid s18; have C18 := Lib.hid (below_tr C17.out b18); have HB18 := Lib.hid (below_tr HB17.out b18); clear b18 g0 g1 g2)
      | (go_at_call 37; refine (HSF.out _ _ _ (S6.out.below C18.out) S18.out).mono ?_; rintro e w19 ⟨rfl, b19⟩; have HB19 := Lib.hid (below_tr HB18.out b19); clear b19))
      go_ret
      exact ⟨rfl, (HX.out _ HB14.out).2.2.2⟩
end Go.Proofs.Ytghglgaimhfedaa
