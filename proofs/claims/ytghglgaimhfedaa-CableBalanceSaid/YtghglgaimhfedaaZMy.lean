/-
  The law CableBalance, walked.
-/
import Derived.Test.YtghglgaimhfedaaZMx
import Derived.Test.YtghglgaimhfedaaZMj
namespace Go.Proofs.Ytghglgaimhfedaa
open Go.RowKit Go.Shelf
attribute [local go_sem] monoUpon_value monoUpon_skip monoUpon_enter

set_option maxRecDepth 100000 in
set_option maxHeartbeats 8000000 in
theorem balance_even (v u : Value) (l : Ln) (cu : List Int) (p : Int × Int) (w : World) (hs : Sl e3 3 w v l.ks) (hu : Sl e1 1 w u cu) (hn : l.ks.length ≤ 12) (hc : cu.length ≤ 14) (h0 : currentsErr l cu = 0) (hpar : p.2 % 2 = 0) :
    Calls Try.prog 5 #[.agg #[.int .i64 l.x, .int .i64 l.z, v], u, .agg #[.int .i64 p.1, .int .i64 p.2]] w fun e w' => e = .returned (.bool true) ∧ Below w.heap.size w w' := by
  have f1 := fewB_true hn hc
  obtain ⟨i0, hi, hz0, hz1, hz2⟩ := info_parts intinfo
  have HS := Lib.hid hs
  have HU := Lib.hid hu
  obtain ⟨A, c, rfl, hcap⟩ := hs.form
  obtain ⟨A', c', rfl, hcap'⟩ := hu.form
  clear hs hu hcap hcap'
  obtain ⟨h2, h3⟩ := currentsErr_ok h0
  have hl := lineErr_ok h2
  have hcu := cursErr_cu h3
  have HLE := Lib.hid (fun v w h1 => LineErr_any v l w h1 (by omega))
  have HCE := Lib.hid (fun v u w h1 h2 => rCurrentsErr_any v u l cu w h1 h2 (by omega))
  rw [h2] at HLE
  rw [h3] at HCE
  have HTO : Hid (∀ v u w, Sl e3 3 w v l.ks → Sl e1 1 w u cu → Calls Try.prog 28 #[.agg #[.int .i64 l.x, .int .i64 l.z, v], u] w fun e w' => ∃ A c, e = .returned (.tuple #[.slice A (tens l cu).length c, .int .i64 0]) ∧ Sl e2 2 w' (.slice A (tens l cu).length c) (tens l cu) ∧ Below w.heap.size w w') := fun v u w h1 h2 =>
    (TensionsOf_any v u l cu w h1 h2 (by omega) (by omega)).mono fun e w' ⟨r, a, b, c⟩ => by
      rw [tensionsOf_ok h0] at a b
      have s := b.sl e2_len
      obtain ⟨A, c', rfl, _⟩ := s.form
      exact ⟨A, c', a, s, c⟩
  have HCB : Hid (∀ t v u x w, Sl e3 3 w v l.ks → Sl e1 1 w u cu → Sl e2 2 w x t → Calls Try.prog 30 #[.agg #[.int .i64 l.x, .int .i64 l.z, v], u, x] w fun e w' => e = .returned (.tuple #[.int .i64 (balErr l cu t).1, .int .i64 (balErr l cu t).2]) ∧ Below w.heap.size w w') := fun t v u x w h1 h2 h3 => by
    have h := CheckBalance_any v u x l cu t w h1 h2 h3 (by omega) (by omega)
    have e : checkBalance l cu t = balErr l cu t := if_pos h0
    rwa [e] at h
  have HCM : Hid (∀ v w, Sl e3 3 w v l.ks → Calls Try.prog 17 #[.agg #[.int .i64 (-l.x), .int .i64 l.z, v]] w fun e w' => ∃ r, e = .returned (.agg #[.int .i64 (-l.x), .int .i64 l.z, r]) ∧ Sl e3 3 w' r l.ks ∧ Below w.heap.size w w') := fun v w h => CopyLine_any v (mirL l) w h (by show l.ks.length ≤ 1000; omega)
  have hmc : (mirC cu).length ≤ 1000 := by unfold mirC; rw [List.length_map]; omega
  have HTM : Hid (∀ v u w, Sl e3 3 w v l.ks → Sl e1 1 w u (mirC cu) → Calls Try.prog 28 #[.agg #[.int .i64 (-l.x), .int .i64 l.z, v], u] w fun e w' => ∃ A c, e = .returned (.tuple #[.slice A (tens l cu).length c, .int .i64 0]) ∧ Sl e2 2 w' (.slice A (tens l cu).length c) ((tens l cu).map mirT) ∧ Below w.heap.size w w') := fun v u w k1 k2 => by
    have h := TensionsOf_any v u (mirL l) (mirC cu) w k1 k2 (by show l.ks.length ≤ 1000; omega) hmc
    rw [tensionsOf_ok (currentsErr_of (mir_line h2) (mir_curs h3)), tens_mir] at h
    refine h.mono fun e w' ⟨r, a', b', c'⟩ => ?_
    have s := b'.sl e2_len
    obtain ⟨A, c2, e2', _⟩ := s.form
    rw [List.length_map] at e2'
    subst e2'
    exact ⟨A, c2, a', s, c'⟩
  have HLB := Lib.hid (fun v u w k1 k2 => LaybackOf_any v u l cu w k1 k2 (by omega) (by omega))
  have HLBM : Hid (∀ v u w, Sl e3 3 w v l.ks → Sl e1 1 w u (mirC cu) → Calls Try.prog 40 #[.agg #[.int .i64 (-l.x), .int .i64 l.z, v], u] w fun e w' => e = .returned (.tuple #[.agg #[.int .i64 (-(laybackOf l cu).1.2), .int .i64 (-(laybackOf l cu).1.1)], .int .i64 (laybackOf l cu).2]) ∧ Below w.heap.size w w') := fun v u w k1 k2 => by
    have h := LaybackOf_any v u (mirL l) (mirC cu) w k1 k2 (by show l.ks.length ≤ 1000; omega) hmc
    rw [layback_mir h2 h3] at h
    exact h
  have HLN := Lib.hid (fun v u w k1 k2 => LengthOf_any v u l cu w k1 k2 (by omega) (by omega))
  have HLNM : Hid (∀ v u w, Sl e3 3 w v l.ks → Sl e1 1 w u (mirC cu) → Calls Try.prog 41 #[.agg #[.int .i64 (-l.x), .int .i64 l.z, v], u] w fun e w' => e = .returned (.tuple #[.agg #[.int .i64 (lengthOf l cu).1.1, .int .i64 (lengthOf l cu).1.2], .int .i64 (lengthOf l cu).2]) ∧ Below w.heap.size w w') := fun v u w k1 k2 => by
    have h := LengthOf_any v u (mirL l) (mirC cu) w k1 k2 (by show l.ks.length ≤ 1000; omega) hmc
    rw [length_mir h2 h3] at h
    exact h
  have HBN : Hid (∀ v u w, Sl e3 3 w v l.ks → Sl e1 1 w u cu → Calls Try.prog 42 #[.agg #[.int .i64 l.x, .int .i64 l.z, v], u] w fun e w' => ∃ r, e = .returned (.tuple #[r, .int .i64 (bendsOf l cu).2]) ∧ Sl e2 2 w' r (bendsOf l cu).1 ∧ Below w.heap.size w w') := fun v u w k1 k2 =>
    (BendsOf_any v u l cu w k1 k2 (by omega) (by omega)).mono fun e w' ⟨r, a, b, c⟩ => ⟨r, a, b.sl e2_len, c⟩
  have HBNM : Hid (∀ v u w, Sl e3 3 w v l.ks → Sl e1 1 w u (mirC cu) → Calls Try.prog 42 #[.agg #[.int .i64 (-l.x), .int .i64 l.z, v], u] w fun e w' => ∃ r, e = .returned (.tuple #[r, .int .i64 (bendsOf l cu).2]) ∧ Sl e2 2 w' r (bendsOf l cu).1 ∧ Below w.heap.size w w') := fun v u w k1 k2 => by
    have h := BendsOf_any v u (mirL l) (mirC cu) w k1 k2 (by show l.ks.length ≤ 1000; omega) hmc
    rw [bends_mir h2 h3] at h
    exact h.mono fun e w' ⟨r, a, b, c⟩ => ⟨r, a, b.sl e2_len, c⟩
  have hbl : (bendsOf l cu).1.length ≤ 1000 := by
    unfold bendsOf
    split
    · show (bends l cu).length ≤ 1000
      unfold bends
      rw [bendsF_len, tensions_eq, tens_len l cu hcu.len]
      omega
    · simp
  have HFR : Hid (∀ u v w, Sl e2 2 w u (bendsOf l cu).1 → Sl e2 2 w v (bendsOf l cu).1 → Calls Try.prog 43 #[u, v] w fun e w' => e = .returned (.bool true) ∧ Below w.heap.size w w') := fun u v w h k => by
    have := Fracs_any u v _ _ w h k hbl hbl
    rwa [eqL_refl] at this
  have hlb : ((-800000000 ≤ (laybackOf l cu).1.1 ∧ (laybackOf l cu).1.1 ≤ 800000000) ∧ (-800000000 ≤ (laybackOf l cu).1.2 ∧ (laybackOf l cu).1.2 ≤ 800000000)) := by
    unfold laybackOf
    by_cases hse : shapeErr l cu = 0
    · rw [if_pos hse]
      have hb := cursErr_ok h3
      have hps := pulls_pos hb (shape_ok hse).2
      have := totR_bd offR 20000000 (pulls l (still cu)) (fun p hp => offR_bd (pulls_ok hl hb p hp) (hps p hp))
      rw [pulls_len hb] at this
      have := hl.n1
      simp only
      omega
    · rw [if_neg hse]; simp only; omega
  have HE0 := Lib.hid (balErr_self hcu)
  have HES := Lib.hid (fun a ha q hq => balErr_set hcu a ha q hq)
  have HTH : Hid (∀ (a : Nat), a < l.ks.length → ∀ v u w, Sl e3 3 w v l.ks → Sl e1 1 w u (cu.take (a + 1)) → ∀ b o c, v = .slice (some ⟨b, o, none⟩) l.ks.length c → Calls Try.prog 28 #[.agg #[.int .i64 l.x, .int .i64 l.z, .slice (some ⟨b, o, none⟩) (a + 1) c], u] w fun e w' => ∃ A c, e = .returned (.tuple #[.slice A (a + 1) c, .int .i64 0]) ∧ Sl e2 2 w' (.slice A (a + 1) c) ((tens l cu).take (a + 1)) ∧ Below w.heap.size w w') := fun a ha v u w k1 k2 b o c e => by
    subst e
    have hl2 : (l.ks.take (a + 1)).length = a + 1 := by rw [List.length_take]; omega
    have h := TensionsOf_any (.slice (some ⟨b, o, none⟩) (a + 1) c) u (halfL l (a + 1)) (cu.take (a + 1)) w (k1.take (a + 1) ha) k2 (by show (l.ks.take (a + 1)).length ≤ 1000; omega) (by rw [List.length_take]; omega)
    rw [half_ok h2 h3 (a + 1) (by omega) ha] at h
    refine h.mono fun e w' ⟨r, a', b', c'⟩ => ?_
    have s := b'.sl e2_len
    obtain ⟨A, c2, e2', _⟩ := s.form
    have hl3 : ((tens l cu).take (a + 1)).length = a + 1 := by rw [List.length_take, tens_len l cu hcu.len]; omega
    rw [hl3] at e2'
    subst e2'
    exact ⟨A, c2, a', s, c'⟩
  have HSF : Hid (∀ (a : Nat) u v w, Sl e2 2 w u ((tens l cu).take (a + 1)) → Sl e2 2 w v ((tens l cu).take (a + 1)) → Calls Try.prog 37 #[u, v] w fun e w' => e = .returned (.bool true) ∧ Below w.heap.size w w') := fun a u v w h k => by
    have hl3 : ((tens l cu).take (a + 1)).length ≤ 1000 := Nat.le_trans (List.length_take_le' _ _) (by rw [tens_len l cu hcu.len]; omega)
    have := Forces_any u v _ _ w h k hl3 hl3
    rwa [eqL_refl] at this
  have HTL := Lib.hid (tens_len l cu hcu.len)
  have hn10 : (tens l cu).length ≤ 10 := by rw [HTL.out]; exact hl.n1
  have hn0 : 0 < (tens l cu).length := by rw [HTL.out]; exact hl.n0
  have HTB := Lib.hid (fun k hk hk' => tens_tb l cu hcu.len k hk hk')
  have HSU := Lib.hid (fun k hk => (tb_succ l cu hcu.len k hk).1)
  have HBD := Lib.hid (fun k hk => tb_bd hl hcu k hk)
  have HLK := Lib.hid hl
  have HCU := Lib.hid hcu
  have HTBD := Lib.hid (tens_bd hl hcu)
  have HTBD2 := Lib.hid (tens_bd hl hcu)
  have lenb0 := lenb HTL.out
  have T1 : Hid True := trivial
  have T2 : Hid True := trivial
  clear h2 h3 h0 hl hcu
  generalize laybackOf l cu = lb at *
  generalize lengthOf l cu = ln at *
  generalize bendsOf l cu = bn at *
  obtain ⟨⟨la, lz⟩, le⟩ := lb
  obtain ⟨⟨na, nz⟩, ne⟩ := ln
  obtain ⟨bs, be⟩ := bn
  simp only at HLB HLBM HLN HLNM HBN HBNM HFR hlb hbl
  generalize htens : tens l cu = ts at *
  have HTE := Lib.hid htens
  clear htens
  obtain ⟨p1, p2⟩ := p
  simp only at *
  have BXX := Lib.hid (box2 w #[.int .i64 l.x, .int .i64 l.z, .slice A l.ks.length c] #[.int .i64 p1, .int .i64 p2] 26 61).2
  have hq := neq_force
  go_enter Try.func5, Try.ntmps5
  go_wp2_with (first
    | (go_at_call 14; refine (awakeB _).mono ?_; rintro e w1 ⟨rfl, b1⟩; have HX := law_hx HS.out (fun W => Sl e1 1 W (.slice A' cu.length c') cu) (fun W hW => HU.out.below hW) (below_tr (below_alloc1 _ _) b1); have HXX : Hid (∀ W, Below w1.heap.size w1 W → W.cell? ⟨w.heap.size + 1, 0, none⟩ = some (.int .i64 p1) ∧ W.cell? ⟨w.heap.size + 1, 1, none⟩ = some (.int .i64 p2)) := (fun W hW => ⟨(((BXX.out 0 _ rfl).below b1).below hW).1, (((BXX.out 1 _ rfl).below b1).below hW).1⟩); clear b1; have HB1 := Lib.hid (Below.refl w1.heap.size w1); obtain ⟨g0, g1, g2⟩ := (HX.out _ HB1.out).1)
    | (go_at_call 15; refine (few_any _ l _ _ (HX.out _ HB1.out).2.1).mono ?_; rintro e w2 ⟨rfl, b2⟩; have HB2 := Lib.hid (below_tr HB1.out b2); clear b2 g0 g1 g2; obtain ⟨g0, g1, g2⟩ := (HX.out _ HB2.out).1)
    | (go_at_call 33; refine (HLE.out _ _ (HX.out _ HB2.out).2.1).mono ?_; rintro e w3 ⟨rfl, b3⟩; have HB3 := Lib.hid (below_tr HB2.out b3); clear b3 g0 g1 g2; obtain ⟨g0, g1, g2⟩ := (HX.out _ HB3.out).1)
    | (go_at_call 34; refine (HCE.out _ _ _ (HX.out _ HB3.out).2.1 (HX.out _ HB3.out).2.2.1).mono ?_; rintro e w4 ⟨rfl, b4⟩; have HB4 := Lib.hid (below_tr HB3.out b4); clear b4 g0 g1 g2; obtain ⟨g0, g1, g2⟩ := (HX.out _ HB4.out).1)
    | (go_at_call 17; clear T1; refine (CopyLine_any _ l _ (HX.out _ HB4.out).2.1 (by omega)).mono ?_; rintro e w5 ⟨r5, rfl, s5, b5⟩; have S5 := Lib.hid s5; have HB5 := Lib.hid (below_tr HB4.out b5); clear s5 b5 g0 g1 g2)
    | (go_at_call 29; clear T2; refine (CopyInts_any _ cu _ (HX.out _ HB5.out).2.2.1 (by omega)).mono ?_; rintro e w6 ⟨r6, rfl, o6, b6⟩; have S6 := Lib.hid (And.intro (S5.out.below b6) (o6.sl e1_len)); have HB6 := Lib.hid (below_tr HB5.out b6); clear o6 b6)
    | (go_at_call 28; refine (HTO.out _ _ _ S6.out.1 S6.out.2).mono ?_; rintro e w7 ⟨A7, c7, rfl, s7, b7⟩; have S7 := Lib.hid s7; have HB7 := Lib.hid (below_tr HB6.out b7); clear s7 b7; obtain ⟨g0, g1, g2⟩ := (HX.out _ HB7.out).1)
    | (go_at_call 17; refine (CopyLine_any _ l _ (HX.out _ HB7.out).2.1 (by omega)).mono ?_; rintro e w8 ⟨r8, rfl, s8, b8⟩; have S8 := Lib.hid (And.intro s8 (S7.out.below b8)); have HB8 := Lib.hid (below_tr HB7.out b8); clear s8 b8 g0 g1 g2)
    | (go_at_call 29; refine (CopyInts_any _ cu _ (HX.out _ HB8.out).2.2.1 (by omega)).mono ?_; rintro e w9 ⟨r9, rfl, o9, b9⟩; have S9 := Lib.hid (And.intro (S8.out.1.below b9) (And.intro (S8.out.2.below b9) (o9.sl e1_len))); have HB9 := Lib.hid (below_tr HB8.out b9); clear o9 b9)
    | (go_at_call 31; refine (CopyForces_any _ ts _ S9.out.2.1 (by omega)).mono ?_; rintro e w10 ⟨r10, rfl, o10, b10⟩; have S10 := Lib.hid (And.intro (S9.out.1.below b10) (And.intro (S9.out.2.1.below b10) (And.intro (S9.out.2.2.below b10) (o10.sl e2_len)))); have HB10 := Lib.hid (below_tr HB9.out b10); clear o10 b10)
    | (go_at_call 30; refine (HCB.out ts _ _ _ _ S10.out.1 S10.out.2.2.1 S10.out.2.2.2).mono ?_; rintro e w11 ⟨rfl, b11⟩; rw [HE0.out]; have S11 := Lib.hid (S10.out.2.1.below b11); have HB11 := Lib.hid (below_tr HB10.out b11); clear b11; obtain ⟨g0, g1, g2⟩ := (HX.out _ HB11.out).1; have g3 := cell_lt g0; simp only at g3; have g4 : w.heap.size < w11.heap.size + 1 := (by omega)))
  clear lenb0
  go_loopw [12] (fun i wr => ∃ k : Nat, k ≤ ts.length ∧ i = .int .i64 k ∧ Below w11.heap.size w11 wr ∧ At wr ⟨w11.heap.size, 0, none⟩ (.int .i64 (tb l cu k).1) ∧ At wr ⟨w11.heap.size, 1, none⟩ (.int .i64 (tb l cu k).2)) (fun i _ => ts.length - (intOf i).toNat)
  case atStart => exact ⟨0, Nat.zero_le _, rfl, below_alloc1 _ _, At.new w11 #[.int .i64 l.x, .int .i64 l.z] 23 0 _ rfl, At.new w11 #[.int .i64 l.x, .int .i64 l.z] 23 1 _ rfl⟩
  case round =>
    obtain ⟨k, hk, rfl, hb, ht1, ht2⟩ := hrel
    have HB := Lib.hid hb
    clear g0 g1 g2
    by_cases hlt : k < ts.length
    · have HA := Lib.hid (And.intro ht1 ht2)
      obtain ⟨c1, f1'⟩ := ht1
      obtain ⟨c2, f2'⟩ := ht2
      have hlk : k < l.ks.length := by rw [← HTL.out]; exact hlt
      have hlu : k < cu.length := by rw [HCU.out.len]; exact hlk
      have hlu' : (k : Int) < (cu.length : Int) := by omega
      have hlk' : (k : Int) < (l.ks.length : Int) := by omega
      have hlt' : (k : Int) < (ts.length : Int) := by omega
      have hk0 : (0 : Int) ≤ (k : Int) := by omega
      obtain ⟨⟨d0, d1, d2⟩, hsl, hsu, _⟩ := HX.out _ (below_tr HB11.out hb)
      obtain ⟨b, off, rfl, hbl, hc0, hc1, hc2⟩ := hsl.at3 hlk
      obtain ⟨bu, ou, rfl, hbu, hd0⟩ := hsu.at1 hlu
      obtain ⟨bt, ot, rfl, hbt, he0, he1⟩ := (S11.out.below hb).at2 hlt
      have hsucc := HSU.out k hlk
      have hte : ts[k] = tb l cu (k + 1) := HTB.out k hlk hlt
      rw [getD_eq _ _ _ hlu] at hsucc
      rw [hte] at he0 he1
      rw [hsucc] at he0 he1
      obtain ⟨⟨q1, q2⟩, q3, q4⟩ := HBD.out k (by omega)
      obtain ⟨_, _, q5, q6, q7, q8⟩ := HLK.out.ok _ (List.getElem_mem hlk)
      obtain ⟨q9, q10⟩ := HCU.out.ok _ (List.getElem_mem hlu)
      obtain ⟨m1, m2⟩ := mulz l.ks[k].2.2 cu[k] q7 q8 q9 q10
      have HSC := Lib.hid hsucc
      clear hsucc hte hb hsl hsu
      generalize tb l cu k = tt at *
      generalize l.ks[k] = kk at *
      generalize cu[k] = n at *
      obtain ⟨tx, tz⟩ := tt
      obtain ⟨k1, k2, k3⟩ := kk
      simp only at *
      have hw1 : IntKind.i64.wrap (k3 * n) = k3 * n := IntWalk.i64_in _ (by omega)
      have hw2 : IntKind.i64.wrap (tx + k3 * n) = tx + k3 * n := IntWalk.i64_in _ (by omega)
      have hw3 : IntKind.i64.wrap (tz + k2) = tz + k2 := IntWalk.i64_in _ (by omega)
      have hp := pne0 (x := (tx + k3 * n, tz + k2)) rfl
      simp only at hp
      go_wp2_with fail
      go_quiet (fail)
      go_wp2_with fail
      go_roundw
      case rel =>
        refine ⟨k + 1, by omega, by go_num, ?_, ?_, ?_⟩
        · exact below_set (below_set (below_drN HB.out _) (Nat.le_refl _) _) (Nat.le_refl _) _
        · rw [HSC.out]; exact (At.set (u := .int .i64 (tx + k3 * n)) (show At (wr.drewN _) _ _ from HA.out.1)).other (by simp)
        · rw [HSC.out]; exact At.set (At.other (show At (wr.drewN _) _ _ from HA.out.2) (by simp))
      case measure => simp [intOf]; omega
    · obtain rfl : k = ts.length := by omega
      clear ht1 ht2 hb
      obtain ⟨d0, d1⟩ := HXX.out _ (below_tr HB11.out HB.out)
      have hm1 := Int.emod_nonneg p1 (show (ts.length : Int) ≠ 0 by omega)
      have hm2 := Int.emod_lt_of_pos p1 (show (0 : Int) < (ts.length : Int) by omega)
      have HM0 : Hid (∀ w, Calls Try.prog 39 #[.int .i64 p1, .int .i64 ts.length] w fun e w' => e = .returned (.int .i64 (p1 % (ts.length : Int))) ∧ w = w') := fun w => Mod_any p1 ts.length w (by omega) (by omega)
      have HM1 : Hid (∀ w, Calls Try.prog 39 #[.int .i64 p2, .int .i64 2] w fun e w' => e = .returned (.int .i64 (p2 % 2)) ∧ w = w') := fun w => Mod_any p2 2 w (by omega) (by omega)
      have HM7 : Hid (∀ w, Calls Try.prog 39 #[.int .i64 p2, .int .i64 7] w fun e w' => e = .returned (.int .i64 (p2 % 7)) ∧ w = w') := fun w => Mod_any p2 7 w (by omega) (by omega)
      have h70 := Int.emod_nonneg p2 (show (7 : Int) ≠ 0 by omega)
      have h71 := Int.emod_lt_of_pos p2 (show (0 : Int) < 7 by omega)
      obtain ⟨a, ha⟩ : ∃ a : Nat, p1 % (ts.length : Int) = (a : Int) := ⟨(p1 % (ts.length : Int)).toNat, by omega⟩
      rw [ha] at HM0 hm1 hm2
      have hat : a < ts.length := by omega
      clear ha
      generalize p2 % 2 = m2 at *
      generalize p2 % 7 = m7 at *
      have T8 : Hid True := trivial
      obtain ⟨⟨ta1, ta2⟩, ta3, ta4⟩ := HTBD.out ts[a] (List.getElem_mem hat)
      by_cases h2 : m2 = 0
      · have h2' := eq0 h2
        clear h2
        go_wp2_with (first
          | (go_at_call 39; clear T8; refine (HM0.out _).mono ?_; rintro e w' ⟨rfl, rfl⟩)
          | (go_at_call 31; refine (CopyForces_any _ ts _ (S11.out.below HB.out) (by omega)).mono ?_; rintro e w12 ⟨r12, rfl, o12, b12⟩; obtain ⟨g, cap, rfl, hg0, hg1, hcp2, hr12⟩ := o12.at2 hn0; have HR12 := Lib.hid hr12; have C12 := Lib.hid (below_tr HB.out b12); have HB12 := Lib.hid (below_tr HB11.out C12.out); have hgw : w11.heap.size ≤ g := Nat.le_trans HB.out.size hg0; have HW12 : Hid (∀ W, Below w12.drew.heap.size w12.drew W → Row2 W g ts ∧ (W.cell? ⟨w.heap.size + 1, 0, none⟩ = some (.int .i64 p1) ∧ W.cell? ⟨w.heap.size + 1, 1, none⟩ = some (.int .i64 p2)) ∧ g < W.heap.size ∧ Below w11.heap.size w11 W) := (fun W hW => by have hb' : Below w12.heap.size w12 W := Below.trans (Below.drew (Below.refl _ _)) hW; exact ⟨HR12.out.below hb', HXX.out _ (below_tr HB12.out hb'), Nat.lt_of_lt_of_le hg1 hb'.size, below_tr C12.out hb'⟩); clear o12 b12 hr12 d0 d1; obtain ⟨d0, d1⟩ := HXX.out _ HB12.out)
          | (go_at_call 39; refine (HM1.out _).mono ?_; rintro e w' ⟨rfl, rfl⟩))
        have hw1 : IntKind.i64.wrap (ts[a].1 + 1) = ts[a].1 + 1 := IntWalk.i64_in _ (by omega)
        have hw2 : IntKind.i64.wrap (ts[a].1 + 1 + m7) = ts[a].1 + 1 + m7 := IntWalk.i64_in _ (by omega)
        refine wp_region_mono 14 [144, 145, 146, 147, 148, 149, 150, 151, 152, 153, 154, 155, 156, 157] [[], [], [], [], [2, 3], [4], [5], [6], [], [8], [9], [7, 10], [0, 1], [12]] [fun v _ => v = .slice (some ⟨g, 0, none⟩) ts.length cap, fun v _ => v = .int .i64 a, fun v _ => v = .slice (some ⟨g, 0, none⟩) ts.length cap, fun v _ => v = .int .i64 a, fun v _ => v = .pointer (some ⟨g, a * 2, none⟩), fun v _ => v = .pointer (some ⟨g, a * 2, none⟩), fun v _ => v = .int .i64 ts[a].1, fun v _ => v = .int .i64 (ts[a].1 + 1), fun v _ => v = .pointer (some ⟨w.heap.size + 1, 1, none⟩), fun v _ => v = .int .i64 p2, fun v _ => v = .int .i64 m7, fun v _ => v = .int .i64 (ts[a].1 + 1 + m7), fun v _ => v = .pointer (some ⟨g, a * 2, none⟩), fun v _ => v = .pointer (some ⟨g, a * 2, none⟩)] (by kernel_rfl) (by kernel_rfl) ⟨st_eq _, st_eq _, st_eq _, st_eq _, st_eq _, st_eq _, st_eq _, st_eq _, st_eq _, st_eq _, st_eq _, st_eq _, st_eq _, st_eq _, trivial⟩ ?_ ?_
        · simp only [List.take_succ_cons, List.take_zero, steps, and_true]
          refine ⟨?_, ?_, ?_, ?_, ?_, ?_, ?_, ?_, ?_, ?_, ?_, ?_, ?_, ?_⟩
          · intro x W hB _; simp only [putX, setX, List.foldl_cons, List.foldl_nil]; refine ⟨?_⟩; go_simp; exact ⟨rfl, Below.refl _ _⟩
          · intro x W hB _; simp only [putX, setX, List.foldl_cons, List.foldl_nil]; refine ⟨?_⟩; go_simp; exact ⟨rfl, Below.refl _ _⟩
          · intro x W hB _; simp only [putX, setX, List.foldl_cons, List.foldl_nil]; refine ⟨?_⟩; go_simp; exact ⟨rfl, Below.refl _ _⟩
          · intro x W hB _; simp only [putX, setX, List.foldl_cons, List.foldl_nil]; refine ⟨?_⟩; go_simp; exact ⟨rfl, Below.refl _ _⟩
          · intro x W hB hN; simp only [needs, sAt, dAt] at hN; simp only [putX, setX, List.foldl_cons, List.foldl_nil]; refine ⟨?_⟩; go_simp; exact ⟨rfl, Below.refl _ _⟩
          · intro x W hB hN; simp only [needs, sAt, dAt] at hN; simp only [putX, setX, List.foldl_cons, List.foldl_nil]; refine ⟨?_⟩; go_simp; exact ⟨rfl, Below.refl _ _⟩
          · intro x W hB hN; simp only [needs, sAt, dAt] at hN; simp only [putX, setX, List.foldl_cons, List.foldl_nil]; have c0 := ((HW12.out W hB).1 a hat).1.1; refine ⟨?_⟩; go_simp; exact ⟨rfl, Below.refl _ _⟩
          · intro x W hB hN; simp only [needs, sAt, dAt] at hN; simp only [putX, setX, List.foldl_cons, List.foldl_nil]; refine ⟨?_⟩; go_simp; exact ⟨rfl, Below.refl _ _⟩
          · intro x W hB _; simp only [putX, setX, List.foldl_cons, List.foldl_nil]; refine ⟨?_⟩; go_simp; exact ⟨rfl, Below.refl _ _⟩
          · intro x W hB hN; simp only [needs, sAt, dAt] at hN; simp only [putX, setX, List.foldl_cons, List.foldl_nil]; obtain ⟨c0, c1⟩ := (HW12.out W hB).2.1; refine ⟨?_⟩; go_simp; exact ⟨rfl, Below.refl _ _⟩
          · intro x W hB hN; simp only [needs, sAt, dAt] at hN; simp only [putX, setX, List.foldl_cons, List.foldl_nil]; refine ⟨?_⟩; go_simp; refine (HM7.out _).mono ?_; rintro e w' ⟨rfl, rfl⟩; exact ⟨_, rfl, rfl, Below.refl _ _⟩
          · intro x W hB hN; simp only [needs, sAt, dAt] at hN; simp only [putX, setX, List.foldl_cons, List.foldl_nil]; refine ⟨?_⟩; go_simp; exact ⟨rfl, Below.refl _ _⟩
          · intro x W hB hN; simp only [needs, sAt, dAt] at hN; simp only [putX, setX, List.foldl_cons, List.foldl_nil]; refine ⟨?_⟩; go_simp; exact ⟨rfl, Below.refl _ _⟩
          · intro x W hB hN; simp only [needs, sAt, dAt] at hN; simp only [putX, setX, List.foldl_cons, List.foldl_nil]; refine ⟨?_⟩; go_simp; exact ⟨rfl, Below.refl _ _⟩
        · intro y W hB hA
          simp only [allSp] at hA
          have q1 := hA.2.2.2.2.2.2.2.2.2.2.2.1
          have q2 := hA.2.2.2.2.2.2.2.2.2.2.2.2.2.1
          have HWW := Lib.hid (HW12.out W hB)
          clear hA hB
          simp only [putX, setX, List.foldl_cons, List.foldl_nil, List.drop_succ_cons, List.drop_zero, q1, q2, List.setIfInBounds_toArray, List.set_cons_succ, List.set_cons_zero]
          clear q1 q2
          obtain ⟨W13, hr13, hW13⟩ := run_store_int W g (a * 2) (ts[a].1 + 1 + m7) (HWW.out.1 a hat).1
          have SW13 : Hid (Sl e2 2 W13 (.slice (some ⟨g, 0, none⟩) ts.length cap) (ts.set a (ts[a].1 + 1 + m7, ts[a].2))) := by
            have h := (HWW.out.1.set1 a hat (ts[a].1 + 1 + m7)).slc (W := W.setCell ⟨g, a * 2, none⟩ (.int .i64 (ts[a].1 + 1 + m7))) (by simpa using HWW.out.2.2.1) cap (by simpa using hcp2)
            rw [List.length_set] at h
            rw [hW13]; exact h
          have C13 : Hid (Below w11.heap.size w11 W13) := by rw [hW13]; exact below_set HWW.out.2.2.2 hgw _
          have HQ := Lib.hid (HES.out a hat (ts[a].1 + 1 + m7, ts[a].2) (fun h => by have := congrArg Prod.fst h; simp only at this; omega))
          have HB13 := Lib.hid (below_tr HB11.out C13.out)
          obtain ⟨g0, g1, g2⟩ := (HX.out _ HB13.out).1
          generalize ts.set a _ = tw at *
          have hkn : 0 < l.ks.length := by rw [← HTL.out]; exact hn0
          have hak : a < l.ks.length := by rw [← HTL.out]; exact hat
          have ha1 : IntKind.i64.wrap ((a : Int) + 1) = (a : Int) + 1 := IntWalk.i64_in _ (by omega)
          obtain ⟨bu, ou, rfl, hbu, _⟩ := (HX.out _ HB13.out).2.2.1.raw (k := 0) (by rw [HCU.out.len]; exact hkn)
          obtain ⟨bt7, ot7, rfl, hbt7, _⟩ := S11.out.raw (k := 0) hn0
          have U1 : Hid True := trivial
          have U2 : Hid True := trivial
          clear HM0 HM1 HM7 HTBD HES HSU HBD HTB HTO ta1 ta2 ta3 ta4 hw1 hw2 hm1 hm2 h70 h71 h2'
          refine wpList_store rfl rfl rfl rfl rfl hr13 ?_
          clear hW13 hr13 HWW HW12 HR12 HTE HXX BXX HU HS HLE HCE S7 S8 S9 S10 S5 S6
          go_wp2_with (first
            | (go_at_call 17; clear U1; refine (CopyLine_any _ l _ (HX.out _ HB13.out).2.1 (by omega)).mono ?_; rintro e w14 ⟨r14, rfl, s14, b14⟩; have S14 := Lib.hid (And.intro s14 (SW13.out.below b14)); have D14 := Lib.hid (below_tr C13.out b14); have HB14 := Lib.hid (below_tr HB13.out b14); clear s14 b14 g0 g1 g2)
            | (go_at_call 29; clear U2; refine (CopyInts_any _ cu _ (HX.out _ HB14.out).2.2.1 (by omega)).mono ?_; rintro e w15 ⟨r15, rfl, o15, b15⟩; have S15 := Lib.hid (And.intro (S14.out.1.below b15) (And.intro (S14.out.2.below b15) (o15.sl e1_len))); have D15 := Lib.hid (below_tr D14.out b15); have HB15 := Lib.hid (below_tr HB14.out b15); clear o15 b15)
            | (go_at_call 30; refine (HCB.out tw _ _ _ _ S15.out.1 S15.out.2.2 S15.out.2.1).mono ?_; rintro e w16 ⟨rfl, b16⟩; rw [HQ.out]; have D16 := Lib.hid (below_tr D15.out b16); have HB16 := Lib.hid (below_tr HB15.out b16); clear b16; obtain ⟨g0, g1, g2⟩ := (HX.out _ HB16.out).1)
            | (go_at_call 17; refine (CopyLine_any _ l _ (HX.out _ HB16.out).2.1 (by omega)).mono ?_; rintro e w17 ⟨r17, rfl, s17, b17⟩; obtain ⟨A17, c17, rfl, hc17⟩ := s17.form; obtain ⟨b17', o17, rfl, _, _⟩ := s17.raw (k := 0) hkn; have S17 := Lib.hid s17; have D17 := Lib.hid (below_tr D16.out b17); have HB17 := Lib.hid (below_tr HB16.out b17); clear s17 b17 g0 g1 g2))
          obtain ⟨W0, hW0⟩ : ∃ W0, W0 = w17.alloc (.cells #[.int .i64 l.x, .int .i64 l.z, .slice (some ⟨b17', o17, none⟩) (a + 1) c17] 26) := ⟨_, rfl⟩
          rw [← hW0]
          have HV : Hid (∀ W, Below W0.drew.heap.size W0.drew W → (W.cell? ⟨w17.heap.size, 0, none⟩ = some (.int .i64 l.x) ∧ W.cell? ⟨w17.heap.size, 1, none⟩ = some (.int .i64 l.z) ∧ W.cell? ⟨w17.heap.size, 2, none⟩ = some (.slice (some ⟨b17', o17, none⟩) (a + 1) c17)) ∧ Below w17.heap.size w17 W) := by
            intro W h
            rw [hW0] at h
            have nx := fun j v hv => (At.new w17 #[.int .i64 l.x, .int .i64 l.z, .slice (some ⟨b17', o17, none⟩) (a + 1) c17] 26 j v hv).drew.below h
            exact ⟨⟨(nx 0 _ rfl).1, (nx 1 _ rfl).1, (nx 2 _ rfl).1⟩, below_tr (below_alloc1 _ _) (Below.trans (Below.drew (Below.refl _ _)) h)⟩
          have hc7 : ts.length ≤ c7 := by obtain ⟨_, _, e, h⟩ := S11.out.form; injection e with _ _ e; omega
          have hcc : cu.length ≤ c' := by obtain ⟨_, _, e, h⟩ := (HX.out _ HB17.out).2.2.1.form; injection e with _ _ e; omega
          have hacu : a < cu.length := by rw [HCU.out.len]; exact hak
          have hsl1 : (0 : Int) ≤ (a : Int) + 1 := by omega
          have hsl2 : (a : Int) + 1 ≤ (c' : Int) := by omega
          clear hW0
          refine wp_region_mono 11 [197, 198, 199, 200, 201, 202, 203, 196, 204, 205, 18] [[], [], [], [2], [1, 3], [4], [0, 5], [6], [7], [7], [8]] [fun v _ => v = .agg #[.int .i64 l.x, .int .i64 l.z, .slice (some ⟨b17', o17, none⟩) (a + 1) c17], fun v _ => v = .slice (some ⟨bu, ou, none⟩) cu.length c', fun v _ => v = .int .i64 a, fun v _ => v = .int .i64 (a + 1), fun v _ => v = .slice (some ⟨bu, ou, none⟩) (a + 1) c', fun v w => Sl e1 1 w v (cu.take (a + 1)), fun v w => (∃ A c, v = .tuple #[.slice A (a + 1) c, .int .i64 0] ∧ Sl e2 2 w (.slice A (a + 1) c) (ts.take (a + 1))), fun v w => (∃ A c, v = .tuple #[.slice A (a + 1) c, .int .i64 0] ∧ Sl e2 2 w (.slice A (a + 1) c) (ts.take (a + 1))), fun v w => (∃ A c, v = .slice A (a + 1) c ∧ Sl e2 2 w (.slice A (a + 1) c) (ts.take (a + 1))), fun v _ => v = .int .i64 0, fun v w => (∃ A c, v = .slice A (a + 1) c ∧ Sl e2 2 w (.slice A (a + 1) c) (ts.take (a + 1)))] (by kernel_rfl) (by kernel_rfl) ⟨st_eq _, st_eq _, st_eq _, st_eq _, st_eq _, st_sl _ _ _, (fun _ _ _ ⟨A, c, h1, h2⟩ hb => ⟨A, c, h1, h2.below hb⟩), (fun _ _ _ ⟨A, c, h1, h2⟩ hb => ⟨A, c, h1, h2.below hb⟩), (fun _ _ _ ⟨A, c, h1, h2⟩ hb => ⟨A, c, h1, h2.below hb⟩), st_eq _, (fun _ _ _ ⟨A, c, h1, h2⟩ hb => ⟨A, c, h1, h2.below hb⟩), trivial⟩ ?_ ?_
          · simp only [List.take_succ_cons, List.take_zero, steps, and_true]
            refine ⟨?_, ?_, ?_, ?_, ?_, ?_, ?_, ?_, ?_, ?_, ?_⟩
            · intro x W hB _; simp only [putX, setX, List.foldl_cons, List.foldl_nil]; obtain ⟨⟨c0, c1, c2⟩, _⟩ := HV.out W hB; refine ⟨?_⟩; go_simp; exact ⟨rfl, Below.refl _ _⟩
            · intro x W hB _; simp only [putX, setX, List.foldl_cons, List.foldl_nil]; refine ⟨?_⟩; go_simp; exact ⟨rfl, Below.refl _ _⟩
            · intro x W hB _; simp only [putX, setX, List.foldl_cons, List.foldl_nil]; refine ⟨?_⟩; go_simp; exact ⟨rfl, Below.refl _ _⟩
            · intro x W hB hN; simp only [needs, sAt, dAt] at hN; simp only [putX, setX, List.foldl_cons, List.foldl_nil]; refine ⟨?_⟩; go_simp; exact ⟨rfl, Below.refl _ _⟩
            · intro x W hB hN; simp only [needs, sAt, dAt] at hN; simp only [putX, setX, List.foldl_cons, List.foldl_nil]; refine ⟨?_⟩; go_simp; exact ⟨rfl, Below.refl _ _⟩
            · intro x W hB hN; simp only [needs, sAt, dAt] at hN; simp only [putX, setX, List.foldl_cons, List.foldl_nil]; refine ⟨?_⟩; go_simp; refine (CopyInts_any _ (cu.take (a + 1)) _ ((HX.out _ (below_tr HB17.out (HV.out W hB).2)).2.2.1.take (a + 1) hacu) (by rw [List.length_take]; omega)).mono ?_; rintro e w' ⟨r, rfl, o, b⟩; exact ⟨_, rfl, o.sl e1_len, b⟩
            · intro x W hB hN; simp only [needs, sAt, dAt] at hN; simp only [putX, setX, List.foldl_cons, List.foldl_nil]; refine ⟨?_⟩; go_simp; refine (HTH.out a hak _ _ _ (S17.out.below (HV.out W hB).2) hN.2.1 _ _ _ rfl).mono ?_; rintro e w' ⟨A, c, rfl, s, b⟩; exact ⟨_, rfl, ⟨A, c, rfl, s⟩, b⟩
            · intro x W hB hN; simp only [needs, sAt, dAt] at hN; simp only [putX, setX, List.foldl_cons, List.foldl_nil]; obtain ⟨⟨A9, c9, h9, s9⟩, _⟩ := hN; refine ⟨?_⟩; go_simp; exact ⟨⟨A9, c9, rfl, s9⟩, Below.refl _ _⟩
            · intro x W hB hN; simp only [needs, sAt, dAt] at hN; simp only [putX, setX, List.foldl_cons, List.foldl_nil]; obtain ⟨⟨A9, c9, h9, s9⟩, _⟩ := hN; refine ⟨?_⟩; go_simp; exact ⟨⟨A9, c9, rfl, s9⟩, Below.refl _ _⟩
            · intro x W hB hN; simp only [needs, sAt, dAt] at hN; simp only [putX, setX, List.foldl_cons, List.foldl_nil]; obtain ⟨⟨A9, c9, h9, s9⟩, _⟩ := hN; refine ⟨?_⟩; go_simp; exact ⟨rfl, Below.refl _ _⟩
            · intro x W hB hN; simp only [needs, sAt, dAt] at hN; simp only [putX, setX, List.foldl_cons, List.foldl_nil]; obtain ⟨⟨A9, c9, h9, s9⟩, _⟩ := hN; refine ⟨?_⟩; go_simp; exact ⟨⟨A9, c9, rfl, s9⟩, Below.refl _ _⟩
          · intro y V hB hA
            simp only [allSp] at hA
            have q5 := hA.2.2.2.2.2.2.2.2.2.1
            obtain ⟨A18, c18, q18, s18⟩ := hA.2.2.2.2.2.2.2.2.2.2.1
            have S18 := Lib.hid s18
            have hvb := (HV.out V hB).2
            have HB18 := Lib.hid (below_tr HB17.out hvb)
            have D18 := Lib.hid (below_tr D17.out hvb)
            obtain ⟨g0, g1, g2⟩ := (HX.out _ HB18.out).1
            clear hA hB hvb s18
            simp only [putX, setX, List.foldl_cons, List.foldl_nil, List.drop_succ_cons, List.drop_zero, q5, q18, List.setIfInBounds_toArray, List.set_cons_succ, List.set_cons_zero]
            clear q5 q18
            have hx0 := HLK.out.x0
            have hx1 := HLK.out.x1
            have hnx : IntKind.i64.wrap (-l.x) = -l.x := IntWalk.i64_in _ (by omega)
            go_wp2_with (first
              | (go_at_call 37; refine (HSF.out a _ _ _ S18.out ((S11.out.below D18.out).take (a + 1) hat)).mono ?_; rintro e w20 ⟨rfl, b20⟩; have HB20 := Lib.hid (below_tr HB18.out b20); have D20 := Lib.hid (below_tr D18.out b20); clear b20 g0 g1 g2; obtain ⟨g0, g1, g2⟩ := (HX.out _ HB20.out).1)
              | (go_at_call 17; refine (CopyLine_any _ l _ (HX.out _ HB20.out).2.1 (by omega)).mono ?_; rintro e w21 ⟨r21, rfl, s21, b21⟩; obtain ⟨A21, c21, rfl, hc21⟩ := s21.form; have S21 := Lib.hid s21; have D21 := Lib.hid (below_tr D20.out b21); have HB21 := Lib.hid (below_tr HB20.out b21); clear s21 b21 g0 g1 g2))
            go_loopw [21, 22] (fun r i wr => ∃ k : Nat, k ≤ cu.length ∧ i = .int .i64 k ∧ Ow e1 1 3 (w21.heap.size + 1) wr r ((mirC cu).take k) ∧ Below w21.heap.size w21 wr ∧ At wr ⟨w21.heap.size, 0, none⟩ (.int .i64 (-l.x)) ∧ At wr ⟨w21.heap.size, 1, none⟩ (.int .i64 l.z) ∧ At wr ⟨w21.heap.size, 2, none⟩ (.slice A21 l.ks.length c21)) (fun _ i _ => cu.length - (intOf i).toNat)
            case atStart => exact ⟨0, Nat.zero_le _, rfl, Ow.nil _ _ _ _ _, below_alloc1 _ _, At.new w21 #[.int .i64 (-l.x), .int .i64 l.z, .slice A21 l.ks.length c21] 26 0 _ rfl, At.new w21 #[.int .i64 (-l.x), .int .i64 l.z, .slice A21 l.ks.length c21] 26 1 _ rfl, At.new w21 #[.int .i64 (-l.x), .int .i64 l.z, .slice A21 l.ks.length c21] 26 2 _ rfl⟩
            case round =>
              obtain ⟨k, hk, rfl, hown, hb, a0, a1, a2⟩ := hrel
              have HO := Lib.hid hown
              have HB := Lib.hid hb
              have HA := Lib.hid (And.intro a0 (And.intro a1 a2))
              have hz21 : w21.heap.size + 1 ≤ wr.heap.size := a0.lt
              clear hown a0 a1 a2
              by_cases hlt : k < cu.length
              · obtain ⟨bz, oz, ez, _, hc0⟩ := (HX.out _ (below_tr HB21.out hb)).2.2.1.at1 hlt
                injection ez with ez
                injection ez with ez1 ez2
                subst ez1; subst ez2
                have hcb := HCU.out.ok _ (List.getElem_mem hlt)
                have htk : (mirC cu).take (k + 1) = (mirC cu).take k ++ [-cu[k]] := by
                  unfold mirC
                  rw [List.take_succ_eq_append_getElem (by simpa using hlt)]
                  simp
                have HTK := Lib.hid htk
                have hlen : ((mirC cu).take k).length ≤ k := List.length_take_le _ _
                clear htk hb
                generalize cu[k] = n at *
                have hwn : IntKind.i64.wrap (-n) = -n := IntWalk.i64_in _ (by omega)
                have HO7 : Hid (World.ownsRow (wr.alloc (.cells #[.int .i64 (-n)] 3)) (w21.heap.size + 1) 3 1 u21 ((mirC cu).take k).length (((mirC cu).take k).flatMap e1)) := HO.out.own.alloc _
                go_wp2_with (at_builtin; refine wpList_append_own _ rfl _ _ 36 rfl (w21.heap.size + 1) 3 i0 _ 1 8 Try.underlying36 hi hz0 hz1 hz2 rfl (by decide) _ _ _ rfl HO7.out ⟨_, 0, none⟩ 1 1 (e1 (-n)) rfl rfl (cells_new _ _ _) (e1_one _) (by simp only [maxLen]; omega) (by omega) (by simp; omega) ?_; intro v1 w6 hown1 hg1 _; have HO6 := Lib.hid hown1; have HG := Lib.hid hg1; clear hown1 hg1)
                go_roundw
                case rel =>
                  have hap := fun j (hj : j < w21.heap.size + 1) => HO.out.apart (k := j) hj
                  exact ⟨k + 1, by omega, by go_num, by rw [HTK.out]; exact Ow.snoc HO6.out, (below_al HB.out _).grown HG.out (below_al HB.out _).size (fun j e => by have := (World.ownsRow.lt HO.out j e).1; omega), (HA.out.1.al _).grown HG.out (hap _ (by show w21.heap.size < _; omega)), (HA.out.2.1.al _).grown HG.out (hap _ (by show w21.heap.size < _; omega)), (HA.out.2.2.al _).grown HG.out (hap _ (by show w21.heap.size < _; omega))⟩
                case measure => simp [intOf]; omega
              · obtain rfl : k = cu.length := by omega
                rw [List.take_of_length_le (by unfold mirC; rw [List.length_map]; exact Nat.le_refl _)] at HO
                have HXL := HX.out _ (below_tr HB21.out hb)
                have HP : ∃ P : World → Prop, Keeps P ∧ P wr ∧ ∀ W, P W → (W.cell? ⟨w.heap.size, 0, none⟩ = some (.int .i64 l.x) ∧ W.cell? ⟨w.heap.size, 1, none⟩ = some (.int .i64 l.z) ∧ W.cell? ⟨w.heap.size, 2, none⟩ = some (.slice A l.ks.length c)) ∧
                    (W.cell? ⟨w21.heap.size, 0, none⟩ = some (.int .i64 (-l.x)) ∧ W.cell? ⟨w21.heap.size, 1, none⟩ = some (.int .i64 l.z) ∧ W.cell? ⟨w21.heap.size, 2, none⟩ = some (.slice A21 l.ks.length c21)) ∧
                    Sl e3 3 W (.slice A l.ks.length c) l.ks ∧ Sl e3 3 W (.slice A21 l.ks.length c21) l.ks ∧ Sl e1 1 W (.slice (some ⟨bu, ou, none⟩) cu.length c') cu ∧ Sl e1 1 W u21 (mirC cu) ∧ Sl e2 2 W (.slice (some ⟨bt7, ot7, none⟩) ts.length c7) ts ∧ Below w.heap.size w W :=
                  ⟨_, (keeps_cells _ _ _ _).and ((keeps_cells _ _ _ _).and ((keeps_sl _ _ _ _).and ((keeps_sl _ _ _ _).and ((keeps_sl _ _ _ _).and ((keeps_sl _ _ _ _).and ((keeps_sl _ _ _ _).and (keeps_below _))))))),
                    ⟨HXL.1, ⟨HA.out.1.1, HA.out.2.1.1, HA.out.2.2.1⟩, HXL.2.1, S21.out.below hb, HXL.2.2.1, HO.out.sl e1_len, S11.out.below (below_tr D21.out hb), HXL.2.2.2⟩, fun W h => h⟩
                obtain ⟨P, KP, hP, HPE⟩ := HP
                have KP := Lib.hid KP
                have HPE := Lib.hid HPE
                have Q0 := Lib.hid hP
                have V1 : Hid True := trivial
                have V2 : Hid True := trivial
                obtain ⟨⟨g0, g1, g2⟩, ⟨k0, k1, k2⟩, _⟩ := HPE.out _ hP
                clear hb HXL hP HX HA HO HB HCB HQ SW13 S17 S18 S21 HB13 HB17 HB18 HB20 HB21 D14 D15 D16 D17 D18 D20 D21 C13 HTH HSF HE0 S11 HV
                go_wp2_with (first
                  | (go_at_call 17; clear V1; refine (HCM.out _ _ (HPE.out _ Q0.out).2.2.2.1).mono ?_; rintro e w30 ⟨r30, rfl, s30, b30⟩; have S30 := Lib.hid s30; have Q30 := Lib.hid (KP.out _ _ Q0.out b30); clear s30 b30 g0 g1 g2 k0 k1 k2)
                  | (go_at_call 29; clear V2; refine (CopyInts_any _ (mirC cu) _ (HPE.out _ Q30.out).2.2.2.2.2.1 (by omega)).mono ?_; rintro e w31 ⟨r31, rfl, o31, b31⟩; have S31 := Lib.hid (And.intro (S30.out.below b31) (o31.sl e1_len)); have Q31 := Lib.hid (KP.out _ _ Q30.out b31); clear o31 b31)
                  | (go_at_call 28; refine (HTM.out _ _ _ S31.out.1 S31.out.2).mono ?_; rintro e w32 ⟨A32, c32, rfl, s32, b32⟩; have S32 := Lib.hid s32; have Q32 := Lib.hid (KP.out _ _ Q31.out b32); clear s32 b32))
                go_loopw [25] (fun i wx => ∃ k : Nat, k ≤ ts.length ∧ i = .int .i64 k ∧ Below w32.heap.size w32 wx) (fun i _ => ts.length - (intOf i).toNat)
                case atStart => exact ⟨0, Nat.zero_le _, rfl, Below.refl _ _⟩
                case round =>
                  obtain ⟨k, hk, rfl, hb⟩ := hrel
                  have HB := Lib.hid hb
                  by_cases hlt : k < ts.length
                  · have hlm : k < (ts.map mirT).length := by simpa using hlt
                    obtain ⟨bm, om, rfl, _, hm0, hm1⟩ := (S32.out.below hb).at2 hlm
                    obtain ⟨bz, oz, ez, _, hc0, hc1⟩ := (HPE.out _ (KP.out _ _ Q32.out hb)).2.2.2.2.2.2.1.at2 hlt
                    injection ez with ez
                    injection ez with ez1 ez2
                    subst ez1; subst ez2
                    rw [List.getElem_map] at hm0 hm1
                    obtain ⟨⟨t1, t2⟩, _⟩ := HTBD2.out _ (List.getElem_mem hlt)
                    clear hb
                    generalize ts[k] = t at *
                    obtain ⟨x1, x2⟩ := t
                    simp only [mirT] at *
                    have hwn : IntKind.i64.wrap (-x1) = -x1 := IntWalk.i64_in _ (by omega)
                    have hp := pne0 (x := (-x1, x2)) rfl
                    simp only at hp
                    go_wp2_with fail
                    go_quiet (fail)
                    go_wp2_with fail
                    go_roundw
                    case rel => exact ⟨k + 1, by omega, by go_num, below_drN HB.out _⟩
                    case measure => simp [intOf]; omega
                  · obtain rfl : k = ts.length := by omega
                    have Q39 := Lib.hid (KP.out _ _ Q32.out hb)
                    have V3 : Hid True := trivial
                    have V4 : Hid True := trivial
                    have V5 : Hid True := trivial
                    have V6 : Hid True := trivial
                    have V7 : Hid True := trivial
                    have V8 : Hid True := trivial
                    have V9 : Hid True := trivial
                    have V10 : Hid True := trivial
                    have V11 : Hid True := trivial
                    have V12 : Hid True := trivial
                    obtain ⟨⟨g0, g1, g2⟩, _⟩ := HPE.out _ Q39.out
                    clear hb Q0 Q30 Q31 Q32 S30 S31 S32 HB HTM
                    have q1' := eq_range
                    have V13 : Hid True := trivial
                    obtain ⟨⟨lb1, lb2⟩, lb3, lb4⟩ := hlb
                    have hnl1 : IntKind.i64.wrap (-(-la)) = la := by rw [Int.neg_neg]; exact IntWalk.i64_in _ (by omega)
                    have hnl2 : IntKind.i64.wrap (-(-lz)) = lz := by rw [Int.neg_neg]; exact IntWalk.i64_in _ (by omega)
                    have hnl3 : IntKind.i64.wrap la = la := IntWalk.i64_in _ (by omega)
                    have hnl4 : IntKind.i64.wrap lz = lz := IntWalk.i64_in _ (by omega)
                    go_wp2_with (first
                      | (go_at_call 17; clear V3; refine (CopyLine_any _ l _ (HPE.out _ Q39.out).2.2.1 (by omega)).mono ?_; rintro e w40 ⟨r40, rfl, s40, b40⟩; have S40 := Lib.hid s40; have Q40 := Lib.hid (KP.out _ _ Q39.out b40); clear s40 b40 g0 g1 g2)
                      | (go_at_call 29; clear V4; refine (CopyInts_any _ cu _ (HPE.out _ Q40.out).2.2.2.2.1 (by omega)).mono ?_; rintro e w41 ⟨r41, rfl, o41, b41⟩; have S41 := Lib.hid (And.intro (S40.out.below b41) (o41.sl e1_len)); have Q41 := Lib.hid (KP.out _ _ Q40.out b41); clear o41 b41)
                      | (go_at_call 40; clear V5; refine (HLB.out _ _ _ S41.out.1 S41.out.2).mono ?_; rintro e w42 ⟨rfl, b42⟩; have K1 := Lib.hid (Keeps.and KP.out (keeps_sl e1 1 (.slice (some ⟨w42.heap.size, 0, none⟩) 2 2) [la, lz])); have Q42 := Lib.hid (And.intro (KP.out _ _ (KP.out _ _ Q41.out b42) (below_alloc1 w42 (.cells #[.int .i64 la, .int .i64 lz] 66))) (sl2 w42 la lz 66)); clear b42; obtain ⟨_, ⟨k0, k1, k2⟩, _⟩ := HPE.out _ Q42.out.1)
                      | (go_at_call 17; clear V6; refine (HCM.out _ _ (HPE.out _ Q42.out.1).2.2.2.1).mono ?_; rintro e w43 ⟨r43, rfl, s43, b43⟩; have S43 := Lib.hid s43; have Q43 := Lib.hid (K1.out _ _ Q42.out b43); clear s43 b43 k0 k1 k2)
                      | (go_at_call 29; clear V7; refine (CopyInts_any _ (mirC cu) _ (HPE.out _ Q43.out.1).2.2.2.2.2.1 (by omega)).mono ?_; rintro e w44 ⟨r44, rfl, o44, b44⟩; have S44 := Lib.hid (And.intro (S43.out.below b44) (o44.sl e1_len)); have Q44 := Lib.hid (K1.out _ _ Q43.out b44); clear o44 b44)
                      | (go_at_call 40; refine (HLBM.out _ _ _ S44.out.1 S44.out.2).mono ?_; rintro e w45 ⟨rfl, b45⟩; have K2 := Lib.hid (Keeps.and K1.out (keeps_sl e1 1 (.slice (some ⟨w45.heap.size, 0, none⟩) 2 2) [-lz, -la])); have Q45 := Lib.hid (And.intro (K1.out _ _ (K1.out _ _ Q44.out b45) (below_alloc1 w45 (.cells #[.int .i64 (-lz), .int .i64 (-la)] 66))) (sl2 w45 (-lz) (-la) 66)); clear b45; obtain ⟨⟨g0, g1, g2⟩, _⟩ := HPE.out _ Q45.out.1.1)
                      | (go_at_call 17; clear V8; refine (CopyLine_any _ l _ (HPE.out _ Q45.out.1.1).2.2.1 (by omega)).mono ?_; rintro e w46 ⟨r46, rfl, s46, b46⟩; have S46 := Lib.hid s46; have Q46 := Lib.hid (K2.out _ _ Q45.out b46); clear s46 b46 g0 g1 g2)
                      | (go_at_call 29; clear V9; refine (CopyInts_any _ cu _ (HPE.out _ Q46.out.1.1).2.2.2.2.1 (by omega)).mono ?_; rintro e w47 ⟨r47, rfl, o47, b47⟩; have S47 := Lib.hid (And.intro (S46.out.below b47) (o47.sl e1_len)); have Q47 := Lib.hid (K2.out _ _ Q46.out b47); clear o47 b47)
                      | (go_at_call 41; clear V10; refine (HLN.out _ _ _ S47.out.1 S47.out.2).mono ?_; rintro e w48 ⟨rfl, b48⟩; have K3 := Lib.hid (Keeps.and K2.out (keeps_sl e1 1 (.slice (some ⟨w48.heap.size, 0, none⟩) 2 2) [na, nz])); have Q48 := Lib.hid (And.intro (K2.out _ _ (K2.out _ _ Q47.out b48) (below_alloc1 w48 (.cells #[.int .i64 na, .int .i64 nz] 66))) (sl2 w48 na nz 66)); clear b48; obtain ⟨_, ⟨k0, k1, k2⟩, _⟩ := HPE.out _ Q48.out.1.1.1)
                      | (go_at_call 17; clear V11; refine (HCM.out _ _ (HPE.out _ Q48.out.1.1.1).2.2.2.1).mono ?_; rintro e w49 ⟨r49, rfl, s49, b49⟩; have S49 := Lib.hid s49; have Q49 := Lib.hid (K3.out _ _ Q48.out b49); clear s49 b49 k0 k1 k2)
                      | (go_at_call 29; clear V12; refine (CopyInts_any _ (mirC cu) _ (HPE.out _ Q49.out.1.1.1).2.2.2.2.2.1 (by omega)).mono ?_; rintro e w50 ⟨r50, rfl, o50, b50⟩; have S50 := Lib.hid (And.intro (S49.out.below b50) (o50.sl e1_len)); have Q50 := Lib.hid (K3.out _ _ Q49.out b50); clear o50 b50)
                      | (go_at_call 41; refine (HLNM.out _ _ _ S50.out.1 S50.out.2).mono ?_; rintro e w51 ⟨rfl, b51⟩; have K4 := Lib.hid (Keeps.and K3.out (keeps_sl e1 1 (.slice (some ⟨w51.heap.size, 0, none⟩) 2 2) [na, nz])); have Q51 := Lib.hid (And.intro (K3.out _ _ (K3.out _ _ Q50.out b51) (below_alloc1 w51 (.cells #[.int .i64 na, .int .i64 nz] 66))) (sl2 w51 na nz 66)); clear b51; obtain ⟨⟨g0, g1, g2⟩, _⟩ := HPE.out _ Q51.out.1.1.1.1)
                      | (go_at_call 17; refine (CopyLine_any _ l _ (HPE.out _ Q51.out.1.1.1.1).2.2.1 (by omega)).mono ?_; rintro e w52 ⟨r52, rfl, s52, b52⟩; have S52 := Lib.hid s52; have Q52 := Lib.hid (K4.out _ _ Q51.out b52); clear s52 b52 g0 g1 g2)
                      | (go_at_call 29; refine (CopyInts_any _ cu _ (HPE.out _ Q52.out.1.1.1.1).2.2.2.2.1 (by omega)).mono ?_; rintro e w53 ⟨r53, rfl, o53, b53⟩; have S53 := Lib.hid (And.intro (S52.out.below b53) (o53.sl e1_len)); have Q53 := Lib.hid (K4.out _ _ Q52.out b53); clear o53 b53)
                      | (go_at_call 42; clear V13; refine (HBN.out _ _ _ S53.out.1 S53.out.2).mono ?_; rintro e w54 ⟨r54, rfl, s54, b54⟩; have S54 := Lib.hid s54; have Q54 := Lib.hid (K4.out _ _ Q53.out b54); clear s54 b54; obtain ⟨_, ⟨k0, k1, k2⟩, _⟩ := HPE.out _ Q54.out.1.1.1.1)
                      | (go_at_call 42; refine (HBNM.out _ _ _ (HPE.out _ Q54.out.1.1.1.1).2.2.2.1 (HPE.out _ Q54.out.1.1.1.1).2.2.2.2.2.1).mono ?_; rintro e w55 ⟨r55, rfl, s55, b55⟩; have S55 := Lib.hid (And.intro (S54.out.below b55) s55); have Q55 := Lib.hid (K4.out _ _ Q54.out b55); clear s55 b55 k0 k1 k2; obtain ⟨x0, x1⟩ := box_cells Q55.out.1.1.1.2; obtain ⟨x2, x3⟩ := box_cells Q55.out.1.1.2; obtain ⟨x4, x5⟩ := box_cells Q55.out.1.2; obtain ⟨x6, x7⟩ := box_cells Q55.out.2)
                      | (go_at_call 43; refine (HFR.out _ _ _ S55.out.1 S55.out.2).mono ?_; rintro e w56 ⟨rfl, b56⟩; have Q56 := Lib.hid (K4.out _ _ Q55.out b56); clear b56 x0 x1 x2 x3 x4 x5 x6 x7))
                    go_ret
                    exact ⟨rfl, (HPE.out _ Q56.out.1.1.1.1).2.2.2.2.2.2.2⟩
      · exact absurd hpar h2
end Go.Proofs.Ytghglgaimhfedaa
