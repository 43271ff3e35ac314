/-
  The statement CableReadings where it says nothing.
-/
import Derived.Test.YtekinmafdhgmpaaQT
import Derived.Test.YtekinmafdhgmpaaZMg
import Derived.Test.YtekinmafdhgmpaaZMx
import Derived.Test.YtekinmafdhgmpaaZOh
namespace Go.Proofs.Ytekinmafdhgmpaa
open Go.RowKit Go.Shelf

theorem rd_hx {w w1 : World} {l : Ln} {b : List (Int × Int)} {r : List Rd} {s : List Int} {A A' A'' A3 : Option Addr} {c c' c'' c3 : Nat} (hs : Sl e3 3 w (.slice A l.ks.length c) l.ks) (hu : Sl e2 2 w (.slice A' b.length c') b) (ht : Sl e3 3 w (.slice A'' r.length c'') r) (hy : Sl e1 1 w (.slice A3 s.length c3) s)
    (b1 : Below ((w.alloc (.cells #[.int .i64 l.x, .int .i64 l.z, .slice A l.ks.length c] 26)).alloc (.cells #[.slice A'' r.length c'', .slice A3 s.length c3] 31)).heap.size ((w.alloc (.cells #[.int .i64 l.x, .int .i64 l.z, .slice A l.ks.length c] 26)).alloc (.cells #[.slice A'' r.length c'', .slice A3 s.length c3] 31)) w1) : (w1.cell? ⟨w.heap.size, 0, none⟩ = some (.int .i64 l.x) ∧ w1.cell? ⟨w.heap.size, 1, none⟩ = some (.int .i64 l.z) ∧ w1.cell? ⟨w.heap.size, 2, none⟩ = some (.slice A l.ks.length c) ∧ w1.cell? ⟨w.heap.size + 1, 0, none⟩ = some (.slice A'' r.length c'') ∧ w1.cell? ⟨w.heap.size + 1, 1, none⟩ = some (.slice A3 s.length c3)) ∧ Sl e3 3 w1 (.slice A l.ks.length c) l.ks ∧ Sl e2 2 w1 (.slice A' b.length c') b ∧ Sl e3 3 w1 (.slice A'' r.length c'') r ∧ Sl e1 1 w1 (.slice A3 s.length c3) s ∧ Below w.heap.size w w1 := by
  have hb : Below w.heap.size w w1 := below_tr (below_al (below_alloc1 _ _) _) b1
  obtain ⟨bx, by'⟩ := box2 w #[.int .i64 l.x, .int .i64 l.z, .slice A l.ks.length c] #[.slice A'' r.length c'', .slice A3 s.length c3] 26 31
  have bx' := fun j v hv => (bx j v hv).below b1
  have by'' := fun j v hv => (by' j v hv).below b1
  exact ⟨⟨(bx' 0 _ rfl).1, (bx' 1 _ rfl).1, (bx' 2 _ rfl).1, (by'' 0 _ rfl).1, (by'' 1 _ rfl).1⟩, hs.below hb, hu.below hb, ht.below hb, hy.below hb, hb⟩
set_option maxRecDepth 100000 in
set_option maxHeartbeats 4000000 in
theorem readings_far (v u t y : Value) (l : Ln) (b : List (Int × Int)) (r : List Rd) (s : List Int) (w : World) (hs : Sl e3 3 w v l.ks) (hu : Sl e2 2 w u b) (ht : Sl e3 3 w t r) (hy : Sl e1 1 w y s) (hn : ¬ (l.ks.length ≤ 12 ∧ b.length ≤ 14 ∧ r.length ≤ 14 ∧ s.length ≤ 4)) :
    Calls Try.prog 3 #[.agg #[.int .i64 l.x, .int .i64 l.z, v], u, .agg #[t, y]] w fun e w' => e = .returned (.bool true) ∧ Below w.heap.size w w' := by
  have HS := Lib.hid hs
  have HU := Lib.hid hu
  have HT := Lib.hid ht
  have HY := Lib.hid hy
  obtain ⟨A, c, rfl, hcap⟩ := hs.form
  obtain ⟨A', c', rfl, hcap'⟩ := hu.form
  obtain ⟨A'', c'', rfl, hcap''⟩ := ht.form
  obtain ⟨A3, c3, rfl, hcap3⟩ := hy.form
  clear hs hu ht hy hcap hcap' hcap'' hcap3
  by_cases h1 : l.ks.length ≤ 12 ∧ b.length ≤ 14
  · have f1 := fewB_true h1.1 h1.2
    by_cases h2 : r.length ≤ 14
    · have h3 : ¬ s.length ≤ 4 := fun h => hn ⟨h1.1, h1.2, h2, h⟩
      have d1 : ¬ (14 : Int) < (r.length : Int) := by omega
      have d1' : decide ((14 : Int) < (r.length : Int)) = false := decide_eq_false d1
      have d2 : (4 : Int) < (s.length : Int) := by omega
      have d2' : decide ((4 : Int) < (s.length : Int)) = true := decide_eq_true d2
      clear hn h1 h2 h3
      go_enter Try.func3, Try.ntmps3
      go_wp2_with (first
        | (go_at_call 9; refine (awakeB _).mono ?_; rintro e w1 ⟨rfl, b1⟩; have HXP : ∃ P : World → Prop, Keeps P ∧ P w1 ∧ ∀ W, P W → (W.cell? ⟨w.heap.size, 0, none⟩ = some (.int .i64 l.x) ∧ W.cell? ⟨w.heap.size, 1, none⟩ = some (.int .i64 l.z) ∧ W.cell? ⟨w.heap.size, 2, none⟩ = some (.slice A l.ks.length c) ∧ W.cell? ⟨w.heap.size + 1, 0, none⟩ = some (.slice A'' r.length c'') ∧ W.cell? ⟨w.heap.size + 1, 1, none⟩ = some (.slice A3 s.length c3)) ∧ Sl e3 3 W (.slice A l.ks.length c) l.ks ∧ Sl e2 2 W (.slice A' b.length c') b ∧ Sl e3 3 W (.slice A'' r.length c'') r ∧ Sl e1 1 W (.slice A3 s.length c3) s ∧ Below w.heap.size w W := ⟨_, ((keeps_cell _ _).and ((keeps_cell _ _).and ((keeps_cell _ _).and ((keeps_cell _ _).and (keeps_cell _ _))))).and ((keeps_sl _ _ _ _).and ((keeps_sl _ _ _ _).and ((keeps_sl _ _ _ _).and ((keeps_sl _ _ _ _).and (keeps_below _))))), rd_hx HS.out HU.out HT.out HY.out b1, fun _ h => h⟩; obtain ⟨P, KP, hP, HPE⟩ := HXP; have K0 := Lib.hid KP; have HPE := Lib.hid HPE; have Q1 := Lib.hid hP; clear b1 KP hP; obtain ⟨g0, g1, g2, g3, g4⟩ := (HPE.out _ Q1.out).1)
        | (go_at_call 10; refine (few_any _ l _ _ (HPE.out _ Q1.out).2.1).mono ?_; rintro e w2 ⟨rfl, b2⟩; have Q2 := Lib.hid (K0.out _ _ Q1.out b2); clear b2 g0 g1 g2 g3 g4; obtain ⟨g0, g1, g2, g3, g4⟩ := (HPE.out _ Q2.out).1))
      go_ret
      exact ⟨rfl, (HPE.out _ Q2.out).2.2.2.2.2⟩
    · have d1 : (14 : Int) < (r.length : Int) := by omega
      have d1' : decide ((14 : Int) < (r.length : Int)) = true := decide_eq_true d1
      clear hn h1 h2
      go_enter Try.func3, Try.ntmps3
      go_wp2_with (first
        | (go_at_call 9; refine (awakeB _).mono ?_; rintro e w1 ⟨rfl, b1⟩; have HXP : ∃ P : World → Prop, Keeps P ∧ P w1 ∧ ∀ W, P W → (W.cell? ⟨w.heap.size, 0, none⟩ = some (.int .i64 l.x) ∧ W.cell? ⟨w.heap.size, 1, none⟩ = some (.int .i64 l.z) ∧ W.cell? ⟨w.heap.size, 2, none⟩ = some (.slice A l.ks.length c) ∧ W.cell? ⟨w.heap.size + 1, 0, none⟩ = some (.slice A'' r.length c'') ∧ W.cell? ⟨w.heap.size + 1, 1, none⟩ = some (.slice A3 s.length c3)) ∧ Sl e3 3 W (.slice A l.ks.length c) l.ks ∧ Sl e2 2 W (.slice A' b.length c') b ∧ Sl e3 3 W (.slice A'' r.length c'') r ∧ Sl e1 1 W (.slice A3 s.length c3) s ∧ Below w.heap.size w W := ⟨_, ((keeps_cell _ _).and ((keeps_cell _ _).and ((keeps_cell _ _).and ((keeps_cell _ _).and (keeps_cell _ _))))).and ((keeps_sl _ _ _ _).and ((keeps_sl _ _ _ _).and ((keeps_sl _ _ _ _).and ((keeps_sl _ _ _ _).and (keeps_below _))))), rd_hx HS.out HU.out HT.out HY.out b1, fun _ h => h⟩; obtain ⟨P, KP, hP, HPE⟩ := HXP; have K0 := Lib.hid KP; have HPE := Lib.hid HPE; have Q1 := Lib.hid hP; clear b1 KP hP; obtain ⟨g0, g1, g2, g3, g4⟩ := (HPE.out _ Q1.out).1)
        | (go_at_call 10; refine (few_any _ l _ _ (HPE.out _ Q1.out).2.1).mono ?_; rintro e w2 ⟨rfl, b2⟩; have Q2 := Lib.hid (K0.out _ _ Q1.out b2); clear b2 g0 g1 g2 g3 g4; obtain ⟨g0, g1, g2, g3, g4⟩ := (HPE.out _ Q2.out).1))
      go_ret
      exact ⟨rfl, (HPE.out _ Q2.out).2.2.2.2.2⟩
  · have f1 : fewB l.ks.length (b.length : Int) = false := fewB_false h1
    clear hn h1
    go_enter Try.func3, Try.ntmps3
    go_wp2_with (first
      | (go_at_call 9; refine (awakeB _).mono ?_; rintro e w1 ⟨rfl, b1⟩; have HXP : ∃ P : World → Prop, Keeps P ∧ P w1 ∧ ∀ W, P W → (W.cell? ⟨w.heap.size, 0, none⟩ = some (.int .i64 l.x) ∧ W.cell? ⟨w.heap.size, 1, none⟩ = some (.int .i64 l.z) ∧ W.cell? ⟨w.heap.size, 2, none⟩ = some (.slice A l.ks.length c) ∧ W.cell? ⟨w.heap.size + 1, 0, none⟩ = some (.slice A'' r.length c'') ∧ W.cell? ⟨w.heap.size + 1, 1, none⟩ = some (.slice A3 s.length c3)) ∧ Sl e3 3 W (.slice A l.ks.length c) l.ks ∧ Sl e2 2 W (.slice A' b.length c') b ∧ Sl e3 3 W (.slice A'' r.length c'') r ∧ Sl e1 1 W (.slice A3 s.length c3) s ∧ Below w.heap.size w W := ⟨_, ((keeps_cell _ _).and ((keeps_cell _ _).and ((keeps_cell _ _).and ((keeps_cell _ _).and (keeps_cell _ _))))).and ((keeps_sl _ _ _ _).and ((keeps_sl _ _ _ _).and ((keeps_sl _ _ _ _).and ((keeps_sl _ _ _ _).and (keeps_below _))))), rd_hx HS.out HU.out HT.out HY.out b1, fun _ h => h⟩; obtain ⟨P, KP, hP, HPE⟩ := HXP; have K0 := Lib.hid KP; have HPE := Lib.hid HPE; have Q1 := Lib.hid hP; clear b1 KP hP; obtain ⟨g0, g1, g2, g3, g4⟩ := (HPE.out _ Q1.out).1)
      | (go_at_call 10; refine (few_any _ l _ _ (HPE.out _ Q1.out).2.1).mono ?_; rintro e w2 ⟨rfl, b2⟩; have Q2 := Lib.hid (K0.out _ _ Q1.out b2); clear b2 g0 g1 g2 g3 g4; obtain ⟨g0, g1, g2, g3, g4⟩ := (HPE.out _ Q2.out).1))
    go_ret
    exact ⟨rfl, (HPE.out _ Q2.out).2.2.2.2.2⟩
end Go.Proofs.Ytekinmafdhgmpaa

namespace Go.Proofs.Ytekinmafdhgmpaa
open Go.RowKit Go.Shelf
attribute [local go_sem] monoUpon_value monoUpon_skip monoUpon_enter

set_option maxRecDepth 100000 in
set_option maxHeartbeats 16000000 in
theorem readings_bad (v u t y : Value) (l : Ln) (b : List (Int × Int)) (r : List Rd) (s : List Int) (w : World) (hs : Sl e3 3 w v l.ks) (hu : Sl e2 2 w u b) (ht : Sl e3 3 w t r) (hy : Sl e1 1 w y s) (hn : l.ks.length ≤ 12) (hc : b.length ≤ 14) (hr : r.length ≤ 14) (hq : s.length ≤ 4) (hne : ¬ readingsErr l b r = 0) :
    Calls Try.prog 3 #[.agg #[.int .i64 l.x, .int .i64 l.z, v], u, .agg #[t, y]] w fun e w' => e = .returned (.bool true) ∧ Below w.heap.size w w' := by
  have HS := Lib.hid hs
  have HU := Lib.hid hu
  have HT := Lib.hid ht
  have HY := Lib.hid hy
  obtain ⟨A, c, rfl, hcap⟩ := hs.form
  obtain ⟨A', c', rfl, hcap'⟩ := hu.form
  obtain ⟨A'', c'', rfl, hcap''⟩ := ht.form
  obtain ⟨A3, c3, rfl, hcap3⟩ := hy.form
  clear hs hu ht hy hcap hcap' hcap'' hcap3
  have f1 := fewB_true hn hc
  have d1 : ¬ (14 : Int) < (r.length : Int) := by omega
  have d1' : decide ((14 : Int) < (r.length : Int)) = false := decide_eq_false d1
  have d2 : ¬ (4 : Int) < (s.length : Int) := by omega
  have d2' : decide ((4 : Int) < (s.length : Int)) = false := decide_eq_false d2
  have HCO := Lib.hid (fun q2 q3 q4 W k1 k2 k3 => Contra_bad q2 q3 q4 l b r W k1 k2 k3 (by omega) (by omega) (by omega) hne)
  obtain ⟨nn, ff, hcc, e0, e1'⟩ : ∃ nn ff, checkC l b r s = (nn, ff) ∧ nn = 0 ∧ ff = readingsErr l b r := ⟨_, _, if_neg hne, rfl, rfl⟩
  have HCC : Hid (∀ q2 q3 q4 q5 W, Sl e3 3 W q2 l.ks → Sl e2 2 W q3 b → Sl e3 3 W q4 r → Sl e1 1 W q5 s → Calls Try.prog 15 #[.agg #[.int .i64 l.x, .int .i64 l.z, q2], q3, q4, q5] W fun e w' => e = .returned (.tuple #[.int .i64 nn, .int .i64 ff]) ∧ Below W.heap.size W w') := fun q2 q3 q4 q5 W k1 k2 k3 k4 => by
    have := CheckC_any q2 q3 q4 q5 l b r s W k1 k2 k3 k4 (by omega) (by omega) (by omega) (by omega)
    rwa [hcc] at this
  subst e0
  subst e1'
  have HLE := Lib.hid (fun v w h1 => LineErr_any v l w h1 (by omega))
  have HBE := Lib.hid (fun v u w h1 h2 => rBoxErr_any v u l b w h1 h2 (by omega))
  have hne' := ne1 hne
  have hne2 := eq1 hne
  clear hcc
  by_cases h4 : lineErr l = 0
  · by_cases h5 : (boxErr1 l b).2 = 0
    · have hl := lineErr_ok h4
      have HRE := Lib.hid (fun v t w h1 h2 => rReadingsErr_any v t l r w h1 h2 hl)
      have e4 : rdsErr l r = readingsErr l b r := by
        have h6 : boxErr l b = 0 := by rw [boxErr_box h4]; exact h5
        unfold readingsErr; rw [if_pos h6]
      rw [h4] at HLE
      rw [h5] at HBE
      rw [e4] at HRE
      clear h4 h5 hl e4 hne
      generalize readingsErr l b r = d at *
      go_enter Try.func3, Try.ntmps3
      go_wp2_with (first
        | (go_at_call 9; refine (awakeB _).mono ?_; rintro e w1 ⟨rfl, b1⟩; have HXP : ∃ P : World → Prop, Keeps P ∧ P w1 ∧ ∀ W, P W → (W.cell? ⟨w.heap.size, 0, none⟩ = some (.int .i64 l.x) ∧ W.cell? ⟨w.heap.size, 1, none⟩ = some (.int .i64 l.z) ∧ W.cell? ⟨w.heap.size, 2, none⟩ = some (.slice A l.ks.length c) ∧ W.cell? ⟨w.heap.size + 1, 0, none⟩ = some (.slice A'' r.length c'') ∧ W.cell? ⟨w.heap.size + 1, 1, none⟩ = some (.slice A3 s.length c3)) ∧ Sl e3 3 W (.slice A l.ks.length c) l.ks ∧ Sl e2 2 W (.slice A' b.length c') b ∧ Sl e3 3 W (.slice A'' r.length c'') r ∧ Sl e1 1 W (.slice A3 s.length c3) s ∧ Below w.heap.size w W := ⟨_, ((keeps_cell _ _).and ((keeps_cell _ _).and ((keeps_cell _ _).and ((keeps_cell _ _).and (keeps_cell _ _))))).and ((keeps_sl _ _ _ _).and ((keeps_sl _ _ _ _).and ((keeps_sl _ _ _ _).and ((keeps_sl _ _ _ _).and (keeps_below _))))), rd_hx HS.out HU.out HT.out HY.out b1, fun _ h => h⟩; obtain ⟨P, KP, hP, HPE⟩ := HXP; have K0 := Lib.hid KP; have HPE := Lib.hid HPE; have Q1 := Lib.hid hP; clear b1 KP hP; obtain ⟨g0, g1, g2, g3, g4⟩ := (HPE.out _ Q1.out).1)
        | (go_at_call 10; refine (few_any _ l _ _ (HPE.out _ Q1.out).2.1).mono ?_; rintro e w2 ⟨rfl, b2⟩; have Q2 := Lib.hid (K0.out _ _ Q1.out b2); clear b2 g0 g1 g2 g3 g4; obtain ⟨g0, g1, g2, g3, g4⟩ := (HPE.out _ Q2.out).1))
      have HX5 : Hid (∀ W, Below w2.drew.heap.size w2.drew W → (W.cell? ⟨w.heap.size, 0, none⟩ = some (.int .i64 l.x) ∧ W.cell? ⟨w.heap.size, 1, none⟩ = some (.int .i64 l.z) ∧ W.cell? ⟨w.heap.size, 2, none⟩ = some (.slice A l.ks.length c) ∧ W.cell? ⟨w.heap.size + 1, 0, none⟩ = some (.slice A'' r.length c'') ∧ W.cell? ⟨w.heap.size + 1, 1, none⟩ = some (.slice A3 s.length c3)) ∧ Sl e3 3 W (.slice A l.ks.length c) l.ks ∧ Sl e2 2 W (.slice A' b.length c') b ∧ Sl e3 3 W (.slice A'' r.length c'') r ∧ Sl e1 1 W (.slice A3 s.length c3) s ∧ Below w.heap.size w W) := fun W hW => HPE.out _ (K0.out _ _ Q2.out (Below.trans (Below.drew (Below.refl _ _)) hW))
      refine wp_region_mono 12 [35, 36, 37, 38, 39, 40, 41, 42, 34, 43, 44, 7] [[], [0], [], [2], [], [4], [5], [1, 3, 6], [7], [8], [8], [9]] [fun v _ => v = .agg #[.int .i64 l.x, .int .i64 l.z, .slice A l.ks.length c], fun v w => (∃ q, v = .agg #[.int .i64 l.x, .int .i64 l.z, q] ∧ Sl e3 3 w q l.ks), fun v _ => v = .slice A' b.length c', fun v w => Sl e2 2 w v b, fun v _ => v = .pointer (some ⟨w.heap.size + 1, 0, none⟩), fun v _ => v = .slice A'' r.length c'', fun v w => Sl e3 3 w v r, fun v _ => v = .tuple #[.slice none 0 0, .int .i64 d], fun v _ => v = .tuple #[.slice none 0 0, .int .i64 d], fun v _ => v = .slice none 0 0, fun v _ => v = .int .i64 d, fun v _ => v = .slice none 0 0] (by kernel_rfl) (by kernel_rfl) ⟨st_eq _, (fun _ _ _ ⟨q, e, h⟩ hb => ⟨q, e, h.below hb⟩), st_eq _, st_sl _ _ _, st_eq _, st_eq _, st_sl _ _ _, st_eq _, st_eq _, st_eq _, st_eq _, st_eq _, trivial⟩ ?_ ?_
      · simp only [List.take_succ_cons, List.take_zero, steps, and_true]
        refine ⟨?_, ?_, ?_, ?_, ?_, ?_, ?_, ?_, ?_, ?_, ?_, ?_⟩
        · intro x W hB _; simp only [putX, setX, List.foldl_cons, List.foldl_nil]; obtain ⟨⟨c0, c1, c2, _⟩, _⟩ := HX5.out W hB; refine ⟨?_⟩; go_simp; exact ⟨rfl, Below.refl _ _⟩
        · intro x W hB hN; simp only [needs, sAt, dAt] at hN; simp only [putX, setX, List.foldl_cons, List.foldl_nil]; refine ⟨?_⟩; go_simp; refine (CopyLine_any _ l _ (HX5.out W hB).2.1 (by omega)).mono ?_; rintro e w' ⟨q, rfl, o, b1⟩; exact ⟨_, rfl, ⟨q, rfl, o⟩, b1⟩
        · intro x W hB _; simp only [putX, setX, List.foldl_cons, List.foldl_nil]; refine ⟨?_⟩; go_simp; exact ⟨rfl, Below.refl _ _⟩
        · intro x W hB hN; simp only [needs, sAt, dAt] at hN; simp only [putX, setX, List.foldl_cons, List.foldl_nil]; refine ⟨?_⟩; go_simp; refine (CopyRanges_any _ b _ (HX5.out W hB).2.2.1 (by omega)).mono ?_; rintro e w' ⟨q, rfl, o, b1⟩; exact ⟨_, rfl, o.sl e2_len, b1⟩
        · intro x W hB _; simp only [putX, setX, List.foldl_cons, List.foldl_nil]; refine ⟨?_⟩; go_simp; exact ⟨rfl, Below.refl _ _⟩
        · intro x W hB hN; simp only [needs, sAt, dAt] at hN; simp only [putX, setX, List.foldl_cons, List.foldl_nil]; obtain ⟨⟨_, _, _, c0, _⟩, _⟩ := HX5.out W hB; refine ⟨?_⟩; go_simp; exact ⟨rfl, Below.refl _ _⟩
        · intro x W hB hN; simp only [needs, sAt, dAt] at hN; simp only [putX, setX, List.foldl_cons, List.foldl_nil]; refine ⟨?_⟩; go_simp; refine (CopyReadings_any _ r _ (HX5.out W hB).2.2.2.1 (by omega)).mono ?_; rintro e w' ⟨q, rfl, o, b1⟩; exact ⟨_, rfl, o.sl e3_len, b1⟩
        · intro x W hB hN; simp only [needs, sAt, dAt] at hN; simp only [putX, setX, List.foldl_cons, List.foldl_nil]; obtain ⟨⟨q9, e36, h36⟩, h38, h41, _⟩ := hN; refine ⟨?_⟩; go_simp; refine (HCO.out _ _ _ _ h36 h38 h41).mono ?_; rintro e w' ⟨rfl, b1⟩; exact ⟨_, rfl, rfl, b1⟩
        · intro x W hB hN; simp only [needs, sAt, dAt] at hN; simp only [putX, setX, List.foldl_cons, List.foldl_nil]; refine ⟨?_⟩; go_simp; exact ⟨rfl, Below.refl _ _⟩
        · intro x W hB hN; simp only [needs, sAt, dAt] at hN; simp only [putX, setX, List.foldl_cons, List.foldl_nil]; refine ⟨?_⟩; go_simp; exact ⟨rfl, Below.refl _ _⟩
        · intro x W hB hN; simp only [needs, sAt, dAt] at hN; simp only [putX, setX, List.foldl_cons, List.foldl_nil]; refine ⟨?_⟩; go_simp; exact ⟨rfl, Below.refl _ _⟩
        · intro x W hB hN; simp only [needs, sAt, dAt] at hN; simp only [putX, setX, List.foldl_cons, List.foldl_nil]; refine ⟨?_⟩; go_simp; exact ⟨rfl, Below.refl _ _⟩
      · intro x1 W1 hB hA
        simp only [allSp] at hA
        have s1 := hA.2.2.2.2.2.2.2.2.2.2.2.1
        have s2 := hA.2.2.2.2.2.2.2.2.2.2.1
        have Q10 := Lib.hid (K0.out _ _ Q2.out (Below.trans (Below.drew (Below.refl _ _)) hB))
        clear hA hB HX5 g0 g1 g2 g3 g4
        obtain ⟨g0, g1, g2, g3, g4⟩ := (HPE.out _ Q10.out).1
        simp only [putX, setX, List.foldl_cons, List.foldl_nil, List.drop_succ_cons, List.drop_zero, s1, s2, List.setIfInBounds_toArray, List.set_cons_succ, List.set_cons_zero]
        clear s1 s2
        have HX6 : Hid (∀ W, Below W1.drew.heap.size W1.drew W → (W.cell? ⟨w.heap.size, 0, none⟩ = some (.int .i64 l.x) ∧ W.cell? ⟨w.heap.size, 1, none⟩ = some (.int .i64 l.z) ∧ W.cell? ⟨w.heap.size, 2, none⟩ = some (.slice A l.ks.length c) ∧ W.cell? ⟨w.heap.size + 1, 0, none⟩ = some (.slice A'' r.length c'') ∧ W.cell? ⟨w.heap.size + 1, 1, none⟩ = some (.slice A3 s.length c3)) ∧ Sl e3 3 W (.slice A l.ks.length c) l.ks ∧ Sl e2 2 W (.slice A' b.length c') b ∧ Sl e3 3 W (.slice A'' r.length c'') r ∧ Sl e1 1 W (.slice A3 s.length c3) s ∧ Below w.heap.size w W) := fun W hW => HPE.out _ (K0.out _ _ Q10.out (Below.trans (Below.drew (Below.refl _ _)) hW))
        go_wp2_with fail
        refine wp_region_mono 15 [46, 47, 48, 49, 50, 51, 52, 53, 54, 55, 56, 45, 57, 58, 9] [[], [0], [], [2], [], [4], [5], [], [7], [8], [1, 3, 6, 9], [10], [11], [11], [12]] [fun v _ => v = .agg #[.int .i64 l.x, .int .i64 l.z, .slice A l.ks.length c], fun v w => (∃ q, v = .agg #[.int .i64 l.x, .int .i64 l.z, q] ∧ Sl e3 3 w q l.ks), fun v _ => v = .slice A' b.length c', fun v w => Sl e2 2 w v b, fun v _ => v = .pointer (some ⟨w.heap.size + 1, 0, none⟩), fun v _ => v = .slice A'' r.length c'', fun v w => Sl e3 3 w v r, fun v _ => v = .pointer (some ⟨w.heap.size + 1, 1, none⟩), fun v _ => v = .slice A3 s.length c3, fun v w => Sl e1 1 w v s, fun v _ => v = .tuple #[.int .i64 0, .int .i64 d], fun v _ => v = .tuple #[.int .i64 0, .int .i64 d], fun v _ => v = .int .i64 0, fun v _ => v = .int .i64 d, fun v _ => v = .int .i64 0] (by kernel_rfl) (by kernel_rfl) ⟨st_eq _, (fun _ _ _ ⟨q, e, h⟩ hb => ⟨q, e, h.below hb⟩), st_eq _, st_sl _ _ _, st_eq _, st_eq _, st_sl _ _ _, st_eq _, st_eq _, st_sl _ _ _, st_eq _, st_eq _, st_eq _, st_eq _, st_eq _, trivial⟩ ?_ ?_
        · simp only [List.take_succ_cons, List.take_zero, steps, and_true]
          refine ⟨?_, ?_, ?_, ?_, ?_, ?_, ?_, ?_, ?_, ?_, ?_, ?_, ?_, ?_, ?_⟩
          · intro x W hB _; simp only [putX, setX, List.foldl_cons, List.foldl_nil]; obtain ⟨⟨c0, c1, c2, _⟩, _⟩ := HX6.out W hB; refine ⟨?_⟩; go_simp; exact ⟨rfl, Below.refl _ _⟩
          · intro x W hB hN; simp only [needs, sAt, dAt] at hN; simp only [putX, setX, List.foldl_cons, List.foldl_nil]; refine ⟨?_⟩; go_simp; refine (CopyLine_any _ l _ (HX6.out W hB).2.1 (by omega)).mono ?_; rintro e w' ⟨q, rfl, o, b1⟩; exact ⟨_, rfl, ⟨q, rfl, o⟩, b1⟩
          · intro x W hB _; simp only [putX, setX, List.foldl_cons, List.foldl_nil]; refine ⟨?_⟩; go_simp; exact ⟨rfl, Below.refl _ _⟩
          · intro x W hB hN; simp only [needs, sAt, dAt] at hN; simp only [putX, setX, List.foldl_cons, List.foldl_nil]; refine ⟨?_⟩; go_simp; refine (CopyRanges_any _ b _ (HX6.out W hB).2.2.1 (by omega)).mono ?_; rintro e w' ⟨q, rfl, o, b1⟩; exact ⟨_, rfl, o.sl e2_len, b1⟩
          · intro x W hB _; simp only [putX, setX, List.foldl_cons, List.foldl_nil]; refine ⟨?_⟩; go_simp; exact ⟨rfl, Below.refl _ _⟩
          · intro x W hB hN; simp only [needs, sAt, dAt] at hN; simp only [putX, setX, List.foldl_cons, List.foldl_nil]; obtain ⟨⟨_, _, _, c0, _⟩, _⟩ := HX6.out W hB; refine ⟨?_⟩; go_simp; exact ⟨rfl, Below.refl _ _⟩
          · intro x W hB hN; simp only [needs, sAt, dAt] at hN; simp only [putX, setX, List.foldl_cons, List.foldl_nil]; refine ⟨?_⟩; go_simp; refine (CopyReadings_any _ r _ (HX6.out W hB).2.2.2.1 (by omega)).mono ?_; rintro e w' ⟨q, rfl, o, b1⟩; exact ⟨_, rfl, o.sl e3_len, b1⟩
          · intro x W hB _; simp only [putX, setX, List.foldl_cons, List.foldl_nil]; refine ⟨?_⟩; go_simp; exact ⟨rfl, Below.refl _ _⟩
          · intro x W hB hN; simp only [needs, sAt, dAt] at hN; simp only [putX, setX, List.foldl_cons, List.foldl_nil]; obtain ⟨⟨_, _, _, _, c0⟩, _⟩ := HX6.out W hB; refine ⟨?_⟩; go_simp; exact ⟨rfl, Below.refl _ _⟩
          · intro x W hB hN; simp only [needs, sAt, dAt] at hN; simp only [putX, setX, List.foldl_cons, List.foldl_nil]; refine ⟨?_⟩; go_simp; refine (CopyInts_any _ s _ (HX6.out W hB).2.2.2.2.1 (by omega)).mono ?_; rintro e w' ⟨q, rfl, o, b1⟩; exact ⟨_, rfl, o.sl e1_len, b1⟩
          · intro x W hB hN; simp only [needs, sAt, dAt] at hN; simp only [putX, setX, List.foldl_cons, List.foldl_nil]; obtain ⟨⟨q9, e47, h47⟩, h49, h52, h55, _⟩ := hN; refine ⟨?_⟩; go_simp; refine (HCC.out _ _ _ _ _ h47 h49 h52 h55).mono ?_; rintro e w' ⟨rfl, b1⟩; exact ⟨_, rfl, rfl, b1⟩
          · intro x W hB hN; simp only [needs, sAt, dAt] at hN; simp only [putX, setX, List.foldl_cons, List.foldl_nil]; refine ⟨?_⟩; go_simp; exact ⟨rfl, Below.refl _ _⟩
          · intro x W hB hN; simp only [needs, sAt, dAt] at hN; simp only [putX, setX, List.foldl_cons, List.foldl_nil]; refine ⟨?_⟩; go_simp; exact ⟨rfl, Below.refl _ _⟩
          · intro x W hB hN; simp only [needs, sAt, dAt] at hN; simp only [putX, setX, List.foldl_cons, List.foldl_nil]; refine ⟨?_⟩; go_simp; exact ⟨rfl, Below.refl _ _⟩
          · intro x W hB hN; simp only [needs, sAt, dAt] at hN; simp only [putX, setX, List.foldl_cons, List.foldl_nil]; refine ⟨?_⟩; go_simp; exact ⟨rfl, Below.refl _ _⟩
        · intro x2 W2 hB hA
          simp only [allSp] at hA
          have s1 := hA.2.2.2.2.2.2.2.2.2.2.2.2.2.2.1
          have s2 := hA.2.2.2.2.2.2.2.2.2.2.2.2.2.1
          have Q11 := Lib.hid (K0.out _ _ Q10.out (Below.trans (Below.drew (Below.refl _ _)) hB))
          clear hA hB HX6 g0 g1 g2 g3 g4
          obtain ⟨g0, g1, g2, g3, g4⟩ := (HPE.out _ Q11.out).1
          simp only [putX, setX, List.foldl_cons, List.foldl_nil, List.drop_succ_cons, List.drop_zero, s1, s2, List.setIfInBounds_toArray, List.set_cons_succ, List.set_cons_zero]
          clear s1 s2
          go_wp2_with (first
            | (go_at_call 17; refine (HLE.out _ _ (HPE.out _ Q11.out).2.1).mono ?_; rintro e w12 ⟨rfl, b12⟩; have Q12 := Lib.hid (K0.out _ _ Q11.out b12); clear b12 g0 g1 g2 g3 g4; obtain ⟨g0, g1, g2, g3, g4⟩ := (HPE.out _ Q12.out).1)
            | (go_at_call 18; refine (HBE.out _ _ _ (HPE.out _ Q12.out).2.1 (HPE.out _ Q12.out).2.2.1).mono ?_; rintro e w13 ⟨rfl, b13⟩; have Q13 := Lib.hid (K0.out _ _ Q12.out b13); clear b13 g0 g1 g2 g3 g4; obtain ⟨g0, g1, g2, g3, g4⟩ := (HPE.out _ Q13.out).1)
            | (go_at_call 19; refine (HRE.out _ _ _ (HPE.out _ Q13.out).2.1 (HPE.out _ Q13.out).2.2.2.1).mono ?_; rintro e w14 ⟨rfl, b14⟩; have Q14 := Lib.hid (K0.out _ _ Q13.out b14); clear b14 g0 g1 g2 g3 g4; obtain ⟨g0, g1, g2, g3, g4⟩ := (HPE.out _ Q14.out).1))
          go_ret
          exact ⟨rfl, (HPE.out _ Q14.out).2.2.2.2.2⟩
    · have e4 : (boxErr1 l b).2 = readingsErr l b r := by
        have h6 : boxErr l b = (boxErr1 l b).2 := boxErr_box h4
        unfold readingsErr; rw [if_neg (by rw [h6]; exact h5), h6]
      rw [h4] at HLE
      rw [e4] at HBE
      clear h4 h5 e4 hne
      generalize readingsErr l b r = d at *
      go_enter Try.func3, Try.ntmps3
      go_wp2_with (first
        | (go_at_call 9; refine (awakeB _).mono ?_; rintro e w1 ⟨rfl, b1⟩; have HXP : ∃ P : World → Prop, Keeps P ∧ P w1 ∧ ∀ W, P W → (W.cell? ⟨w.heap.size, 0, none⟩ = some (.int .i64 l.x) ∧ W.cell? ⟨w.heap.size, 1, none⟩ = some (.int .i64 l.z) ∧ W.cell? ⟨w.heap.size, 2, none⟩ = some (.slice A l.ks.length c) ∧ W.cell? ⟨w.heap.size + 1, 0, none⟩ = some (.slice A'' r.length c'') ∧ W.cell? ⟨w.heap.size + 1, 1, none⟩ = some (.slice A3 s.length c3)) ∧ Sl e3 3 W (.slice A l.ks.length c) l.ks ∧ Sl e2 2 W (.slice A' b.length c') b ∧ Sl e3 3 W (.slice A'' r.length c'') r ∧ Sl e1 1 W (.slice A3 s.length c3) s ∧ Below w.heap.size w W := ⟨_, ((keeps_cell _ _).and ((keeps_cell _ _).and ((keeps_cell _ _).and ((keeps_cell _ _).and (keeps_cell _ _))))).and ((keeps_sl _ _ _ _).and ((keeps_sl _ _ _ _).and ((keeps_sl _ _ _ _).and ((keeps_sl _ _ _ _).and (keeps_below _))))), rd_hx HS.out HU.out HT.out HY.out b1, fun _ h => h⟩; obtain ⟨P, KP, hP, HPE⟩ := HXP; have K0 := Lib.hid KP; have HPE := Lib.hid HPE; have Q1 := Lib.hid hP; clear b1 KP hP; obtain ⟨g0, g1, g2, g3, g4⟩ := (HPE.out _ Q1.out).1)
        | (go_at_call 10; refine (few_any _ l _ _ (HPE.out _ Q1.out).2.1).mono ?_; rintro e w2 ⟨rfl, b2⟩; have Q2 := Lib.hid (K0.out _ _ Q1.out b2); clear b2 g0 g1 g2 g3 g4; obtain ⟨g0, g1, g2, g3, g4⟩ := (HPE.out _ Q2.out).1))
      have HX5 : Hid (∀ W, Below w2.drew.heap.size w2.drew W → (W.cell? ⟨w.heap.size, 0, none⟩ = some (.int .i64 l.x) ∧ W.cell? ⟨w.heap.size, 1, none⟩ = some (.int .i64 l.z) ∧ W.cell? ⟨w.heap.size, 2, none⟩ = some (.slice A l.ks.length c) ∧ W.cell? ⟨w.heap.size + 1, 0, none⟩ = some (.slice A'' r.length c'') ∧ W.cell? ⟨w.heap.size + 1, 1, none⟩ = some (.slice A3 s.length c3)) ∧ Sl e3 3 W (.slice A l.ks.length c) l.ks ∧ Sl e2 2 W (.slice A' b.length c') b ∧ Sl e3 3 W (.slice A'' r.length c'') r ∧ Sl e1 1 W (.slice A3 s.length c3) s ∧ Below w.heap.size w W) := fun W hW => HPE.out _ (K0.out _ _ Q2.out (Below.trans (Below.drew (Below.refl _ _)) hW))
      refine wp_region_mono 12 [35, 36, 37, 38, 39, 40, 41, 42, 34, 43, 44, 7] [[], [0], [], [2], [], [4], [5], [1, 3, 6], [7], [8], [8], [9]] [fun v _ => v = .agg #[.int .i64 l.x, .int .i64 l.z, .slice A l.ks.length c], fun v w => (∃ q, v = .agg #[.int .i64 l.x, .int .i64 l.z, q] ∧ Sl e3 3 w q l.ks), fun v _ => v = .slice A' b.length c', fun v w => Sl e2 2 w v b, fun v _ => v = .pointer (some ⟨w.heap.size + 1, 0, none⟩), fun v _ => v = .slice A'' r.length c'', fun v w => Sl e3 3 w v r, fun v _ => v = .tuple #[.slice none 0 0, .int .i64 d], fun v _ => v = .tuple #[.slice none 0 0, .int .i64 d], fun v _ => v = .slice none 0 0, fun v _ => v = .int .i64 d, fun v _ => v = .slice none 0 0] (by kernel_rfl) (by kernel_rfl) ⟨st_eq _, (fun _ _ _ ⟨q, e, h⟩ hb => ⟨q, e, h.below hb⟩), st_eq _, st_sl _ _ _, st_eq _, st_eq _, st_sl _ _ _, st_eq _, st_eq _, st_eq _, st_eq _, st_eq _, trivial⟩ ?_ ?_
      · simp only [List.take_succ_cons, List.take_zero, steps, and_true]
        refine ⟨?_, ?_, ?_, ?_, ?_, ?_, ?_, ?_, ?_, ?_, ?_, ?_⟩
        · intro x W hB _; simp only [putX, setX, List.foldl_cons, List.foldl_nil]; obtain ⟨⟨c0, c1, c2, _⟩, _⟩ := HX5.out W hB; refine ⟨?_⟩; go_simp; exact ⟨rfl, Below.refl _ _⟩
        · intro x W hB hN; simp only [needs, sAt, dAt] at hN; simp only [putX, setX, List.foldl_cons, List.foldl_nil]; refine ⟨?_⟩; go_simp; refine (CopyLine_any _ l _ (HX5.out W hB).2.1 (by omega)).mono ?_; rintro e w' ⟨q, rfl, o, b1⟩; exact ⟨_, rfl, ⟨q, rfl, o⟩, b1⟩
        · intro x W hB _; simp only [putX, setX, List.foldl_cons, List.foldl_nil]; refine ⟨?_⟩; go_simp; exact ⟨rfl, Below.refl _ _⟩
        · intro x W hB hN; simp only [needs, sAt, dAt] at hN; simp only [putX, setX, List.foldl_cons, List.foldl_nil]; refine ⟨?_⟩; go_simp; refine (CopyRanges_any _ b _ (HX5.out W hB).2.2.1 (by omega)).mono ?_; rintro e w' ⟨q, rfl, o, b1⟩; exact ⟨_, rfl, o.sl e2_len, b1⟩
        · intro x W hB _; simp only [putX, setX, List.foldl_cons, List.foldl_nil]; refine ⟨?_⟩; go_simp; exact ⟨rfl, Below.refl _ _⟩
        · intro x W hB hN; simp only [needs, sAt, dAt] at hN; simp only [putX, setX, List.foldl_cons, List.foldl_nil]; obtain ⟨⟨_, _, _, c0, _⟩, _⟩ := HX5.out W hB; refine ⟨?_⟩; go_simp; exact ⟨rfl, Below.refl _ _⟩
        · intro x W hB hN; simp only [needs, sAt, dAt] at hN; simp only [putX, setX, List.foldl_cons, List.foldl_nil]; refine ⟨?_⟩; go_simp; refine (CopyReadings_any _ r _ (HX5.out W hB).2.2.2.1 (by omega)).mono ?_; rintro e w' ⟨q, rfl, o, b1⟩; exact ⟨_, rfl, o.sl e3_len, b1⟩
        · intro x W hB hN; simp only [needs, sAt, dAt] at hN; simp only [putX, setX, List.foldl_cons, List.foldl_nil]; obtain ⟨⟨q9, e36, h36⟩, h38, h41, _⟩ := hN; refine ⟨?_⟩; go_simp; refine (HCO.out _ _ _ _ h36 h38 h41).mono ?_; rintro e w' ⟨rfl, b1⟩; exact ⟨_, rfl, rfl, b1⟩
        · intro x W hB hN; simp only [needs, sAt, dAt] at hN; simp only [putX, setX, List.foldl_cons, List.foldl_nil]; refine ⟨?_⟩; go_simp; exact ⟨rfl, Below.refl _ _⟩
        · intro x W hB hN; simp only [needs, sAt, dAt] at hN; simp only [putX, setX, List.foldl_cons, List.foldl_nil]; refine ⟨?_⟩; go_simp; exact ⟨rfl, Below.refl _ _⟩
        · intro x W hB hN; simp only [needs, sAt, dAt] at hN; simp only [putX, setX, List.foldl_cons, List.foldl_nil]; refine ⟨?_⟩; go_simp; exact ⟨rfl, Below.refl _ _⟩
        · intro x W hB hN; simp only [needs, sAt, dAt] at hN; simp only [putX, setX, List.foldl_cons, List.foldl_nil]; refine ⟨?_⟩; go_simp; exact ⟨rfl, Below.refl _ _⟩
      · intro x1 W1 hB hA
        simp only [allSp] at hA
        have s1 := hA.2.2.2.2.2.2.2.2.2.2.2.1
        have s2 := hA.2.2.2.2.2.2.2.2.2.2.1
        have Q10 := Lib.hid (K0.out _ _ Q2.out (Below.trans (Below.drew (Below.refl _ _)) hB))
        clear hA hB HX5 g0 g1 g2 g3 g4
        obtain ⟨g0, g1, g2, g3, g4⟩ := (HPE.out _ Q10.out).1
        simp only [putX, setX, List.foldl_cons, List.foldl_nil, List.drop_succ_cons, List.drop_zero, s1, s2, List.setIfInBounds_toArray, List.set_cons_succ, List.set_cons_zero]
        clear s1 s2
        have HX6 : Hid (∀ W, Below W1.drew.heap.size W1.drew W → (W.cell? ⟨w.heap.size, 0, none⟩ = some (.int .i64 l.x) ∧ W.cell? ⟨w.heap.size, 1, none⟩ = some (.int .i64 l.z) ∧ W.cell? ⟨w.heap.size, 2, none⟩ = some (.slice A l.ks.length c) ∧ W.cell? ⟨w.heap.size + 1, 0, none⟩ = some (.slice A'' r.length c'') ∧ W.cell? ⟨w.heap.size + 1, 1, none⟩ = some (.slice A3 s.length c3)) ∧ Sl e3 3 W (.slice A l.ks.length c) l.ks ∧ Sl e2 2 W (.slice A' b.length c') b ∧ Sl e3 3 W (.slice A'' r.length c'') r ∧ Sl e1 1 W (.slice A3 s.length c3) s ∧ Below w.heap.size w W) := fun W hW => HPE.out _ (K0.out _ _ Q10.out (Below.trans (Below.drew (Below.refl _ _)) hW))
        go_wp2_with fail
        refine wp_region_mono 15 [46, 47, 48, 49, 50, 51, 52, 53, 54, 55, 56, 45, 57, 58, 9] [[], [0], [], [2], [], [4], [5], [], [7], [8], [1, 3, 6, 9], [10], [11], [11], [12]] [fun v _ => v = .agg #[.int .i64 l.x, .int .i64 l.z, .slice A l.ks.length c], fun v w => (∃ q, v = .agg #[.int .i64 l.x, .int .i64 l.z, q] ∧ Sl e3 3 w q l.ks), fun v _ => v = .slice A' b.length c', fun v w => Sl e2 2 w v b, fun v _ => v = .pointer (some ⟨w.heap.size + 1, 0, none⟩), fun v _ => v = .slice A'' r.length c'', fun v w => Sl e3 3 w v r, fun v _ => v = .pointer (some ⟨w.heap.size + 1, 1, none⟩), fun v _ => v = .slice A3 s.length c3, fun v w => Sl e1 1 w v s, fun v _ => v = .tuple #[.int .i64 0, .int .i64 d], fun v _ => v = .tuple #[.int .i64 0, .int .i64 d], fun v _ => v = .int .i64 0, fun v _ => v = .int .i64 d, fun v _ => v = .int .i64 0] (by kernel_rfl) (by kernel_rfl) ⟨st_eq _, (fun _ _ _ ⟨q, e, h⟩ hb => ⟨q, e, h.below hb⟩), st_eq _, st_sl _ _ _, st_eq _, st_eq _, st_sl _ _ _, st_eq _, st_eq _, st_sl _ _ _, st_eq _, st_eq _, st_eq _, st_eq _, st_eq _, trivial⟩ ?_ ?_
        · simp only [List.take_succ_cons, List.take_zero, steps, and_true]
          refine ⟨?_, ?_, ?_, ?_, ?_, ?_, ?_, ?_, ?_, ?_, ?_, ?_, ?_, ?_, ?_⟩
          · intro x W hB _; simp only [putX, setX, List.foldl_cons, List.foldl_nil]; obtain ⟨⟨c0, c1, c2, _⟩, _⟩ := HX6.out W hB; refine ⟨?_⟩; go_simp; exact ⟨rfl, Below.refl _ _⟩
          · intro x W hB hN; simp only [needs, sAt, dAt] at hN; simp only [putX, setX, List.foldl_cons, List.foldl_nil]; refine ⟨?_⟩; go_simp; refine (CopyLine_any _ l _ (HX6.out W hB).2.1 (by omega)).mono ?_; rintro e w' ⟨q, rfl, o, b1⟩; exact ⟨_, rfl, ⟨q, rfl, o⟩, b1⟩
          · intro x W hB _; simp only [putX, setX, List.foldl_cons, List.foldl_nil]; refine ⟨?_⟩; go_simp; exact ⟨rfl, Below.refl _ _⟩
          · intro x W hB hN; simp only [needs, sAt, dAt] at hN; simp only [putX, setX, List.foldl_cons, List.foldl_nil]; refine ⟨?_⟩; go_simp; refine (CopyRanges_any _ b _ (HX6.out W hB).2.2.1 (by omega)).mono ?_; rintro e w' ⟨q, rfl, o, b1⟩; exact ⟨_, rfl, o.sl e2_len, b1⟩
          · intro x W hB _; simp only [putX, setX, List.foldl_cons, List.foldl_nil]; refine ⟨?_⟩; go_simp; exact ⟨rfl, Below.refl _ _⟩
          · intro x W hB hN; simp only [needs, sAt, dAt] at hN; simp only [putX, setX, List.foldl_cons, List.foldl_nil]; obtain ⟨⟨_, _, _, c0, _⟩, _⟩ := HX6.out W hB; refine ⟨?_⟩; go_simp; exact ⟨rfl, Below.refl _ _⟩
          · intro x W hB hN; simp only [needs, sAt, dAt] at hN; simp only [putX, setX, List.foldl_cons, List.foldl_nil]; refine ⟨?_⟩; go_simp; refine (CopyReadings_any _ r _ (HX6.out W hB).2.2.2.1 (by omega)).mono ?_; rintro e w' ⟨q, rfl, o, b1⟩; exact ⟨_, rfl, o.sl e3_len, b1⟩
          · intro x W hB _; simp only [putX, setX, List.foldl_cons, List.foldl_nil]; refine ⟨?_⟩; go_simp; exact ⟨rfl, Below.refl _ _⟩
          · intro x W hB hN; simp only [needs, sAt, dAt] at hN; simp only [putX, setX, List.foldl_cons, List.foldl_nil]; obtain ⟨⟨_, _, _, _, c0⟩, _⟩ := HX6.out W hB; refine ⟨?_⟩; go_simp; exact ⟨rfl, Below.refl _ _⟩
          · intro x W hB hN; simp only [needs, sAt, dAt] at hN; simp only [putX, setX, List.foldl_cons, List.foldl_nil]; refine ⟨?_⟩; go_simp; refine (CopyInts_any _ s _ (HX6.out W hB).2.2.2.2.1 (by omega)).mono ?_; rintro e w' ⟨q, rfl, o, b1⟩; exact ⟨_, rfl, o.sl e1_len, b1⟩
          · intro x W hB hN; simp only [needs, sAt, dAt] at hN; simp only [putX, setX, List.foldl_cons, List.foldl_nil]; obtain ⟨⟨q9, e47, h47⟩, h49, h52, h55, _⟩ := hN; refine ⟨?_⟩; go_simp; refine (HCC.out _ _ _ _ _ h47 h49 h52 h55).mono ?_; rintro e w' ⟨rfl, b1⟩; exact ⟨_, rfl, rfl, b1⟩
          · intro x W hB hN; simp only [needs, sAt, dAt] at hN; simp only [putX, setX, List.foldl_cons, List.foldl_nil]; refine ⟨?_⟩; go_simp; exact ⟨rfl, Below.refl _ _⟩
          · intro x W hB hN; simp only [needs, sAt, dAt] at hN; simp only [putX, setX, List.foldl_cons, List.foldl_nil]; refine ⟨?_⟩; go_simp; exact ⟨rfl, Below.refl _ _⟩
          · intro x W hB hN; simp only [needs, sAt, dAt] at hN; simp only [putX, setX, List.foldl_cons, List.foldl_nil]; refine ⟨?_⟩; go_simp; exact ⟨rfl, Below.refl _ _⟩
          · intro x W hB hN; simp only [needs, sAt, dAt] at hN; simp only [putX, setX, List.foldl_cons, List.foldl_nil]; refine ⟨?_⟩; go_simp; exact ⟨rfl, Below.refl _ _⟩
        · intro x2 W2 hB hA
          simp only [allSp] at hA
          have s1 := hA.2.2.2.2.2.2.2.2.2.2.2.2.2.2.1
          have s2 := hA.2.2.2.2.2.2.2.2.2.2.2.2.2.1
          have Q11 := Lib.hid (K0.out _ _ Q10.out (Below.trans (Below.drew (Below.refl _ _)) hB))
          clear hA hB HX6 g0 g1 g2 g3 g4
          obtain ⟨g0, g1, g2, g3, g4⟩ := (HPE.out _ Q11.out).1
          simp only [putX, setX, List.foldl_cons, List.foldl_nil, List.drop_succ_cons, List.drop_zero, s1, s2, List.setIfInBounds_toArray, List.set_cons_succ, List.set_cons_zero]
          clear s1 s2
          go_wp2_with (first
            | (go_at_call 17; refine (HLE.out _ _ (HPE.out _ Q11.out).2.1).mono ?_; rintro e w12 ⟨rfl, b12⟩; have Q12 := Lib.hid (K0.out _ _ Q11.out b12); clear b12 g0 g1 g2 g3 g4; obtain ⟨g0, g1, g2, g3, g4⟩ := (HPE.out _ Q12.out).1)
            | (go_at_call 18; refine (HBE.out _ _ _ (HPE.out _ Q12.out).2.1 (HPE.out _ Q12.out).2.2.1).mono ?_; rintro e w13 ⟨rfl, b13⟩; have Q13 := Lib.hid (K0.out _ _ Q12.out b13); clear b13 g0 g1 g2 g3 g4; obtain ⟨g0, g1, g2, g3, g4⟩ := (HPE.out _ Q13.out).1))
          go_ret
          exact ⟨rfl, (HPE.out _ Q13.out).2.2.2.2.2⟩
  · have e4 : lineErr l = readingsErr l b r := by
      have h6 : boxErr l b = lineErr l := boxErr_line h4
      unfold readingsErr; rw [if_neg (by rw [h6]; exact h4), h6]
    rw [e4] at HLE
    clear h4 e4 hne
    generalize readingsErr l b r = d at *
    go_enter Try.func3, Try.ntmps3
    go_wp2_with (first
      | (go_at_call 9; refine (awakeB _).mono ?_; rintro e w1 ⟨rfl, b1⟩; have HXP : ∃ P : World → Prop, Keeps P ∧ P w1 ∧ ∀ W, P W → (W.cell? ⟨w.heap.size, 0, none⟩ = some (.int .i64 l.x) ∧ W.cell? ⟨w.heap.size, 1, none⟩ = some (.int .i64 l.z) ∧ W.cell? ⟨w.heap.size, 2, none⟩ = some (.slice A l.ks.length c) ∧ W.cell? ⟨w.heap.size + 1, 0, none⟩ = some (.slice A'' r.length c'') ∧ W.cell? ⟨w.heap.size + 1, 1, none⟩ = some (.slice A3 s.length c3)) ∧ Sl e3 3 W (.slice A l.ks.length c) l.ks ∧ Sl e2 2 W (.slice A' b.length c') b ∧ Sl e3 3 W (.slice A'' r.length c'') r ∧ Sl e1 1 W (.slice A3 s.length c3) s ∧ Below w.heap.size w W := ⟨_, ((keeps_cell _ _).and ((keeps_cell _ _).and ((keeps_cell _ _).and ((keeps_cell _ _).and (keeps_cell _ _))))).and ((keeps_sl _ _ _ _).and ((keeps_sl _ _ _ _).and ((keeps_sl _ _ _ _).and ((keeps_sl _ _ _ _).and (keeps_below _))))), rd_hx HS.out HU.out HT.out HY.out b1, fun _ h => h⟩; obtain ⟨P, KP, hP, HPE⟩ := HXP; have K0 := Lib.hid KP; have HPE := Lib.hid HPE; have Q1 := Lib.hid hP; clear b1 KP hP; obtain ⟨g0, g1, g2, g3, g4⟩ := (HPE.out _ Q1.out).1)
      | (go_at_call 10; refine (few_any _ l _ _ (HPE.out _ Q1.out).2.1).mono ?_; rintro e w2 ⟨rfl, b2⟩; have Q2 := Lib.hid (K0.out _ _ Q1.out b2); clear b2 g0 g1 g2 g3 g4; obtain ⟨g0, g1, g2, g3, g4⟩ := (HPE.out _ Q2.out).1))
    have HX5 : Hid (∀ W, Below w2.drew.heap.size w2.drew W → (W.cell? ⟨w.heap.size, 0, none⟩ = some (.int .i64 l.x) ∧ W.cell? ⟨w.heap.size, 1, none⟩ = some (.int .i64 l.z) ∧ W.cell? ⟨w.heap.size, 2, none⟩ = some (.slice A l.ks.length c) ∧ W.cell? ⟨w.heap.size + 1, 0, none⟩ = some (.slice A'' r.length c'') ∧ W.cell? ⟨w.heap.size + 1, 1, none⟩ = some (.slice A3 s.length c3)) ∧ Sl e3 3 W (.slice A l.ks.length c) l.ks ∧ Sl e2 2 W (.slice A' b.length c') b ∧ Sl e3 3 W (.slice A'' r.length c'') r ∧ Sl e1 1 W (.slice A3 s.length c3) s ∧ Below w.heap.size w W) := fun W hW => HPE.out _ (K0.out _ _ Q2.out (Below.trans (Below.drew (Below.refl _ _)) hW))
    refine wp_region_mono 12 [35, 36, 37, 38, 39, 40, 41, 42, 34, 43, 44, 7] [[], [0], [], [2], [], [4], [5], [1, 3, 6], [7], [8], [8], [9]] [fun v _ => v = .agg #[.int .i64 l.x, .int .i64 l.z, .slice A l.ks.length c], fun v w => (∃ q, v = .agg #[.int .i64 l.x, .int .i64 l.z, q] ∧ Sl e3 3 w q l.ks), fun v _ => v = .slice A' b.length c', fun v w => Sl e2 2 w v b, fun v _ => v = .pointer (some ⟨w.heap.size + 1, 0, none⟩), fun v _ => v = .slice A'' r.length c'', fun v w => Sl e3 3 w v r, fun v _ => v = .tuple #[.slice none 0 0, .int .i64 d], fun v _ => v = .tuple #[.slice none 0 0, .int .i64 d], fun v _ => v = .slice none 0 0, fun v _ => v = .int .i64 d, fun v _ => v = .slice none 0 0] (by kernel_rfl) (by kernel_rfl) ⟨st_eq _, (fun _ _ _ ⟨q, e, h⟩ hb => ⟨q, e, h.below hb⟩), st_eq _, st_sl _ _ _, st_eq _, st_eq _, st_sl _ _ _, st_eq _, st_eq _, st_eq _, st_eq _, st_eq _, trivial⟩ ?_ ?_
    · simp only [List.take_succ_cons, List.take_zero, steps, and_true]
      refine ⟨?_, ?_, ?_, ?_, ?_, ?_, ?_, ?_, ?_, ?_, ?_, ?_⟩
      · intro x W hB _; simp only [putX, setX, List.foldl_cons, List.foldl_nil]; obtain ⟨⟨c0, c1, c2, _⟩, _⟩ := HX5.out W hB; refine ⟨?_⟩; go_simp; exact ⟨rfl, Below.refl _ _⟩
      · intro x W hB hN; simp only [needs, sAt, dAt] at hN; simp only [putX, setX, List.foldl_cons, List.foldl_nil]; refine ⟨?_⟩; go_simp; refine (CopyLine_any _ l _ (HX5.out W hB).2.1 (by omega)).mono ?_; rintro e w' ⟨q, rfl, o, b1⟩; exact ⟨_, rfl, ⟨q, rfl, o⟩, b1⟩
      · intro x W hB _; simp only [putX, setX, List.foldl_cons, List.foldl_nil]; refine ⟨?_⟩; go_simp; exact ⟨rfl, Below.refl _ _⟩
      · intro x W hB hN; simp only [needs, sAt, dAt] at hN; simp only [putX, setX, List.foldl_cons, List.foldl_nil]; refine ⟨?_⟩; go_simp; refine (CopyRanges_any _ b _ (HX5.out W hB).2.2.1 (by omega)).mono ?_; rintro e w' ⟨q, rfl, o, b1⟩; exact ⟨_, rfl, o.sl e2_len, b1⟩
      · intro x W hB _; simp only [putX, setX, List.foldl_cons, List.foldl_nil]; refine ⟨?_⟩; go_simp; exact ⟨rfl, Below.refl _ _⟩
      · intro x W hB hN; simp only [needs, sAt, dAt] at hN; simp only [putX, setX, List.foldl_cons, List.foldl_nil]; obtain ⟨⟨_, _, _, c0, _⟩, _⟩ := HX5.out W hB; refine ⟨?_⟩; go_simp; exact ⟨rfl, Below.refl _ _⟩
      · intro x W hB hN; simp only [needs, sAt, dAt] at hN; simp only [putX, setX, List.foldl_cons, List.foldl_nil]; refine ⟨?_⟩; go_simp; refine (CopyReadings_any _ r _ (HX5.out W hB).2.2.2.1 (by omega)).mono ?_; rintro e w' ⟨q, rfl, o, b1⟩; exact ⟨_, rfl, o.sl e3_len, b1⟩
      · intro x W hB hN; simp only [needs, sAt, dAt] at hN; simp only [putX, setX, List.foldl_cons, List.foldl_nil]; obtain ⟨⟨q9, e36, h36⟩, h38, h41, _⟩ := hN; refine ⟨?_⟩; go_simp; refine (HCO.out _ _ _ _ h36 h38 h41).mono ?_; rintro e w' ⟨rfl, b1⟩; exact ⟨_, rfl, rfl, b1⟩
      · intro x W hB hN; simp only [needs, sAt, dAt] at hN; simp only [putX, setX, List.foldl_cons, List.foldl_nil]; refine ⟨?_⟩; go_simp; exact ⟨rfl, Below.refl _ _⟩
      · intro x W hB hN; simp only [needs, sAt, dAt] at hN; simp only [putX, setX, List.foldl_cons, List.foldl_nil]; refine ⟨?_⟩; go_simp; exact ⟨rfl, Below.refl _ _⟩
      · intro x W hB hN; simp only [needs, sAt, dAt] at hN; simp only [putX, setX, List.foldl_cons, List.foldl_nil]; refine ⟨?_⟩; go_simp; exact ⟨rfl, Below.refl _ _⟩
      · intro x W hB hN; simp only [needs, sAt, dAt] at hN; simp only [putX, setX, List.foldl_cons, List.foldl_nil]; refine ⟨?_⟩; go_simp; exact ⟨rfl, Below.refl _ _⟩
    · intro x1 W1 hB hA
      simp only [allSp] at hA
      have s1 := hA.2.2.2.2.2.2.2.2.2.2.2.1
      have s2 := hA.2.2.2.2.2.2.2.2.2.2.1
      have Q10 := Lib.hid (K0.out _ _ Q2.out (Below.trans (Below.drew (Below.refl _ _)) hB))
      clear hA hB HX5 g0 g1 g2 g3 g4
      obtain ⟨g0, g1, g2, g3, g4⟩ := (HPE.out _ Q10.out).1
      simp only [putX, setX, List.foldl_cons, List.foldl_nil, List.drop_succ_cons, List.drop_zero, s1, s2, List.setIfInBounds_toArray, List.set_cons_succ, List.set_cons_zero]
      clear s1 s2
      have HX6 : Hid (∀ W, Below W1.drew.heap.size W1.drew W → (W.cell? ⟨w.heap.size, 0, none⟩ = some (.int .i64 l.x) ∧ W.cell? ⟨w.heap.size, 1, none⟩ = some (.int .i64 l.z) ∧ W.cell? ⟨w.heap.size, 2, none⟩ = some (.slice A l.ks.length c) ∧ W.cell? ⟨w.heap.size + 1, 0, none⟩ = some (.slice A'' r.length c'') ∧ W.cell? ⟨w.heap.size + 1, 1, none⟩ = some (.slice A3 s.length c3)) ∧ Sl e3 3 W (.slice A l.ks.length c) l.ks ∧ Sl e2 2 W (.slice A' b.length c') b ∧ Sl e3 3 W (.slice A'' r.length c'') r ∧ Sl e1 1 W (.slice A3 s.length c3) s ∧ Below w.heap.size w W) := fun W hW => HPE.out _ (K0.out _ _ Q10.out (Below.trans (Below.drew (Below.refl _ _)) hW))
      go_wp2_with fail
      refine wp_region_mono 15 [46, 47, 48, 49, 50, 51, 52, 53, 54, 55, 56, 45, 57, 58, 9] [[], [0], [], [2], [], [4], [5], [], [7], [8], [1, 3, 6, 9], [10], [11], [11], [12]] [fun v _ => v = .agg #[.int .i64 l.x, .int .i64 l.z, .slice A l.ks.length c], fun v w => (∃ q, v = .agg #[.int .i64 l.x, .int .i64 l.z, q] ∧ Sl e3 3 w q l.ks), fun v _ => v = .slice A' b.length c', fun v w => Sl e2 2 w v b, fun v _ => v = .pointer (some ⟨w.heap.size + 1, 0, none⟩), fun v _ => v = .slice A'' r.length c'', fun v w => Sl e3 3 w v r, fun v _ => v = .pointer (some ⟨w.heap.size + 1, 1, none⟩), fun v _ => v = .slice A3 s.length c3, fun v w => Sl e1 1 w v s, fun v _ => v = .tuple #[.int .i64 0, .int .i64 d], fun v _ => v = .tuple #[.int .i64 0, .int .i64 d], fun v _ => v = .int .i64 0, fun v _ => v = .int .i64 d, fun v _ => v = .int .i64 0] (by kernel_rfl) (by kernel_rfl) ⟨st_eq _, (fun _ _ _ ⟨q, e, h⟩ hb => ⟨q, e, h.below hb⟩), st_eq _, st_sl _ _ _, st_eq _, st_eq _, st_sl _ _ _, st_eq _, st_eq _, st_sl _ _ _, st_eq _, st_eq _, st_eq _, st_eq _, st_eq _, trivial⟩ ?_ ?_
      · simp only [List.take_succ_cons, List.take_zero, steps, and_true]
        refine ⟨?_, ?_, ?_, ?_, ?_, ?_, ?_, ?_, ?_, ?_, ?_, ?_, ?_, ?_, ?_⟩
        · intro x W hB _; simp only [putX, setX, List.foldl_cons, List.foldl_nil]; obtain ⟨⟨c0, c1, c2, _⟩, _⟩ := HX6.out W hB; refine ⟨?_⟩; go_simp; exact ⟨rfl, Below.refl _ _⟩
        · intro x W hB hN; simp only [needs, sAt, dAt] at hN; simp only [putX, setX, List.foldl_cons, List.foldl_nil]; refine ⟨?_⟩; go_simp; refine (CopyLine_any _ l _ (HX6.out W hB).2.1 (by omega)).mono ?_; rintro e w' ⟨q, rfl, o, b1⟩; exact ⟨_, rfl, ⟨q, rfl, o⟩, b1⟩
        · intro x W hB _; simp only [putX, setX, List.foldl_cons, List.foldl_nil]; refine ⟨?_⟩; go_simp; exact ⟨rfl, Below.refl _ _⟩
        · intro x W hB hN; simp only [needs, sAt, dAt] at hN; simp only [putX, setX, List.foldl_cons, List.foldl_nil]; refine ⟨?_⟩; go_simp; refine (CopyRanges_any _ b _ (HX6.out W hB).2.2.1 (by omega)).mono ?_; rintro e w' ⟨q, rfl, o, b1⟩; exact ⟨_, rfl, o.sl e2_len, b1⟩
        · intro x W hB _; simp only [putX, setX, List.foldl_cons, List.foldl_nil]; refine ⟨?_⟩; go_simp; exact ⟨rfl, Below.refl _ _⟩
        · intro x W hB hN; simp only [needs, sAt, dAt] at hN; simp only [putX, setX, List.foldl_cons, List.foldl_nil]; obtain ⟨⟨_, _, _, c0, _⟩, _⟩ := HX6.out W hB; refine ⟨?_⟩; go_simp; exact ⟨rfl, Below.refl _ _⟩
        · intro x W hB hN; simp only [needs, sAt, dAt] at hN; simp only [putX, setX, List.foldl_cons, List.foldl_nil]; refine ⟨?_⟩; go_simp; refine (CopyReadings_any _ r _ (HX6.out W hB).2.2.2.1 (by omega)).mono ?_; rintro e w' ⟨q, rfl, o, b1⟩; exact ⟨_, rfl, o.sl e3_len, b1⟩
        · intro x W hB _; simp only [putX, setX, List.foldl_cons, List.foldl_nil]; refine ⟨?_⟩; go_simp; exact ⟨rfl, Below.refl _ _⟩
        · intro x W hB hN; simp only [needs, sAt, dAt] at hN; simp only [putX, setX, List.foldl_cons, List.foldl_nil]; obtain ⟨⟨_, _, _, _, c0⟩, _⟩ := HX6.out W hB; refine ⟨?_⟩; go_simp; exact ⟨rfl, Below.refl _ _⟩
        · intro x W hB hN; simp only [needs, sAt, dAt] at hN; simp only [putX, setX, List.foldl_cons, List.foldl_nil]; refine ⟨?_⟩; go_simp; refine (CopyInts_any _ s _ (HX6.out W hB).2.2.2.2.1 (by omega)).mono ?_; rintro e w' ⟨q, rfl, o, b1⟩; exact ⟨_, rfl, o.sl e1_len, b1⟩
        · intro x W hB hN; simp only [needs, sAt, dAt] at hN; simp only [putX, setX, List.foldl_cons, List.foldl_nil]; obtain ⟨⟨q9, e47, h47⟩, h49, h52, h55, _⟩ := hN; refine ⟨?_⟩; go_simp; refine (HCC.out _ _ _ _ _ h47 h49 h52 h55).mono ?_; rintro e w' ⟨rfl, b1⟩; exact ⟨_, rfl, rfl, b1⟩
        · intro x W hB hN; simp only [needs, sAt, dAt] at hN; simp only [putX, setX, List.foldl_cons, List.foldl_nil]; refine ⟨?_⟩; go_simp; exact ⟨rfl, Below.refl _ _⟩
        · intro x W hB hN; simp only [needs, sAt, dAt] at hN; simp only [putX, setX, List.foldl_cons, List.foldl_nil]; refine ⟨?_⟩; go_simp; exact ⟨rfl, Below.refl _ _⟩
        · intro x W hB hN; simp only [needs, sAt, dAt] at hN; simp only [putX, setX, List.foldl_cons, List.foldl_nil]; refine ⟨?_⟩; go_simp; exact ⟨rfl, Below.refl _ _⟩
        · intro x W hB hN; simp only [needs, sAt, dAt] at hN; simp only [putX, setX, List.foldl_cons, List.foldl_nil]; refine ⟨?_⟩; go_simp; exact ⟨rfl, Below.refl _ _⟩
      · intro x2 W2 hB hA
        simp only [allSp] at hA
        have s1 := hA.2.2.2.2.2.2.2.2.2.2.2.2.2.2.1
        have s2 := hA.2.2.2.2.2.2.2.2.2.2.2.2.2.1
        have Q11 := Lib.hid (K0.out _ _ Q10.out (Below.trans (Below.drew (Below.refl _ _)) hB))
        clear hA hB HX6 g0 g1 g2 g3 g4
        obtain ⟨g0, g1, g2, g3, g4⟩ := (HPE.out _ Q11.out).1
        simp only [putX, setX, List.foldl_cons, List.foldl_nil, List.drop_succ_cons, List.drop_zero, s1, s2, List.setIfInBounds_toArray, List.set_cons_succ, List.set_cons_zero]
        clear s1 s2
        go_wp2_with (first
          | (go_at_call 17; refine (HLE.out _ _ (HPE.out _ Q11.out).2.1).mono ?_; rintro e w12 ⟨rfl, b12⟩; have Q12 := Lib.hid (K0.out _ _ Q11.out b12); clear b12 g0 g1 g2 g3 g4; obtain ⟨g0, g1, g2, g3, g4⟩ := (HPE.out _ Q12.out).1))
        go_ret
        exact ⟨rfl, (HPE.out _ Q12.out).2.2.2.2.2⟩
end Go.Proofs.Ytekinmafdhgmpaa

namespace Go.Proofs.Ytekinmafdhgmpaa
open Go.RowKit Go.Shelf
attribute [local go_sem] monoUpon_value monoUpon_skip monoUpon_enter

theorem IsC.code {f : Nat → Int} {g : Nat → Nat → Int} {n : Nat} {s : List Int} {e : Int} (h : IsC f g n s e) : e = 0 ∨ e = 12 ∧ s = [] := by
  rcases h with ⟨_, _, _, _, _, h⟩ | ⟨_, _, _, _, _, _, _, _, h⟩ | ⟨_, _, h1, h2⟩
  · exact .inl h
  · exact .inl h
  · exact .inr ⟨h2, h1⟩
set_option maxRecDepth 100000 in
set_option maxHeartbeats 16000000 in
theorem readings_ok (v u t y : Value) (l : Ln) (b : List (Int × Int)) (r : List Rd) (s : List Int) (w : World) (hs : Sl e3 3 w v l.ks) (hu : Sl e2 2 w u b) (ht : Sl e3 3 w t r) (hy : Sl e1 1 w y s) (hn : l.ks.length ≤ 12) (hc : b.length ≤ 14) (hr : r.length ≤ 14) (hq : s.length ≤ 4) (h0 : readingsErr l b r = 0) :
    Calls Try.prog 3 #[.agg #[.int .i64 l.x, .int .i64 l.z, v], u, .agg #[t, y]] w fun e w' => e = .returned (.bool true) ∧ Below w.heap.size w w' := by
  have HS := Lib.hid hs
  have HU := Lib.hid hu
  have HT := Lib.hid ht
  have HY := Lib.hid hy
  obtain ⟨A, c, rfl, hcap⟩ := hs.form
  obtain ⟨A', c', rfl, hcap'⟩ := hu.form
  obtain ⟨A'', c'', rfl, hcap''⟩ := ht.form
  obtain ⟨A3, c3, rfl, hcap3⟩ := hy.form
  clear hs hu ht hy hcap hcap' hcap'' hcap3
  have f1 := fewB_true hn hc
  have d1 : ¬ (14 : Int) < (r.length : Int) := by omega
  have d1' : decide ((14 : Int) < (r.length : Int)) = false := decide_eq_false d1
  have d2 : ¬ (4 : Int) < (s.length : Int) := by omega
  have d2' : decide ((4 : Int) < (s.length : Int)) = false := decide_eq_false d2
  obtain ⟨hl, hb, hbe, _, _⟩ := readingsErr_ok h0
  have h4 : lineErr l = 0 := (boxErr_ok hbe).1
  have h5 : (boxErr1 l b).2 = 0 := by rw [← boxErr_box h4]; exact hbe
  have h6 : rdsErr l r = 0 := by unfold readingsErr at h0; rwa [if_pos hbe] at h0
  have HLE := Lib.hid (fun v w h1 => LineErr_any v l w h1 (by omega))
  have HBE := Lib.hid (fun v u w h1 h2 => rBoxErr_any v u l b w h1 h2 (by omega))
  have HRE := Lib.hid (fun v t w h1 h2 => rReadingsErr_any v t l r w h1 h2 hl)
  rw [h4] at HLE
  rw [h5] at HBE
  rw [h6] at HRE
  obtain ⟨nn, ff, hcc⟩ : ∃ nn ff, checkC l b r s = (nn, ff) := ⟨_, _, rfl⟩
  have hsr : setRes l b r s = (nn, ff) := by rw [← hcc]; exact (if_pos h0).symm
  have HCC : Hid (∀ q2 q3 q4 q5 W, Sl e3 3 W q2 l.ks → Sl e2 2 W q3 b → Sl e3 3 W q4 r → Sl e1 1 W q5 s → Calls Try.prog 15 #[.agg #[.int .i64 l.x, .int .i64 l.z, q2], q3, q4, q5] W fun e w' => e = .returned (.tuple #[.int .i64 nn, .int .i64 ff]) ∧ Below W.heap.size W w') := fun q2 q3 q4 q5 W k1 k2 k3 k4 => by
    have := CheckC_any q2 q3 q4 q5 l b r s W k1 k2 k3 k4 (by omega) (by omega) (by omega) (by omega)
    rwa [hcc] at this
  have HRS : Hid (∀ q2 q3 q4 q5 W, Sl e3 3 W q2 l.ks → Sl e2 2 W q3 b → Sl e3 3 W q4 r → Sl e1 1 W q5 s → Calls Try.prog 22 #[.agg #[.int .i64 l.x, .int .i64 l.z, q2], q3, q4, q5] W fun e w' => e = .returned (.tuple #[.int .i64 nn, .int .i64 ff]) ∧ Below W.heap.size W w') := fun q2 q3 q4 q5 W k1 k2 k3 k4 => by
    have := rSetErr_any q2 q3 q4 q5 l b r s W k1 k2 k3 k4 h0
    rwa [hsr] at this
  obtain ⟨s9, ec, hC, hs9⟩ := isC_ex (fR l b r) (gR l b r) r.length
  have HCO := Lib.hid (fun q2 q3 q4 W k1 k2 k3 => Contra_any q2 q3 q4 l b r s9 ec W k1 k2 k3 h0 hC)
  have HRC := Lib.hid (fun q2 q3 q4 W k1 k2 k3 => rContra_any q2 q3 q4 l b r s9 ec W k1 k2 k3 h0 hC)
  have HIN : Hid (∀ u v w, Sl e1 1 w u s9 → Sl e1 1 w v s9 → Calls Try.prog 21 #[u, v] w fun e w' => e = .returned (.bool true) ∧ Below w.heap.size w w') := fun u v w h k => by
    have := Ints_any u v s9 s9 w h k (by omega) (by omega)
    rwa [eqL_refl] at this
  have hcode := hC.code
  clear h0 hcc hsr hl hb hbe h4 h5 h6 hC
  rcases hcode with rfl | ⟨rfl, rfl⟩
  · rw [show decide ((0 : Int) = 0) = true from rfl] at HRC
    go_enter Try.func3, Try.ntmps3
    go_wp2_with (first
      | (go_at_call 9; refine (awakeB _).mono ?_; rintro e w1 ⟨rfl, b1⟩; have HXP : ∃ P : World → Prop, Keeps P ∧ P w1 ∧ ∀ W, P W → (W.cell? ⟨w.heap.size, 0, none⟩ = some (.int .i64 l.x) ∧ W.cell? ⟨w.heap.size, 1, none⟩ = some (.int .i64 l.z) ∧ W.cell? ⟨w.heap.size, 2, none⟩ = some (.slice A l.ks.length c) ∧ W.cell? ⟨w.heap.size + 1, 0, none⟩ = some (.slice A'' r.length c'') ∧ W.cell? ⟨w.heap.size + 1, 1, none⟩ = some (.slice A3 s.length c3)) ∧ Sl e3 3 W (.slice A l.ks.length c) l.ks ∧ Sl e2 2 W (.slice A' b.length c') b ∧ Sl e3 3 W (.slice A'' r.length c'') r ∧ Sl e1 1 W (.slice A3 s.length c3) s ∧ Below w.heap.size w W := ⟨_, ((keeps_cell _ _).and ((keeps_cell _ _).and ((keeps_cell _ _).and ((keeps_cell _ _).and (keeps_cell _ _))))).and ((keeps_sl _ _ _ _).and ((keeps_sl _ _ _ _).and ((keeps_sl _ _ _ _).and ((keeps_sl _ _ _ _).and (keeps_below _))))), rd_hx HS.out HU.out HT.out HY.out b1, fun _ h => h⟩; obtain ⟨P, KP, hP, HPE⟩ := HXP; have K0 := Lib.hid KP; have HPE := Lib.hid HPE; have Q1 := Lib.hid hP; clear b1 KP hP; obtain ⟨g0, g1, g2, g3, g4⟩ := (HPE.out _ Q1.out).1)
      | (go_at_call 10; refine (few_any _ l _ _ (HPE.out _ Q1.out).2.1).mono ?_; rintro e w2 ⟨rfl, b2⟩; have Q2 := Lib.hid (K0.out _ _ Q1.out b2); clear b2 g0 g1 g2 g3 g4; obtain ⟨g0, g1, g2, g3, g4⟩ := (HPE.out _ Q2.out).1))
    have HX5 : Hid (∀ W, Below w2.drew.heap.size w2.drew W → (W.cell? ⟨w.heap.size, 0, none⟩ = some (.int .i64 l.x) ∧ W.cell? ⟨w.heap.size, 1, none⟩ = some (.int .i64 l.z) ∧ W.cell? ⟨w.heap.size, 2, none⟩ = some (.slice A l.ks.length c) ∧ W.cell? ⟨w.heap.size + 1, 0, none⟩ = some (.slice A'' r.length c'') ∧ W.cell? ⟨w.heap.size + 1, 1, none⟩ = some (.slice A3 s.length c3)) ∧ Sl e3 3 W (.slice A l.ks.length c) l.ks ∧ Sl e2 2 W (.slice A' b.length c') b ∧ Sl e3 3 W (.slice A'' r.length c'') r ∧ Sl e1 1 W (.slice A3 s.length c3) s ∧ Below w.heap.size w W) := fun W hW => HPE.out _ (K0.out _ _ Q2.out (Below.trans (Below.drew (Below.refl _ _)) hW))
    refine wp_region_mono 12 [35, 36, 37, 38, 39, 40, 41, 42, 34, 43, 44, 7] [[], [0], [], [2], [], [4], [5], [1, 3, 6], [7], [8], [8], [9]] [fun v _ => v = .agg #[.int .i64 l.x, .int .i64 l.z, .slice A l.ks.length c], fun v w => (∃ q, v = .agg #[.int .i64 l.x, .int .i64 l.z, q] ∧ Sl e3 3 w q l.ks), fun v _ => v = .slice A' b.length c', fun v w => Sl e2 2 w v b, fun v _ => v = .pointer (some ⟨w.heap.size + 1, 0, none⟩), fun v _ => v = .slice A'' r.length c'', fun v w => Sl e3 3 w v r, fun v w => (∃ q, v = .tuple #[q, .int .i64 0] ∧ Sl e1 1 w q s9), fun v w => (∃ q, v = .tuple #[q, .int .i64 0] ∧ Sl e1 1 w q s9), fun v w => Sl e1 1 w v s9, fun v _ => v = .int .i64 0, fun v w => Sl e1 1 w v s9] (by kernel_rfl) (by kernel_rfl) ⟨st_eq _, (fun _ _ _ ⟨q, e, h⟩ hb => ⟨q, e, h.below hb⟩), st_eq _, st_sl _ _ _, st_eq _, st_eq _, st_sl _ _ _, (fun _ _ _ ⟨q, e, h⟩ hb => ⟨q, e, h.below hb⟩), (fun _ _ _ ⟨q, e, h⟩ hb => ⟨q, e, h.below hb⟩), st_sl _ _ _, st_eq _, st_sl _ _ _, trivial⟩ ?_ ?_
    · simp only [List.take_succ_cons, List.take_zero, steps, and_true]
      refine ⟨?_, ?_, ?_, ?_, ?_, ?_, ?_, ?_, ?_, ?_, ?_, ?_⟩
      · intro x W hB _; simp only [putX, setX, List.foldl_cons, List.foldl_nil]; obtain ⟨⟨c0, c1, c2, _⟩, _⟩ := HX5.out W hB; refine ⟨?_⟩; go_simp; exact ⟨rfl, Below.refl _ _⟩
      · intro x W hB hN; simp only [needs, sAt, dAt] at hN; simp only [putX, setX, List.foldl_cons, List.foldl_nil]; refine ⟨?_⟩; go_simp; refine (CopyLine_any _ l _ (HX5.out W hB).2.1 (by omega)).mono ?_; rintro e w' ⟨q, rfl, o, b1⟩; exact ⟨_, rfl, ⟨q, rfl, o⟩, b1⟩
      · intro x W hB _; simp only [putX, setX, List.foldl_cons, List.foldl_nil]; refine ⟨?_⟩; go_simp; exact ⟨rfl, Below.refl _ _⟩
      · intro x W hB hN; simp only [needs, sAt, dAt] at hN; simp only [putX, setX, List.foldl_cons, List.foldl_nil]; refine ⟨?_⟩; go_simp; refine (CopyRanges_any _ b _ (HX5.out W hB).2.2.1 (by omega)).mono ?_; rintro e w' ⟨q, rfl, o, b1⟩; exact ⟨_, rfl, o.sl e2_len, b1⟩
      · intro x W hB _; simp only [putX, setX, List.foldl_cons, List.foldl_nil]; refine ⟨?_⟩; go_simp; exact ⟨rfl, Below.refl _ _⟩
      · intro x W hB hN; simp only [needs, sAt, dAt] at hN; simp only [putX, setX, List.foldl_cons, List.foldl_nil]; obtain ⟨⟨_, _, _, c0, _⟩, _⟩ := HX5.out W hB; refine ⟨?_⟩; go_simp; exact ⟨rfl, Below.refl _ _⟩
      · intro x W hB hN; simp only [needs, sAt, dAt] at hN; simp only [putX, setX, List.foldl_cons, List.foldl_nil]; refine ⟨?_⟩; go_simp; refine (CopyReadings_any _ r _ (HX5.out W hB).2.2.2.1 (by omega)).mono ?_; rintro e w' ⟨q, rfl, o, b1⟩; exact ⟨_, rfl, o.sl e3_len, b1⟩
      · intro x W hB hN; simp only [needs, sAt, dAt] at hN; simp only [putX, setX, List.foldl_cons, List.foldl_nil]; obtain ⟨⟨q9, e36, h36⟩, h38, h41, _⟩ := hN; refine ⟨?_⟩; go_simp; refine (HCO.out _ _ _ _ h36 h38 h41).mono ?_; rintro e w' ⟨q, rfl, sq, b1⟩; exact ⟨_, rfl, ⟨q, rfl, sq⟩, b1⟩
      · intro x W hB hN; simp only [needs, sAt, dAt] at hN; simp only [putX, setX, List.foldl_cons, List.foldl_nil]; refine ⟨?_⟩; go_simp; exact ⟨hN.1, Below.refl _ _⟩
      · intro x W hB hN; simp only [needs, sAt, dAt] at hN; simp only [putX, setX, List.foldl_cons, List.foldl_nil]; obtain ⟨⟨q9, e34, h34⟩, _⟩ := hN; refine ⟨?_⟩; go_simp; exact ⟨h34, Below.refl _ _⟩
      · intro x W hB hN; simp only [needs, sAt, dAt] at hN; simp only [putX, setX, List.foldl_cons, List.foldl_nil]; obtain ⟨⟨q9, e34, h34⟩, _⟩ := hN; refine ⟨?_⟩; go_simp; exact ⟨rfl, Below.refl _ _⟩
      · intro x W hB hN; simp only [needs, sAt, dAt] at hN; simp only [putX, setX, List.foldl_cons, List.foldl_nil]; refine ⟨?_⟩; go_simp; exact ⟨hN.1, Below.refl _ _⟩
    · intro x1 W1 hB hA
      simp only [allSp] at hA
      have s1 := hA.2.2.2.2.2.2.2.2.2.2.2.1
      have s2 := hA.2.2.2.2.2.2.2.2.2.2.1
      obtain ⟨A9, c9, e9, _⟩ := s1.form
      rw [e9] at s1
      try simp only [List.length_nil] at e9 s1
      have K10 := Lib.hid (Keeps.and K0.out (keeps_sl e1 1 (.slice A9 s9.length c9) s9))
      have Q10 := Lib.hid (And.intro (K0.out _ _ Q2.out (Below.trans (Below.drew (Below.refl _ _)) hB)) s1)
      clear hA hB HX5 g0 g1 g2 g3 g4 s1
      obtain ⟨g0, g1, g2, g3, g4⟩ := (HPE.out _ Q10.out.1).1
      simp only [putX, setX, List.foldl_cons, List.foldl_nil, List.drop_succ_cons, List.drop_zero, e9, s2, List.setIfInBounds_toArray, List.set_cons_succ, List.set_cons_zero]
      clear e9 s2
      have HX6 : Hid (∀ W, Below W1.drew.heap.size W1.drew W → (W.cell? ⟨w.heap.size, 0, none⟩ = some (.int .i64 l.x) ∧ W.cell? ⟨w.heap.size, 1, none⟩ = some (.int .i64 l.z) ∧ W.cell? ⟨w.heap.size, 2, none⟩ = some (.slice A l.ks.length c) ∧ W.cell? ⟨w.heap.size + 1, 0, none⟩ = some (.slice A'' r.length c'') ∧ W.cell? ⟨w.heap.size + 1, 1, none⟩ = some (.slice A3 s.length c3)) ∧ Sl e3 3 W (.slice A l.ks.length c) l.ks ∧ Sl e2 2 W (.slice A' b.length c') b ∧ Sl e3 3 W (.slice A'' r.length c'') r ∧ Sl e1 1 W (.slice A3 s.length c3) s ∧ Below w.heap.size w W) := fun W hW => HPE.out _ (K0.out _ _ Q10.out.1 (Below.trans (Below.drew (Below.refl _ _)) hW))
      go_wp2_with fail
      refine wp_region_mono 15 [46, 47, 48, 49, 50, 51, 52, 53, 54, 55, 56, 45, 57, 58, 9] [[], [0], [], [2], [], [4], [5], [], [7], [8], [1, 3, 6, 9], [10], [11], [11], [12]] [fun v _ => v = .agg #[.int .i64 l.x, .int .i64 l.z, .slice A l.ks.length c], fun v w => (∃ q, v = .agg #[.int .i64 l.x, .int .i64 l.z, q] ∧ Sl e3 3 w q l.ks), fun v _ => v = .slice A' b.length c', fun v w => Sl e2 2 w v b, fun v _ => v = .pointer (some ⟨w.heap.size + 1, 0, none⟩), fun v _ => v = .slice A'' r.length c'', fun v w => Sl e3 3 w v r, fun v _ => v = .pointer (some ⟨w.heap.size + 1, 1, none⟩), fun v _ => v = .slice A3 s.length c3, fun v w => Sl e1 1 w v s, fun v _ => v = .tuple #[.int .i64 nn, .int .i64 ff], fun v _ => v = .tuple #[.int .i64 nn, .int .i64 ff], fun v _ => v = .int .i64 nn, fun v _ => v = .int .i64 ff, fun v _ => v = .int .i64 nn] (by kernel_rfl) (by kernel_rfl) ⟨st_eq _, (fun _ _ _ ⟨q, e, h⟩ hb => ⟨q, e, h.below hb⟩), st_eq _, st_sl _ _ _, st_eq _, st_eq _, st_sl _ _ _, st_eq _, st_eq _, st_sl _ _ _, st_eq _, st_eq _, st_eq _, st_eq _, st_eq _, trivial⟩ ?_ ?_
      · simp only [List.take_succ_cons, List.take_zero, steps, and_true]
        refine ⟨?_, ?_, ?_, ?_, ?_, ?_, ?_, ?_, ?_, ?_, ?_, ?_, ?_, ?_, ?_⟩
        · intro x W hB _; simp only [putX, setX, List.foldl_cons, List.foldl_nil]; obtain ⟨⟨c0, c1, c2, _⟩, _⟩ := HX6.out W hB; refine ⟨?_⟩; go_simp; exact ⟨rfl, Below.refl _ _⟩
        · intro x W hB hN; simp only [needs, sAt, dAt] at hN; simp only [putX, setX, List.foldl_cons, List.foldl_nil]; refine ⟨?_⟩; go_simp; refine (CopyLine_any _ l _ (HX6.out W hB).2.1 (by omega)).mono ?_; rintro e w' ⟨q, rfl, o, b1⟩; exact ⟨_, rfl, ⟨q, rfl, o⟩, b1⟩
        · intro x W hB _; simp only [putX, setX, List.foldl_cons, List.foldl_nil]; refine ⟨?_⟩; go_simp; exact ⟨rfl, Below.refl _ _⟩
        · intro x W hB hN; simp only [needs, sAt, dAt] at hN; simp only [putX, setX, List.foldl_cons, List.foldl_nil]; refine ⟨?_⟩; go_simp; refine (CopyRanges_any _ b _ (HX6.out W hB).2.2.1 (by omega)).mono ?_; rintro e w' ⟨q, rfl, o, b1⟩; exact ⟨_, rfl, o.sl e2_len, b1⟩
        · intro x W hB _; simp only [putX, setX, List.foldl_cons, List.foldl_nil]; refine ⟨?_⟩; go_simp; exact ⟨rfl, Below.refl _ _⟩
        · intro x W hB hN; simp only [needs, sAt, dAt] at hN; simp only [putX, setX, List.foldl_cons, List.foldl_nil]; obtain ⟨⟨_, _, _, c0, _⟩, _⟩ := HX6.out W hB; refine ⟨?_⟩; go_simp; exact ⟨rfl, Below.refl _ _⟩
        · intro x W hB hN; simp only [needs, sAt, dAt] at hN; simp only [putX, setX, List.foldl_cons, List.foldl_nil]; refine ⟨?_⟩; go_simp; refine (CopyReadings_any _ r _ (HX6.out W hB).2.2.2.1 (by omega)).mono ?_; rintro e w' ⟨q, rfl, o, b1⟩; exact ⟨_, rfl, o.sl e3_len, b1⟩
        · intro x W hB _; simp only [putX, setX, List.foldl_cons, List.foldl_nil]; refine ⟨?_⟩; go_simp; exact ⟨rfl, Below.refl _ _⟩
        · intro x W hB hN; simp only [needs, sAt, dAt] at hN; simp only [putX, setX, List.foldl_cons, List.foldl_nil]; obtain ⟨⟨_, _, _, _, c0⟩, _⟩ := HX6.out W hB; refine ⟨?_⟩; go_simp; exact ⟨rfl, Below.refl _ _⟩
        · intro x W hB hN; simp only [needs, sAt, dAt] at hN; simp only [putX, setX, List.foldl_cons, List.foldl_nil]; refine ⟨?_⟩; go_simp; refine (CopyInts_any _ s _ (HX6.out W hB).2.2.2.2.1 (by omega)).mono ?_; rintro e w' ⟨q, rfl, o, b1⟩; exact ⟨_, rfl, o.sl e1_len, b1⟩
        · intro x W hB hN; simp only [needs, sAt, dAt] at hN; simp only [putX, setX, List.foldl_cons, List.foldl_nil]; obtain ⟨⟨q9, e47, h47⟩, h49, h52, h55, _⟩ := hN; refine ⟨?_⟩; go_simp; refine (HCC.out _ _ _ _ _ h47 h49 h52 h55).mono ?_; rintro e w' ⟨rfl, b1⟩; exact ⟨_, rfl, rfl, b1⟩
        · intro x W hB hN; simp only [needs, sAt, dAt] at hN; simp only [putX, setX, List.foldl_cons, List.foldl_nil]; refine ⟨?_⟩; go_simp; exact ⟨rfl, Below.refl _ _⟩
        · intro x W hB hN; simp only [needs, sAt, dAt] at hN; simp only [putX, setX, List.foldl_cons, List.foldl_nil]; refine ⟨?_⟩; go_simp; exact ⟨rfl, Below.refl _ _⟩
        · intro x W hB hN; simp only [needs, sAt, dAt] at hN; simp only [putX, setX, List.foldl_cons, List.foldl_nil]; refine ⟨?_⟩; go_simp; exact ⟨rfl, Below.refl _ _⟩
        · intro x W hB hN; simp only [needs, sAt, dAt] at hN; simp only [putX, setX, List.foldl_cons, List.foldl_nil]; refine ⟨?_⟩; go_simp; exact ⟨rfl, Below.refl _ _⟩
      · intro x2 W2 hB hA
        simp only [allSp] at hA
        have s1 := hA.2.2.2.2.2.2.2.2.2.2.2.2.2.2.1
        have s2 := hA.2.2.2.2.2.2.2.2.2.2.2.2.2.1
        have Q11 := Lib.hid (K10.out _ _ Q10.out (Below.trans (Below.drew (Below.refl _ _)) hB))
        clear hA hB HX6 g0 g1 g2 g3 g4
        obtain ⟨g0, g1, g2, g3, g4⟩ := (HPE.out _ Q11.out.1).1
        simp only [putX, setX, List.foldl_cons, List.foldl_nil, List.drop_succ_cons, List.drop_zero, s1, s2, List.setIfInBounds_toArray, List.set_cons_succ, List.set_cons_zero]
        clear s1 s2
        go_wp2_with (first
          | (go_at_call 17; refine (HLE.out _ _ (HPE.out _ Q11.out.1).2.1).mono ?_; rintro e w12 ⟨rfl, b12⟩; have Q12 := Lib.hid (K10.out _ _ Q11.out b12); clear b12 g0 g1 g2 g3 g4; obtain ⟨g0, g1, g2, g3, g4⟩ := (HPE.out _ Q12.out.1).1)
          | (go_at_call 18; refine (HBE.out _ _ _ (HPE.out _ Q12.out.1).2.1 (HPE.out _ Q12.out.1).2.2.1).mono ?_; rintro e w13 ⟨rfl, b13⟩; have Q13 := Lib.hid (K10.out _ _ Q12.out b13); clear b13 g0 g1 g2 g3 g4; obtain ⟨g0, g1, g2, g3, g4⟩ := (HPE.out _ Q13.out.1).1)
          | (go_at_call 19; refine (HRE.out _ _ _ (HPE.out _ Q13.out.1).2.1 (HPE.out _ Q13.out.1).2.2.2.1).mono ?_; rintro e w14 ⟨rfl, b14⟩; have Q14 := Lib.hid (K10.out _ _ Q13.out b14); clear b14 g0 g1 g2 g3 g4; obtain ⟨g0, g1, g2, g3, g4⟩ := (HPE.out _ Q14.out.1).1)
          | (go_at_call 20; refine (HRC.out _ _ _ _ (HPE.out _ Q14.out.1).2.1 (HPE.out _ Q14.out.1).2.2.1 (HPE.out _ Q14.out.1).2.2.2.1).mono ?_; rintro e w15 ⟨q15, rfl, s15, b15⟩; have Q15 := Lib.hid (K10.out _ _ Q14.out b15); have HS15 := Lib.hid s15; clear b15 s15 g0 g1 g2 g3 g4; obtain ⟨g0, g1, g2, g3, g4⟩ := (HPE.out _ Q15.out.1).1)
          | (go_at_call 21; refine (HIN.out _ _ _ Q15.out.2 HS15.out).mono ?_; rintro e w16 ⟨rfl, b16⟩; have Q16 := Lib.hid (K10.out _ _ Q15.out b16); clear b16 g0 g1 g2 g3 g4; obtain ⟨g0, g1, g2, g3, g4⟩ := (HPE.out _ Q16.out.1).1)
          | (go_at_call 22; refine (HRS.out _ _ _ _ _ (HPE.out _ Q16.out.1).2.1 (HPE.out _ Q16.out.1).2.2.1 (HPE.out _ Q16.out.1).2.2.2.1 (HPE.out _ Q16.out.1).2.2.2.2.1).mono ?_; rintro e w17 ⟨rfl, b17⟩; have Q17 := Lib.hid (K10.out _ _ Q16.out b17); clear b17 g0 g1 g2 g3 g4; obtain ⟨g0, g1, g2, g3, g4⟩ := (HPE.out _ Q17.out.1).1))
        go_ret
        exact ⟨rfl, (HPE.out _ Q17.out.1).2.2.2.2.2⟩
  · rw [show decide ((12 : Int) = 0) = false from rfl] at HRC
    clear HIN hs9
    go_enter Try.func3, Try.ntmps3
    go_wp2_with (first
      | (go_at_call 9; refine (awakeB _).mono ?_; rintro e w1 ⟨rfl, b1⟩; have HXP : ∃ P : World → Prop, Keeps P ∧ P w1 ∧ ∀ W, P W → (W.cell? ⟨w.heap.size, 0, none⟩ = some (.int .i64 l.x) ∧ W.cell? ⟨w.heap.size, 1, none⟩ = some (.int .i64 l.z) ∧ W.cell? ⟨w.heap.size, 2, none⟩ = some (.slice A l.ks.length c) ∧ W.cell? ⟨w.heap.size + 1, 0, none⟩ = some (.slice A'' r.length c'') ∧ W.cell? ⟨w.heap.size + 1, 1, none⟩ = some (.slice A3 s.length c3)) ∧ Sl e3 3 W (.slice A l.ks.length c) l.ks ∧ Sl e2 2 W (.slice A' b.length c') b ∧ Sl e3 3 W (.slice A'' r.length c'') r ∧ Sl e1 1 W (.slice A3 s.length c3) s ∧ Below w.heap.size w W := ⟨_, ((keeps_cell _ _).and ((keeps_cell _ _).and ((keeps_cell _ _).and ((keeps_cell _ _).and (keeps_cell _ _))))).and ((keeps_sl _ _ _ _).and ((keeps_sl _ _ _ _).and ((keeps_sl _ _ _ _).and ((keeps_sl _ _ _ _).and (keeps_below _))))), rd_hx HS.out HU.out HT.out HY.out b1, fun _ h => h⟩; obtain ⟨P, KP, hP, HPE⟩ := HXP; have K0 := Lib.hid KP; have HPE := Lib.hid HPE; have Q1 := Lib.hid hP; clear b1 KP hP; obtain ⟨g0, g1, g2, g3, g4⟩ := (HPE.out _ Q1.out).1)
      | (go_at_call 10; refine (few_any _ l _ _ (HPE.out _ Q1.out).2.1).mono ?_; rintro e w2 ⟨rfl, b2⟩; have Q2 := Lib.hid (K0.out _ _ Q1.out b2); clear b2 g0 g1 g2 g3 g4; obtain ⟨g0, g1, g2, g3, g4⟩ := (HPE.out _ Q2.out).1))
    have HX5 : Hid (∀ W, Below w2.drew.heap.size w2.drew W → (W.cell? ⟨w.heap.size, 0, none⟩ = some (.int .i64 l.x) ∧ W.cell? ⟨w.heap.size, 1, none⟩ = some (.int .i64 l.z) ∧ W.cell? ⟨w.heap.size, 2, none⟩ = some (.slice A l.ks.length c) ∧ W.cell? ⟨w.heap.size + 1, 0, none⟩ = some (.slice A'' r.length c'') ∧ W.cell? ⟨w.heap.size + 1, 1, none⟩ = some (.slice A3 s.length c3)) ∧ Sl e3 3 W (.slice A l.ks.length c) l.ks ∧ Sl e2 2 W (.slice A' b.length c') b ∧ Sl e3 3 W (.slice A'' r.length c'') r ∧ Sl e1 1 W (.slice A3 s.length c3) s ∧ Below w.heap.size w W) := fun W hW => HPE.out _ (K0.out _ _ Q2.out (Below.trans (Below.drew (Below.refl _ _)) hW))
    refine wp_region_mono 12 [35, 36, 37, 38, 39, 40, 41, 42, 34, 43, 44, 7] [[], [0], [], [2], [], [4], [5], [1, 3, 6], [7], [8], [8], [9]] [fun v _ => v = .agg #[.int .i64 l.x, .int .i64 l.z, .slice A l.ks.length c], fun v w => (∃ q, v = .agg #[.int .i64 l.x, .int .i64 l.z, q] ∧ Sl e3 3 w q l.ks), fun v _ => v = .slice A' b.length c', fun v w => Sl e2 2 w v b, fun v _ => v = .pointer (some ⟨w.heap.size + 1, 0, none⟩), fun v _ => v = .slice A'' r.length c'', fun v w => Sl e3 3 w v r, fun v w => (∃ q, v = .tuple #[q, .int .i64 12] ∧ Sl e1 1 w q []), fun v w => (∃ q, v = .tuple #[q, .int .i64 12] ∧ Sl e1 1 w q []), fun v w => Sl e1 1 w v [], fun v _ => v = .int .i64 12, fun v w => Sl e1 1 w v []] (by kernel_rfl) (by kernel_rfl) ⟨st_eq _, (fun _ _ _ ⟨q, e, h⟩ hb => ⟨q, e, h.below hb⟩), st_eq _, st_sl _ _ _, st_eq _, st_eq _, st_sl _ _ _, (fun _ _ _ ⟨q, e, h⟩ hb => ⟨q, e, h.below hb⟩), (fun _ _ _ ⟨q, e, h⟩ hb => ⟨q, e, h.below hb⟩), st_sl _ _ _, st_eq _, st_sl _ _ _, trivial⟩ ?_ ?_
    · simp only [List.take_succ_cons, List.take_zero, steps, and_true]
      refine ⟨?_, ?_, ?_, ?_, ?_, ?_, ?_, ?_, ?_, ?_, ?_, ?_⟩
      · intro x W hB _; simp only [putX, setX, List.foldl_cons, List.foldl_nil]; obtain ⟨⟨c0, c1, c2, _⟩, _⟩ := HX5.out W hB; refine ⟨?_⟩; go_simp; exact ⟨rfl, Below.refl _ _⟩
      · intro x W hB hN; simp only [needs, sAt, dAt] at hN; simp only [putX, setX, List.foldl_cons, List.foldl_nil]; refine ⟨?_⟩; go_simp; refine (CopyLine_any _ l _ (HX5.out W hB).2.1 (by omega)).mono ?_; rintro e w' ⟨q, rfl, o, b1⟩; exact ⟨_, rfl, ⟨q, rfl, o⟩, b1⟩
      · intro x W hB _; simp only [putX, setX, List.foldl_cons, List.foldl_nil]; refine ⟨?_⟩; go_simp; exact ⟨rfl, Below.refl _ _⟩
      · intro x W hB hN; simp only [needs, sAt, dAt] at hN; simp only [putX, setX, List.foldl_cons, List.foldl_nil]; refine ⟨?_⟩; go_simp; refine (CopyRanges_any _ b _ (HX5.out W hB).2.2.1 (by omega)).mono ?_; rintro e w' ⟨q, rfl, o, b1⟩; exact ⟨_, rfl, o.sl e2_len, b1⟩
      · intro x W hB _; simp only [putX, setX, List.foldl_cons, List.foldl_nil]; refine ⟨?_⟩; go_simp; exact ⟨rfl, Below.refl _ _⟩
      · intro x W hB hN; simp only [needs, sAt, dAt] at hN; simp only [putX, setX, List.foldl_cons, List.foldl_nil]; obtain ⟨⟨_, _, _, c0, _⟩, _⟩ := HX5.out W hB; refine ⟨?_⟩; go_simp; exact ⟨rfl, Below.refl _ _⟩
      · intro x W hB hN; simp only [needs, sAt, dAt] at hN; simp only [putX, setX, List.foldl_cons, List.foldl_nil]; refine ⟨?_⟩; go_simp; refine (CopyReadings_any _ r _ (HX5.out W hB).2.2.2.1 (by omega)).mono ?_; rintro e w' ⟨q, rfl, o, b1⟩; exact ⟨_, rfl, o.sl e3_len, b1⟩
      · intro x W hB hN; simp only [needs, sAt, dAt] at hN; simp only [putX, setX, List.foldl_cons, List.foldl_nil]; obtain ⟨⟨q9, e36, h36⟩, h38, h41, _⟩ := hN; refine ⟨?_⟩; go_simp; refine (HCO.out _ _ _ _ h36 h38 h41).mono ?_; rintro e w' ⟨q, rfl, sq, b1⟩; exact ⟨_, rfl, ⟨q, rfl, sq⟩, b1⟩
      · intro x W hB hN; simp only [needs, sAt, dAt] at hN; simp only [putX, setX, List.foldl_cons, List.foldl_nil]; refine ⟨?_⟩; go_simp; exact ⟨hN.1, Below.refl _ _⟩
      · intro x W hB hN; simp only [needs, sAt, dAt] at hN; simp only [putX, setX, List.foldl_cons, List.foldl_nil]; obtain ⟨⟨q9, e34, h34⟩, _⟩ := hN; refine ⟨?_⟩; go_simp; exact ⟨h34, Below.refl _ _⟩
      · intro x W hB hN; simp only [needs, sAt, dAt] at hN; simp only [putX, setX, List.foldl_cons, List.foldl_nil]; obtain ⟨⟨q9, e34, h34⟩, _⟩ := hN; refine ⟨?_⟩; go_simp; exact ⟨rfl, Below.refl _ _⟩
      · intro x W hB hN; simp only [needs, sAt, dAt] at hN; simp only [putX, setX, List.foldl_cons, List.foldl_nil]; refine ⟨?_⟩; go_simp; exact ⟨hN.1, Below.refl _ _⟩
    · intro x1 W1 hB hA
      simp only [allSp] at hA
      have s1 := hA.2.2.2.2.2.2.2.2.2.2.2.1
      have s2 := hA.2.2.2.2.2.2.2.2.2.2.1
      obtain ⟨A9, c9, e9, _⟩ := s1.form
      rw [e9] at s1
      try simp only [List.length_nil] at e9 s1
      have K10 := Lib.hid (Keeps.and K0.out (keeps_sl e1 1 (.slice A9 0 c9) []))
      have Q10 := Lib.hid (And.intro (K0.out _ _ Q2.out (Below.trans (Below.drew (Below.refl _ _)) hB)) s1)
      clear hA hB HX5 g0 g1 g2 g3 g4 s1
      obtain ⟨g0, g1, g2, g3, g4⟩ := (HPE.out _ Q10.out.1).1
      simp only [putX, setX, List.foldl_cons, List.foldl_nil, List.drop_succ_cons, List.drop_zero, e9, s2, List.setIfInBounds_toArray, List.set_cons_succ, List.set_cons_zero]
      clear e9 s2
      have HX6 : Hid (∀ W, Below W1.drew.heap.size W1.drew W → (W.cell? ⟨w.heap.size, 0, none⟩ = some (.int .i64 l.x) ∧ W.cell? ⟨w.heap.size, 1, none⟩ = some (.int .i64 l.z) ∧ W.cell? ⟨w.heap.size, 2, none⟩ = some (.slice A l.ks.length c) ∧ W.cell? ⟨w.heap.size + 1, 0, none⟩ = some (.slice A'' r.length c'') ∧ W.cell? ⟨w.heap.size + 1, 1, none⟩ = some (.slice A3 s.length c3)) ∧ Sl e3 3 W (.slice A l.ks.length c) l.ks ∧ Sl e2 2 W (.slice A' b.length c') b ∧ Sl e3 3 W (.slice A'' r.length c'') r ∧ Sl e1 1 W (.slice A3 s.length c3) s ∧ Below w.heap.size w W) := fun W hW => HPE.out _ (K0.out _ _ Q10.out.1 (Below.trans (Below.drew (Below.refl _ _)) hW))
      go_wp2_with fail
      refine wp_region_mono 15 [46, 47, 48, 49, 50, 51, 52, 53, 54, 55, 56, 45, 57, 58, 9] [[], [0], [], [2], [], [4], [5], [], [7], [8], [1, 3, 6, 9], [10], [11], [11], [12]] [fun v _ => v = .agg #[.int .i64 l.x, .int .i64 l.z, .slice A l.ks.length c], fun v w => (∃ q, v = .agg #[.int .i64 l.x, .int .i64 l.z, q] ∧ Sl e3 3 w q l.ks), fun v _ => v = .slice A' b.length c', fun v w => Sl e2 2 w v b, fun v _ => v = .pointer (some ⟨w.heap.size + 1, 0, none⟩), fun v _ => v = .slice A'' r.length c'', fun v w => Sl e3 3 w v r, fun v _ => v = .pointer (some ⟨w.heap.size + 1, 1, none⟩), fun v _ => v = .slice A3 s.length c3, fun v w => Sl e1 1 w v s, fun v _ => v = .tuple #[.int .i64 nn, .int .i64 ff], fun v _ => v = .tuple #[.int .i64 nn, .int .i64 ff], fun v _ => v = .int .i64 nn, fun v _ => v = .int .i64 ff, fun v _ => v = .int .i64 nn] (by kernel_rfl) (by kernel_rfl) ⟨st_eq _, (fun _ _ _ ⟨q, e, h⟩ hb => ⟨q, e, h.below hb⟩), st_eq _, st_sl _ _ _, st_eq _, st_eq _, st_sl _ _ _, st_eq _, st_eq _, st_sl _ _ _, st_eq _, st_eq _, st_eq _, st_eq _, st_eq _, trivial⟩ ?_ ?_
      · simp only [List.take_succ_cons, List.take_zero, steps, and_true]
        refine ⟨?_, ?_, ?_, ?_, ?_, ?_, ?_, ?_, ?_, ?_, ?_, ?_, ?_, ?_, ?_⟩
        · intro x W hB _; simp only [putX, setX, List.foldl_cons, List.foldl_nil]; obtain ⟨⟨c0, c1, c2, _⟩, _⟩ := HX6.out W hB; refine ⟨?_⟩; go_simp; exact ⟨rfl, Below.refl _ _⟩
        · intro x W hB hN; simp only [needs, sAt, dAt] at hN; simp only [putX, setX, List.foldl_cons, List.foldl_nil]; refine ⟨?_⟩; go_simp; refine (CopyLine_any _ l _ (HX6.out W hB).2.1 (by omega)).mono ?_; rintro e w' ⟨q, rfl, o, b1⟩; exact ⟨_, rfl, ⟨q, rfl, o⟩, b1⟩
        · intro x W hB _; simp only [putX, setX, List.foldl_cons, List.foldl_nil]; refine ⟨?_⟩; go_simp; exact ⟨rfl, Below.refl _ _⟩
        · intro x W hB hN; simp only [needs, sAt, dAt] at hN; simp only [putX, setX, List.foldl_cons, List.foldl_nil]; refine ⟨?_⟩; go_simp; refine (CopyRanges_any _ b _ (HX6.out W hB).2.2.1 (by omega)).mono ?_; rintro e w' ⟨q, rfl, o, b1⟩; exact ⟨_, rfl, o.sl e2_len, b1⟩
        · intro x W hB _; simp only [putX, setX, List.foldl_cons, List.foldl_nil]; refine ⟨?_⟩; go_simp; exact ⟨rfl, Below.refl _ _⟩
        · intro x W hB hN; simp only [needs, sAt, dAt] at hN; simp only [putX, setX, List.foldl_cons, List.foldl_nil]; obtain ⟨⟨_, _, _, c0, _⟩, _⟩ := HX6.out W hB; refine ⟨?_⟩; go_simp; exact ⟨rfl, Below.refl _ _⟩
        · intro x W hB hN; simp only [needs, sAt, dAt] at hN; simp only [putX, setX, List.foldl_cons, List.foldl_nil]; refine ⟨?_⟩; go_simp; refine (CopyReadings_any _ r _ (HX6.out W hB).2.2.2.1 (by omega)).mono ?_; rintro e w' ⟨q, rfl, o, b1⟩; exact ⟨_, rfl, o.sl e3_len, b1⟩
        · intro x W hB _; simp only [putX, setX, List.foldl_cons, List.foldl_nil]; refine ⟨?_⟩; go_simp; exact ⟨rfl, Below.refl _ _⟩
        · intro x W hB hN; simp only [needs, sAt, dAt] at hN; simp only [putX, setX, List.foldl_cons, List.foldl_nil]; obtain ⟨⟨_, _, _, _, c0⟩, _⟩ := HX6.out W hB; refine ⟨?_⟩; go_simp; exact ⟨rfl, Below.refl _ _⟩
        · intro x W hB hN; simp only [needs, sAt, dAt] at hN; simp only [putX, setX, List.foldl_cons, List.foldl_nil]; refine ⟨?_⟩; go_simp; refine (CopyInts_any _ s _ (HX6.out W hB).2.2.2.2.1 (by omega)).mono ?_; rintro e w' ⟨q, rfl, o, b1⟩; exact ⟨_, rfl, o.sl e1_len, b1⟩
        · intro x W hB hN; simp only [needs, sAt, dAt] at hN; simp only [putX, setX, List.foldl_cons, List.foldl_nil]; obtain ⟨⟨q9, e47, h47⟩, h49, h52, h55, _⟩ := hN; refine ⟨?_⟩; go_simp; refine (HCC.out _ _ _ _ _ h47 h49 h52 h55).mono ?_; rintro e w' ⟨rfl, b1⟩; exact ⟨_, rfl, rfl, b1⟩
        · intro x W hB hN; simp only [needs, sAt, dAt] at hN; simp only [putX, setX, List.foldl_cons, List.foldl_nil]; refine ⟨?_⟩; go_simp; exact ⟨rfl, Below.refl _ _⟩
        · intro x W hB hN; simp only [needs, sAt, dAt] at hN; simp only [putX, setX, List.foldl_cons, List.foldl_nil]; refine ⟨?_⟩; go_simp; exact ⟨rfl, Below.refl _ _⟩
        · intro x W hB hN; simp only [needs, sAt, dAt] at hN; simp only [putX, setX, List.foldl_cons, List.foldl_nil]; refine ⟨?_⟩; go_simp; exact ⟨rfl, Below.refl _ _⟩
        · intro x W hB hN; simp only [needs, sAt, dAt] at hN; simp only [putX, setX, List.foldl_cons, List.foldl_nil]; refine ⟨?_⟩; go_simp; exact ⟨rfl, Below.refl _ _⟩
      · intro x2 W2 hB hA
        simp only [allSp] at hA
        have s1 := hA.2.2.2.2.2.2.2.2.2.2.2.2.2.2.1
        have s2 := hA.2.2.2.2.2.2.2.2.2.2.2.2.2.1
        have Q11 := Lib.hid (K10.out _ _ Q10.out (Below.trans (Below.drew (Below.refl _ _)) hB))
        clear hA hB HX6 g0 g1 g2 g3 g4
        obtain ⟨g0, g1, g2, g3, g4⟩ := (HPE.out _ Q11.out.1).1
        simp only [putX, setX, List.foldl_cons, List.foldl_nil, List.drop_succ_cons, List.drop_zero, s1, s2, List.setIfInBounds_toArray, List.set_cons_succ, List.set_cons_zero]
        clear s1 s2
        go_wp2_with (first
          | (go_at_call 17; refine (HLE.out _ _ (HPE.out _ Q11.out.1).2.1).mono ?_; rintro e w12 ⟨rfl, b12⟩; have Q12 := Lib.hid (K10.out _ _ Q11.out b12); clear b12 g0 g1 g2 g3 g4; obtain ⟨g0, g1, g2, g3, g4⟩ := (HPE.out _ Q12.out.1).1)
          | (go_at_call 18; refine (HBE.out _ _ _ (HPE.out _ Q12.out.1).2.1 (HPE.out _ Q12.out.1).2.2.1).mono ?_; rintro e w13 ⟨rfl, b13⟩; have Q13 := Lib.hid (K10.out _ _ Q12.out b13); clear b13 g0 g1 g2 g3 g4; obtain ⟨g0, g1, g2, g3, g4⟩ := (HPE.out _ Q13.out.1).1)
          | (go_at_call 19; refine (HRE.out _ _ _ (HPE.out _ Q13.out.1).2.1 (HPE.out _ Q13.out.1).2.2.2.1).mono ?_; rintro e w14 ⟨rfl, b14⟩; have Q14 := Lib.hid (K10.out _ _ Q13.out b14); clear b14 g0 g1 g2 g3 g4; obtain ⟨g0, g1, g2, g3, g4⟩ := (HPE.out _ Q14.out.1).1)
          | (go_at_call 20; refine (HRC.out _ _ _ _ (HPE.out _ Q14.out.1).2.1 (HPE.out _ Q14.out.1).2.2.1 (HPE.out _ Q14.out.1).2.2.2.1).mono ?_; rintro e w15 ⟨q15, rfl, s15, b15⟩; have Q15 := Lib.hid (K10.out _ _ Q14.out b15); have HS15 := Lib.hid s15; clear b15 s15 g0 g1 g2 g3 g4; obtain ⟨g0, g1, g2, g3, g4⟩ := (HPE.out _ Q15.out.1).1)
          | (go_at_call 22; refine (HRS.out _ _ _ _ _ (HPE.out _ Q15.out.1).2.1 (HPE.out _ Q15.out.1).2.2.1 (HPE.out _ Q15.out.1).2.2.2.1 (HPE.out _ Q15.out.1).2.2.2.2.1).mono ?_; rintro e w17 ⟨rfl, b17⟩; have Q17 := Lib.hid (K10.out _ _ Q15.out b17); clear b17 g0 g1 g2 g3 g4; obtain ⟨g0, g1, g2, g3, g4⟩ := (HPE.out _ Q17.out.1).1))
        go_ret
        exact ⟨rfl, (HPE.out _ Q17.out.1).2.2.2.2.2⟩
end Go.Proofs.Ytekinmafdhgmpaa
