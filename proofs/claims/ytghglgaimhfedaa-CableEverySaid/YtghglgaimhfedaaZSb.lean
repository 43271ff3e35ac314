/-
  The law CableEvery where it says nothing.
-/
import Derived.Test.YtghglgaimhfedaaZOh
import Derived.Test.YtghglgaimhfedaaZSa
namespace Go.Proofs.Ytghglgaimhfedaa
open Go.RowKit Go.Shelf

set_option maxRecDepth 100000 in
set_option maxHeartbeats 4000000 in
theorem every_out (v u x : Value) (l : Ln) (b : List (Int × Int)) (ps : List Int) (w : World) (hs : Sl e3 3 w v l.ks) (hu : Sl e2 2 w u b) (hx : Sl e1 1 w x ps) (hn : ¬ (l.ks.length ≤ 12 ∧ b.length ≤ 14 ∧ ps.length ≤ 20 ∧ boxErr l b = 0)) :
    Calls Try.prog 9 #[.agg #[.int .i64 l.x, .int .i64 l.z, v], u, x] w fun e w' => e = .returned (.bool true) ∧ Below w.heap.size w w' := by
  have HS := Lib.hid hs
  have HU := Lib.hid hu
  have HV := Lib.hid hx
  obtain ⟨A, c, rfl, hcap⟩ := hs.form
  obtain ⟨A', c', rfl, hcap'⟩ := hu.form
  obtain ⟨A'', c'', rfl, hcap''⟩ := hx.form
  clear hs hu hx hcap hcap' hcap''
  by_cases h1 : l.ks.length ≤ 12 ∧ b.length ≤ 14
  · have f1 := fewB_true h1.1 h1.2
    obtain ⟨h2, h3⟩ := h1
    have HLE := Lib.hid (fun v w h1 => LineErr_any v l w h1 (by omega))
    have HBE := Lib.hid (fun v u w h1 h2 => rBoxErr_any v u l b w h1 h2 (by omega))
    by_cases h5 : ps.length ≤ 20
    · have h0 : ¬ boxErr l b = 0 := fun h => hn ⟨h2, h3, h5, h⟩
      have h0' := ne1 h0
      have hp1 : ¬ (20 : Int) < (ps.length : Int) := by omega
      have hp2 : decide ((20 : Int) < (ps.length : Int)) = false := decide_eq_false hp1
      clear hn h2 h3 h5
      by_cases h4 : lineErr l = 0
      · have e4 : boxErr l b = (boxErr1 l b).2 := boxErr_box h4
        rw [h4] at HLE
        rw [← e4] at HBE
        clear e4 h4 h0
        generalize boxErr l b = d at *
        go_enter Try.func9, Try.ntmps9
        go_wp2_with (first
      | (go_at_call 14; refine (awakeB _).mono ?_; rintro e w1 ⟨rfl, b1⟩; have HX := law_hx HS.out (fun W => Sl e2 2 W (.slice A' b.length c') b ∧ Sl e1 1 W (.slice A'' ps.length c'') ps) (fun W hW => ⟨HU.out.below hW, HV.out.below hW⟩) b1; have HXP : ∃ P : World → Prop, Keeps P ∧ P w1 ∧ ∀ W, P W → (W.cell? ⟨w.heap.size, 0, none⟩ = some (.int .i64 l.x) ∧ W.cell? ⟨w.heap.size, 1, none⟩ = some (.int .i64 l.z) ∧ W.cell? ⟨w.heap.size, 2, none⟩ = some (.slice A l.ks.length c)) ∧ Sl e3 3 W (.slice A l.ks.length c) l.ks ∧ (Sl e2 2 W (.slice A' b.length c') b ∧ Sl e1 1 W (.slice A'' ps.length c'') ps) ∧ Below w.heap.size w W := ⟨_, (keeps_cells _ _ _ _).and ((keeps_sl _ _ _ _).and (((keeps_sl _ _ _ _).and (keeps_sl _ _ _ _)).and (keeps_below _))), HX.out _ (Below.refl _ _), fun _ h => h⟩; obtain ⟨P, KP, hP, HPE⟩ := HXP; have K0 := Lib.hid KP; have HPE := Lib.hid HPE; have Q1 := Lib.hid hP; clear b1 HX KP hP; obtain ⟨g0, g1, g2⟩ := (HPE.out _ Q1.out).1)
      | (go_at_call 15; refine (few_any _ l _ _ (HPE.out _ Q1.out).2.1).mono ?_; rintro e w2 ⟨rfl, b2⟩; have Q2 := Lib.hid (K0.out _ _ Q1.out b2); clear b2 g0 g1 g2; obtain ⟨g0, g1, g2⟩ := (HPE.out _ Q2.out).1)
      | (go_at_call 33; refine (HLE.out _ _ (HPE.out _ Q2.out).2.1).mono ?_; rintro e w3 ⟨rfl, b3⟩; have Q3 := Lib.hid (K0.out _ _ Q2.out b3); clear b3 g0 g1 g2; obtain ⟨g0, g1, g2⟩ := (HPE.out _ Q3.out).1)
      | (go_at_call 61; refine (HBE.out _ _ _ (HPE.out _ Q3.out).2.1 (HPE.out _ Q3.out).2.2.1.1).mono ?_; rintro e w4 ⟨rfl, b4⟩; have Q4 := Lib.hid (K0.out _ _ Q3.out b4); clear b4 g0 g1 g2))
        go_ret
        exact ⟨rfl, (HPE.out _ Q4.out).2.2.2⟩
      · have e4 : boxErr l b = lineErr l := boxErr_line h4
        rw [← e4] at HLE
        clear e4 h4 h0
        generalize boxErr l b = d at *
        go_enter Try.func9, Try.ntmps9
        go_wp2_with (first
      | (go_at_call 14; refine (awakeB _).mono ?_; rintro e w1 ⟨rfl, b1⟩; have HX := law_hx HS.out (fun W => Sl e2 2 W (.slice A' b.length c') b ∧ Sl e1 1 W (.slice A'' ps.length c'') ps) (fun W hW => ⟨HU.out.below hW, HV.out.below hW⟩) b1; have HXP : ∃ P : World → Prop, Keeps P ∧ P w1 ∧ ∀ W, P W → (W.cell? ⟨w.heap.size, 0, none⟩ = some (.int .i64 l.x) ∧ W.cell? ⟨w.heap.size, 1, none⟩ = some (.int .i64 l.z) ∧ W.cell? ⟨w.heap.size, 2, none⟩ = some (.slice A l.ks.length c)) ∧ Sl e3 3 W (.slice A l.ks.length c) l.ks ∧ (Sl e2 2 W (.slice A' b.length c') b ∧ Sl e1 1 W (.slice A'' ps.length c'') ps) ∧ Below w.heap.size w W := ⟨_, (keeps_cells _ _ _ _).and ((keeps_sl _ _ _ _).and (((keeps_sl _ _ _ _).and (keeps_sl _ _ _ _)).and (keeps_below _))), HX.out _ (Below.refl _ _), fun _ h => h⟩; obtain ⟨P, KP, hP, HPE⟩ := HXP; have K0 := Lib.hid KP; have HPE := Lib.hid HPE; have Q1 := Lib.hid hP; clear b1 HX KP hP; obtain ⟨g0, g1, g2⟩ := (HPE.out _ Q1.out).1)
      | (go_at_call 15; refine (few_any _ l _ _ (HPE.out _ Q1.out).2.1).mono ?_; rintro e w2 ⟨rfl, b2⟩; have Q2 := Lib.hid (K0.out _ _ Q1.out b2); clear b2 g0 g1 g2; obtain ⟨g0, g1, g2⟩ := (HPE.out _ Q2.out).1)
      | (go_at_call 33; refine (HLE.out _ _ (HPE.out _ Q2.out).2.1).mono ?_; rintro e w3 ⟨rfl, b3⟩; have Q3 := Lib.hid (K0.out _ _ Q2.out b3); clear b3 g0 g1 g2; obtain ⟨g0, g1, g2⟩ := (HPE.out _ Q3.out).1)
      | (go_at_call 61; refine (HBE.out _ _ _ (HPE.out _ Q3.out).2.1 (HPE.out _ Q3.out).2.2.1.1).mono ?_; rintro e w4 ⟨rfl, b4⟩; have Q4 := Lib.hid (K0.out _ _ Q3.out b4); clear b4 g0 g1 g2))
        go_ret
        exact ⟨rfl, (HPE.out _ Q3.out).2.2.2⟩
    · have hp1 : (20 : Int) < (ps.length : Int) := by omega
      have hp2 : decide ((20 : Int) < (ps.length : Int)) = true := decide_eq_true hp1
      clear hn h2 h3 h5
      go_enter Try.func9, Try.ntmps9
      go_wp2_with (first
      | (go_at_call 14; refine (awakeB _).mono ?_; rintro e w1 ⟨rfl, b1⟩; have HX := law_hx HS.out (fun W => Sl e2 2 W (.slice A' b.length c') b ∧ Sl e1 1 W (.slice A'' ps.length c'') ps) (fun W hW => ⟨HU.out.below hW, HV.out.below hW⟩) b1; have HXP : ∃ P : World → Prop, Keeps P ∧ P w1 ∧ ∀ W, P W → (W.cell? ⟨w.heap.size, 0, none⟩ = some (.int .i64 l.x) ∧ W.cell? ⟨w.heap.size, 1, none⟩ = some (.int .i64 l.z) ∧ W.cell? ⟨w.heap.size, 2, none⟩ = some (.slice A l.ks.length c)) ∧ Sl e3 3 W (.slice A l.ks.length c) l.ks ∧ (Sl e2 2 W (.slice A' b.length c') b ∧ Sl e1 1 W (.slice A'' ps.length c'') ps) ∧ Below w.heap.size w W := ⟨_, (keeps_cells _ _ _ _).and ((keeps_sl _ _ _ _).and (((keeps_sl _ _ _ _).and (keeps_sl _ _ _ _)).and (keeps_below _))), HX.out _ (Below.refl _ _), fun _ h => h⟩; obtain ⟨P, KP, hP, HPE⟩ := HXP; have K0 := Lib.hid KP; have HPE := Lib.hid HPE; have Q1 := Lib.hid hP; clear b1 HX KP hP; obtain ⟨g0, g1, g2⟩ := (HPE.out _ Q1.out).1)
      | (go_at_call 15; refine (few_any _ l _ _ (HPE.out _ Q1.out).2.1).mono ?_; rintro e w2 ⟨rfl, b2⟩; have Q2 := Lib.hid (K0.out _ _ Q1.out b2); clear b2 g0 g1 g2; obtain ⟨g0, g1, g2⟩ := (HPE.out _ Q2.out).1)
      | (go_at_call 33; refine (HLE.out _ _ (HPE.out _ Q2.out).2.1).mono ?_; rintro e w3 ⟨rfl, b3⟩; have Q3 := Lib.hid (K0.out _ _ Q2.out b3); clear b3 g0 g1 g2; obtain ⟨g0, g1, g2⟩ := (HPE.out _ Q3.out).1)
      | (go_at_call 61; refine (HBE.out _ _ _ (HPE.out _ Q3.out).2.1 (HPE.out _ Q3.out).2.2.1.1).mono ?_; rintro e w4 ⟨rfl, b4⟩; have Q4 := Lib.hid (K0.out _ _ Q3.out b4); clear b4 g0 g1 g2))
      go_ret
      exact ⟨rfl, (HPE.out _ Q2.out).2.2.2⟩
  · have f1 : fewB l.ks.length (b.length : Int) = false := fewB_false h1
    clear hn h1
    go_enter Try.func9, Try.ntmps9
    go_wp2_with (first
      | (go_at_call 14; refine (awakeB _).mono ?_; rintro e w1 ⟨rfl, b1⟩; have HX := law_hx HS.out (fun W => Sl e2 2 W (.slice A' b.length c') b ∧ Sl e1 1 W (.slice A'' ps.length c'') ps) (fun W hW => ⟨HU.out.below hW, HV.out.below hW⟩) b1; have HXP : ∃ P : World → Prop, Keeps P ∧ P w1 ∧ ∀ W, P W → (W.cell? ⟨w.heap.size, 0, none⟩ = some (.int .i64 l.x) ∧ W.cell? ⟨w.heap.size, 1, none⟩ = some (.int .i64 l.z) ∧ W.cell? ⟨w.heap.size, 2, none⟩ = some (.slice A l.ks.length c)) ∧ Sl e3 3 W (.slice A l.ks.length c) l.ks ∧ (Sl e2 2 W (.slice A' b.length c') b ∧ Sl e1 1 W (.slice A'' ps.length c'') ps) ∧ Below w.heap.size w W := ⟨_, (keeps_cells _ _ _ _).and ((keeps_sl _ _ _ _).and (((keeps_sl _ _ _ _).and (keeps_sl _ _ _ _)).and (keeps_below _))), HX.out _ (Below.refl _ _), fun _ h => h⟩; obtain ⟨P, KP, hP, HPE⟩ := HXP; have K0 := Lib.hid KP; have HPE := Lib.hid HPE; have Q1 := Lib.hid hP; clear b1 HX KP hP; obtain ⟨g0, g1, g2⟩ := (HPE.out _ Q1.out).1)
      | (go_at_call 15; refine (few_any _ l _ _ (HPE.out _ Q1.out).2.1).mono ?_; rintro e w2 ⟨rfl, b2⟩; have Q2 := Lib.hid (K0.out _ _ Q1.out b2); clear b2 g0 g1 g2; obtain ⟨g0, g1, g2⟩ := (HPE.out _ Q2.out).1)
      | (go_at_call 33; refine (HLE.out _ _ (HPE.out _ Q2.out).2.1).mono ?_; rintro e w3 ⟨rfl, b3⟩; have Q3 := Lib.hid (K0.out _ _ Q2.out b3); clear b3 g0 g1 g2; obtain ⟨g0, g1, g2⟩ := (HPE.out _ Q3.out).1)
      | (go_at_call 61; refine (HBE.out _ _ _ (HPE.out _ Q3.out).2.1 (HPE.out _ Q3.out).2.2.1.1).mono ?_; rintro e w4 ⟨rfl, b4⟩; have Q4 := Lib.hid (K0.out _ _ Q3.out b4); clear b4 g0 g1 g2))
    go_ret
    exact ⟨rfl, (HPE.out _ Q2.out).2.2.2⟩
end Go.Proofs.Ytghglgaimhfedaa
