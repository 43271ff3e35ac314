/-
  The statement CableWound where it says nothing: too much, or positions that are not small.
-/
import Derived.Test.YtghglgaimhfedaaZTg
import Derived.Test.YtghglgaimhfedaaZTf
import Derived.Test.YtghglgaimhfedaaQK
import Derived.Test.YtghglgaimhfedaaZMx
import Derived.Test.YtghglgaimhfedaaQO
import Derived.Test.YtghglgaimhfedaaZNb
namespace Go.Proofs.Ytghglgaimhfedaa
open Go.RowKit Go.Shelf

theorem small_any (p : Pt) (w : World) :
    Calls Try.prog 81 #[.agg #[.int .i64 p.1, .int .i64 p.2]] w fun e w' => e = .returned (.bool (smB p)) ∧ Below w.heap.size w w' := by
  obtain ⟨x, y⟩ := p
  show Calls Try.prog 81 #[.agg #[.int .i64 x, .int .i64 y]] w _
  have E : Hid (smB (x, y) = (inB x (-4000) 4000 && inB y (-4000) 4000)) := rfl
  cases hx : inB x (-4000) 4000
  · go_enter Try.func81, Try.ntmps81
    go_wp2_with (go_at_call 27; refine (Within_any _ _ _ _).mono ?_; rintro e w' ⟨rfl, rfl⟩)
    go_ret
    exact ⟨by rw [E.out, hx]; rfl, (by repeat (first | assumption | exact Below.refl _ _ | refine below_al ?_ _ | refine below_dr ?_ | refine below_tr ?_ (by assumption)))⟩
  · go_enter Try.func81, Try.ntmps81
    go_wp2_with (go_at_call 27; refine (Within_any _ _ _ _).mono ?_; rintro e w' ⟨rfl, rfl⟩)
    go_ret
    exact ⟨by rw [E.out, hx]; rfl, (by repeat (first | assumption | exact Below.refl _ _ | refine below_al ?_ _ | refine below_dr ?_ | refine below_tr ?_ (by assumption)))⟩
theorem post_hx {w w1 : World} {v u : Value} {path more : List Pt} {p m : Pt} {t : Int} (hs : Sl e2 2 w v path) (hu : Sl e2 2 w u more) (b1 : Below (w.alloc (.cells #[.int .i64 p.1, .int .i64 p.2, .int .i64 m.1, .int .i64 m.2, .int .i64 t] 117)).heap.size (w.alloc (.cells #[.int .i64 p.1, .int .i64 p.2, .int .i64 m.1, .int .i64 m.2, .int .i64 t] 117)) w1) :
    (w1.cell? ⟨w.heap.size, 0, none⟩ = some (.int .i64 p.1) ∧ w1.cell? ⟨w.heap.size, 1, none⟩ = some (.int .i64 p.2) ∧ w1.cell? ⟨w.heap.size, 2, none⟩ = some (.int .i64 m.1) ∧ w1.cell? ⟨w.heap.size, 3, none⟩ = some (.int .i64 m.2) ∧ w1.cell? ⟨w.heap.size, 4, none⟩ = some (.int .i64 t)) ∧ Sl e2 2 w1 v path ∧ Sl e2 2 w1 u more ∧ Below w.heap.size w w1 := by
  have bx := fun j u hu => (At.new w #[.int .i64 p.1, .int .i64 p.2, .int .i64 m.1, .int .i64 m.2, .int .i64 t] 117 j u hu).below b1
  have hb : Below w.heap.size w w1 := below_tr (below_alloc1 _ _) b1
  exact ⟨⟨(bx 0 _ rfl).1, (bx 1 _ rfl).1, (bx 2 _ rfl).1, (bx 3 _ rfl).1, (bx 4 _ rfl).1⟩, hs.below hb, hu.below hb, hb⟩
set_option maxRecDepth 100000 in
set_option maxHeartbeats 4000000 in
theorem wound_far (v u : Value) (path more : List Pt) (p m : Pt) (t : Int) (w : World) (hs : Sl e2 2 w v path) (hu : Sl e2 2 w u more) (hn : ¬ (0 < path.length ∧ path.length ≤ 10 ∧ more.length ≤ 10 ∧ (-3 ≤ t ∧ t ≤ 3) ∧ smB p = true ∧ smB m = true)) :
    Calls Try.prog 12 #[v, u, .agg #[.int .i64 p.1, .int .i64 p.2, .int .i64 m.1, .int .i64 m.2, .int .i64 t]] w fun e w' => e = .returned (.bool true) ∧ Below w.heap.size w w' := by
  have HS := Lib.hid hs
  have HU := Lib.hid hu
  obtain ⟨A, c, rfl, hcap⟩ := hs.form
  obtain ⟨A', c', rfl, hcap'⟩ := hu.form
  clear hs hu hcap hcap'
  by_cases h0 : path.length = 0
  · have e0 : ((path.length : Int) == 0) = true := eq0 (by omega)
    clear hn
    go_enter Try.func12, Try.ntmps12
    go_wp2_with (first
      | (go_at_call 14; refine (awakeB _).mono ?_; rintro e w1 ⟨rfl, b1⟩; have HXP : ∃ P : World → Prop, Keeps P ∧ P w1 ∧ ∀ W, P W → (W.cell? ⟨w.heap.size, 0, none⟩ = some (.int .i64 p.1) ∧ W.cell? ⟨w.heap.size, 1, none⟩ = some (.int .i64 p.2) ∧ W.cell? ⟨w.heap.size, 2, none⟩ = some (.int .i64 m.1) ∧ W.cell? ⟨w.heap.size, 3, none⟩ = some (.int .i64 m.2) ∧ W.cell? ⟨w.heap.size, 4, none⟩ = some (.int .i64 t)) ∧ Sl e2 2 W (.slice A path.length c) path ∧ Sl e2 2 W (.slice A' more.length c') more ∧ Below w.heap.size w W := ⟨_, ((keeps_cell _ _).and ((keeps_cell _ _).and ((keeps_cell _ _).and ((keeps_cell _ _).and (keeps_cell _ _))))).and ((keeps_sl _ _ _ _).and ((keeps_sl _ _ _ _).and (keeps_below _))), post_hx HS.out HU.out b1, fun _ h => h⟩; obtain ⟨P, KP, hP, HPE⟩ := HXP; have K0 := Lib.hid KP; have HPE := Lib.hid HPE; have Q1 := Lib.hid hP; clear b1 KP hP; obtain ⟨g0, g1, g2, g3, g4⟩ := (HPE.out _ Q1.out).1))
    go_ret
    exact ⟨rfl, (HPE.out _ Q1.out).2.2.2⟩
  · have e0 : ((path.length : Int) == 0) = false := eq1 (by omega)
    by_cases h1 : path.length ≤ 10
    · have d1 : ¬ (10 : Int) < (path.length : Int) := by omega
      have d1' : decide ((10 : Int) < (path.length : Int)) = false := decide_eq_false d1
      by_cases h2 : more.length ≤ 10
      · have d2 : ¬ (10 : Int) < (more.length : Int) := by omega
        have d2' : decide ((10 : Int) < (more.length : Int)) = false := decide_eq_false d2
        have HWI := Lib.hid (fun w => Within_any t (-3) 3 w)
        by_cases h3 : -3 ≤ t ∧ t ≤ 3
        · rw [inB_true h3] at HWI
          have HSP := Lib.hid (fun w => small_any p w)
          cases hp : smB p with
          | true =>
            have hm : smB m = false := by
              cases hm : smB m with
              | false => rfl
              | true => exact absurd ⟨by omega, h1, h2, h3, hp, hm⟩ hn
            rw [hp] at HSP
            have HSB := Lib.hid (fun w => small_any m w)
            rw [hm] at HSB
            have T1 : Hid True := trivial
            clear hn hp hm h0 h1 h2 h3
            go_enter Try.func12, Try.ntmps12
            go_wp2_with (first
              | (go_at_call 14; refine (awakeB _).mono ?_; rintro e w1 ⟨rfl, b1⟩; have HXP : ∃ P : World → Prop, Keeps P ∧ P w1 ∧ ∀ W, P W → (W.cell? ⟨w.heap.size, 0, none⟩ = some (.int .i64 p.1) ∧ W.cell? ⟨w.heap.size, 1, none⟩ = some (.int .i64 p.2) ∧ W.cell? ⟨w.heap.size, 2, none⟩ = some (.int .i64 m.1) ∧ W.cell? ⟨w.heap.size, 3, none⟩ = some (.int .i64 m.2) ∧ W.cell? ⟨w.heap.size, 4, none⟩ = some (.int .i64 t)) ∧ Sl e2 2 W (.slice A path.length c) path ∧ Sl e2 2 W (.slice A' more.length c') more ∧ Below w.heap.size w W := ⟨_, ((keeps_cell _ _).and ((keeps_cell _ _).and ((keeps_cell _ _).and ((keeps_cell _ _).and (keeps_cell _ _))))).and ((keeps_sl _ _ _ _).and ((keeps_sl _ _ _ _).and (keeps_below _))), post_hx HS.out HU.out b1, fun _ h => h⟩; obtain ⟨P, KP, hP, HPE⟩ := HXP; have K0 := Lib.hid KP; have HPE := Lib.hid HPE; have Q1 := Lib.hid hP; clear b1 KP hP; obtain ⟨g0, g1, g2, g3, g4⟩ := (HPE.out _ Q1.out).1)
              | (go_at_call 27; refine (HWI.out _).mono ?_; rintro e w2 ⟨rfl, rfl⟩)
              | (go_at_call 81; clear T1; refine (HSP.out _).mono ?_; rintro e w3 ⟨rfl, b3⟩; have Q3 := Lib.hid (K0.out _ _ Q1.out b3); clear b3 g0 g1 g2 g3 g4; obtain ⟨g0, g1, g2, g3, g4⟩ := (HPE.out _ Q3.out).1)
              | (go_at_call 81; refine (HSB.out _).mono ?_; rintro e w4 ⟨rfl, b4⟩; have Q4 := Lib.hid (K0.out _ _ Q3.out b4); clear b4 g0 g1 g2 g3 g4; obtain ⟨g0, g1, g2, g3, g4⟩ := (HPE.out _ Q4.out).1))
            go_ret
            exact ⟨rfl, (HPE.out _ Q4.out).2.2.2⟩
          | false =>
            rw [hp] at HSP
            have T1 : Hid True := trivial
            clear hn hp h0 h1 h2 h3
            go_enter Try.func12, Try.ntmps12
            go_wp2_with (first
              | (go_at_call 14; refine (awakeB _).mono ?_; rintro e w1 ⟨rfl, b1⟩; have HXP : ∃ P : World → Prop, Keeps P ∧ P w1 ∧ ∀ W, P W → (W.cell? ⟨w.heap.size, 0, none⟩ = some (.int .i64 p.1) ∧ W.cell? ⟨w.heap.size, 1, none⟩ = some (.int .i64 p.2) ∧ W.cell? ⟨w.heap.size, 2, none⟩ = some (.int .i64 m.1) ∧ W.cell? ⟨w.heap.size, 3, none⟩ = some (.int .i64 m.2) ∧ W.cell? ⟨w.heap.size, 4, none⟩ = some (.int .i64 t)) ∧ Sl e2 2 W (.slice A path.length c) path ∧ Sl e2 2 W (.slice A' more.length c') more ∧ Below w.heap.size w W := ⟨_, ((keeps_cell _ _).and ((keeps_cell _ _).and ((keeps_cell _ _).and ((keeps_cell _ _).and (keeps_cell _ _))))).and ((keeps_sl _ _ _ _).and ((keeps_sl _ _ _ _).and (keeps_below _))), post_hx HS.out HU.out b1, fun _ h => h⟩; obtain ⟨P, KP, hP, HPE⟩ := HXP; have K0 := Lib.hid KP; have HPE := Lib.hid HPE; have Q1 := Lib.hid hP; clear b1 KP hP; obtain ⟨g0, g1, g2, g3, g4⟩ := (HPE.out _ Q1.out).1)
              | (go_at_call 27; refine (HWI.out _).mono ?_; rintro e w2 ⟨rfl, rfl⟩)
              | (go_at_call 81; clear T1; refine (HSP.out _).mono ?_; rintro e w3 ⟨rfl, b3⟩; have Q3 := Lib.hid (K0.out _ _ Q1.out b3); clear b3 g0 g1 g2 g3 g4; obtain ⟨g0, g1, g2, g3, g4⟩ := (HPE.out _ Q3.out).1))
            go_ret
            exact ⟨rfl, (HPE.out _ Q3.out).2.2.2⟩
        · rw [inB_false h3] at HWI
          clear hn h0 h1 h2 h3
          go_enter Try.func12, Try.ntmps12
          go_wp2_with (first
            | (go_at_call 14; refine (awakeB _).mono ?_; rintro e w1 ⟨rfl, b1⟩; have HXP : ∃ P : World → Prop, Keeps P ∧ P w1 ∧ ∀ W, P W → (W.cell? ⟨w.heap.size, 0, none⟩ = some (.int .i64 p.1) ∧ W.cell? ⟨w.heap.size, 1, none⟩ = some (.int .i64 p.2) ∧ W.cell? ⟨w.heap.size, 2, none⟩ = some (.int .i64 m.1) ∧ W.cell? ⟨w.heap.size, 3, none⟩ = some (.int .i64 m.2) ∧ W.cell? ⟨w.heap.size, 4, none⟩ = some (.int .i64 t)) ∧ Sl e2 2 W (.slice A path.length c) path ∧ Sl e2 2 W (.slice A' more.length c') more ∧ Below w.heap.size w W := ⟨_, ((keeps_cell _ _).and ((keeps_cell _ _).and ((keeps_cell _ _).and ((keeps_cell _ _).and (keeps_cell _ _))))).and ((keeps_sl _ _ _ _).and ((keeps_sl _ _ _ _).and (keeps_below _))), post_hx HS.out HU.out b1, fun _ h => h⟩; obtain ⟨P, KP, hP, HPE⟩ := HXP; have K0 := Lib.hid KP; have HPE := Lib.hid HPE; have Q1 := Lib.hid hP; clear b1 KP hP; obtain ⟨g0, g1, g2, g3, g4⟩ := (HPE.out _ Q1.out).1)
            | (go_at_call 27; refine (HWI.out _).mono ?_; rintro e w2 ⟨rfl, rfl⟩))
          go_ret
          exact ⟨rfl, (HPE.out _ Q1.out).2.2.2⟩
      · have d2 : (10 : Int) < (more.length : Int) := by omega
        have d2' : decide ((10 : Int) < (more.length : Int)) = true := decide_eq_true d2
        clear hn h0 h1 h2
        go_enter Try.func12, Try.ntmps12
        go_wp2_with (first
          | (go_at_call 14; refine (awakeB _).mono ?_; rintro e w1 ⟨rfl, b1⟩; have HXP : ∃ P : World → Prop, Keeps P ∧ P w1 ∧ ∀ W, P W → (W.cell? ⟨w.heap.size, 0, none⟩ = some (.int .i64 p.1) ∧ W.cell? ⟨w.heap.size, 1, none⟩ = some (.int .i64 p.2) ∧ W.cell? ⟨w.heap.size, 2, none⟩ = some (.int .i64 m.1) ∧ W.cell? ⟨w.heap.size, 3, none⟩ = some (.int .i64 m.2) ∧ W.cell? ⟨w.heap.size, 4, none⟩ = some (.int .i64 t)) ∧ Sl e2 2 W (.slice A path.length c) path ∧ Sl e2 2 W (.slice A' more.length c') more ∧ Below w.heap.size w W := ⟨_, ((keeps_cell _ _).and ((keeps_cell _ _).and ((keeps_cell _ _).and ((keeps_cell _ _).and (keeps_cell _ _))))).and ((keeps_sl _ _ _ _).and ((keeps_sl _ _ _ _).and (keeps_below _))), post_hx HS.out HU.out b1, fun _ h => h⟩; obtain ⟨P, KP, hP, HPE⟩ := HXP; have K0 := Lib.hid KP; have HPE := Lib.hid HPE; have Q1 := Lib.hid hP; clear b1 KP hP; obtain ⟨g0, g1, g2, g3, g4⟩ := (HPE.out _ Q1.out).1))
        go_ret
        exact ⟨rfl, (HPE.out _ Q1.out).2.2.2⟩
    · have d1 : (10 : Int) < (path.length : Int) := by omega
      have d1' : decide ((10 : Int) < (path.length : Int)) = true := decide_eq_true d1
      clear hn h0 h1
      go_enter Try.func12, Try.ntmps12
      go_wp2_with (first
        | (go_at_call 14; refine (awakeB _).mono ?_; rintro e w1 ⟨rfl, b1⟩; have HXP : ∃ P : World → Prop, Keeps P ∧ P w1 ∧ ∀ W, P W → (W.cell? ⟨w.heap.size, 0, none⟩ = some (.int .i64 p.1) ∧ W.cell? ⟨w.heap.size, 1, none⟩ = some (.int .i64 p.2) ∧ W.cell? ⟨w.heap.size, 2, none⟩ = some (.int .i64 m.1) ∧ W.cell? ⟨w.heap.size, 3, none⟩ = some (.int .i64 m.2) ∧ W.cell? ⟨w.heap.size, 4, none⟩ = some (.int .i64 t)) ∧ Sl e2 2 W (.slice A path.length c) path ∧ Sl e2 2 W (.slice A' more.length c') more ∧ Below w.heap.size w W := ⟨_, ((keeps_cell _ _).and ((keeps_cell _ _).and ((keeps_cell _ _).and ((keeps_cell _ _).and (keeps_cell _ _))))).and ((keeps_sl _ _ _ _).and ((keeps_sl _ _ _ _).and (keeps_below _))), post_hx HS.out HU.out b1, fun _ h => h⟩; obtain ⟨P, KP, hP, HPE⟩ := HXP; have K0 := Lib.hid KP; have HPE := Lib.hid HPE; have Q1 := Lib.hid hP; clear b1 KP hP; obtain ⟨g0, g1, g2, g3, g4⟩ := (HPE.out _ Q1.out).1))
      go_ret
      exact ⟨rfl, (HPE.out _ Q1.out).2.2.2⟩
set_option maxRecDepth 100000 in
set_option maxHeartbeats 4000000 in
theorem wound_b1 (v u : Value) (path more : List Pt) (p m : Pt) (t : Int) (w : World) (hs : Sl e2 2 w v path) (hu : Sl e2 2 w u more) (h0 : 0 < path.length) (h1 : path.length ≤ 10) (h2 : more.length ≤ 10) (ht1 : -3 ≤ t) (ht2 : t ≤ 3) (hp : smB p = true) (hm : smB m = true) (hbad : ¬ ∀ k (h : k < path.length), smB path[k] = true) :
    Calls Try.prog 12 #[v, u, .agg #[.int .i64 p.1, .int .i64 p.2, .int .i64 m.1, .int .i64 m.2, .int .i64 t]] w fun e w' => e = .returned (.bool true) ∧ Below w.heap.size w w' := by
  have HS := Lib.hid hs
  have HU := Lib.hid hu
  obtain ⟨A, c, rfl, hcap⟩ := hs.form
  obtain ⟨A', c', rfl, hcap'⟩ := hu.form
  clear hs hu hcap hcap'
  have e0 : ((path.length : Int) == 0) = false := eq1 (by omega)
  have d1 : ¬ (10 : Int) < (path.length : Int) := by omega
  have d1' : decide ((10 : Int) < (path.length : Int)) = false := decide_eq_false d1
  have d2 : ¬ (10 : Int) < (more.length : Int) := by omega
  have d2' : decide ((10 : Int) < (more.length : Int)) = false := decide_eq_false d2
  have HWI := Lib.hid (fun w => Within_any t (-3) 3 w)
  rw [inB_true ⟨ht1, ht2⟩] at HWI
  have HSP := Lib.hid (fun w => small_any p w)
  rw [hp] at HSP
  have HSB := Lib.hid (fun w => small_any m w)
  rw [hm] at HSB
  have T1 : Hid True := trivial
  clear hp hm
  go_enter Try.func12, Try.ntmps12
  go_wp2_with (first
    | (go_at_call 14; refine (awakeB _).mono ?_; rintro e w1 ⟨rfl, b1⟩; have HXP : ∃ P : World → Prop, Keeps P ∧ P w1 ∧ ∀ W, P W → (W.cell? ⟨w.heap.size, 0, none⟩ = some (.int .i64 p.1) ∧ W.cell? ⟨w.heap.size, 1, none⟩ = some (.int .i64 p.2) ∧ W.cell? ⟨w.heap.size, 2, none⟩ = some (.int .i64 m.1) ∧ W.cell? ⟨w.heap.size, 3, none⟩ = some (.int .i64 m.2) ∧ W.cell? ⟨w.heap.size, 4, none⟩ = some (.int .i64 t)) ∧ Sl e2 2 W (.slice A path.length c) path ∧ Sl e2 2 W (.slice A' more.length c') more ∧ Below w.heap.size w W := ⟨_, ((keeps_cell _ _).and ((keeps_cell _ _).and ((keeps_cell _ _).and ((keeps_cell _ _).and (keeps_cell _ _))))).and ((keeps_sl _ _ _ _).and ((keeps_sl _ _ _ _).and (keeps_below _))), post_hx HS.out HU.out b1, fun _ h => h⟩; obtain ⟨P, KP, hP, HPE⟩ := HXP; have K0 := Lib.hid KP; have HPE := Lib.hid HPE; have Q1 := Lib.hid hP; clear b1 KP hP; obtain ⟨g0, g1, g2, g3, g4⟩ := (HPE.out _ Q1.out).1)
    | (go_at_call 27; refine (HWI.out _).mono ?_; rintro e w2 ⟨rfl, rfl⟩)
    | (go_at_call 81; clear T1; refine (HSP.out _).mono ?_; rintro e w3 ⟨rfl, b3⟩; have Q3 := Lib.hid (K0.out _ _ Q1.out b3); clear b3 g0 g1 g2 g3 g4; obtain ⟨g0, g1, g2, g3, g4⟩ := (HPE.out _ Q3.out).1)
    | (go_at_call 81; refine (HSB.out _).mono ?_; rintro e w4 ⟨rfl, b4⟩; have Q4 := Lib.hid (K0.out _ _ Q3.out b4); clear b4 g0 g1 g2 g3 g4; obtain ⟨g0, g1, g2, g3, g4⟩ := (HPE.out _ Q4.out).1))
  obtain ⟨bp, op, rfl, hq1, hq2⟩ := (HPE.out _ Q4.out).2.1.at2 (k := 0) h0
  clear hq1 hq2
  go_loopw [7] (fun i wr => ∃ k : Nat, k ≤ path.length ∧ i = .int .i64 k ∧ (∀ j, j < k → ∀ h : j < path.length, smB path[j] = true) ∧ Below w4.heap.size w4 wr) (fun i _ => path.length - (intOf i).toNat)
  case atStart => exact ⟨0, Nat.zero_le _, rfl, (fun j h => absurd h (Nat.not_lt_zero j)), Below.refl _ _⟩
  case round =>
    obtain ⟨k, hk, rfl, hall, hb⟩ := hrel
    have HB := Lib.hid hb
    have Q5 := Lib.hid (K0.out _ _ Q4.out hb)
    clear hb g0 g1 g2 g3 g4
    obtain ⟨g0, g1, g2, g3, g4⟩ := (HPE.out _ Q5.out).1
    by_cases hlt : k < path.length
    · have HSK := Lib.hid (fun w => small_any path[k] w)
      obtain ⟨_, _, ep, _, c0, c1⟩ := (HPE.out _ Q5.out).2.1.at2 (k := k) hlt
      injection ep with ep
      injection ep with ep1 ep2
      subst ep1; subst ep2
      have hkl : (k : Int) < (path.length : Int) := by omega
      have hk0 : (0 : Int) ≤ (k : Int) := by omega
      cases hsm : smB path[k] with
      | false =>
        rw [hsm] at HSK
        clear hall hbad hsm
        generalize path[k] = q at *
        obtain ⟨q1, q2⟩ := q
        simp only at c0 c1
        go_wp2_with (go_at_call 81; refine (HSK.out _).mono ?_; rintro e w5 ⟨rfl, b5⟩)
        go_ret
        exact ⟨rfl, below_tr (HPE.out _ Q5.out).2.2.2 b5⟩
      | true =>
        have hall1 : ∀ j, j < k + 1 → ∀ h : j < path.length, smB path[j] = true := fun j hj h => by
          rcases Nat.lt_or_ge j k with h' | h'
          · exact hall j h' h
          · have : j = k := by omega
            subst this; exact hsm
        have HALL := Lib.hid hall1
        clear hall hall1 hbad
        rw [hsm] at HSK
        generalize path[k] = q at *
        obtain ⟨q1, q2⟩ := q
        simp only at c0 c1
        go_wp2_with (go_at_call 81; refine (HSK.out _).mono ?_; rintro e w5 ⟨rfl, b5⟩)
        go_roundw
        case rel => exact ⟨k + 1, by omega, by go_num, HALL.out, below_tr HB.out b5⟩
        case measure => simp [intOf]; omega
    · obtain rfl : k = path.length := by omega
      exact absurd (fun k h => hall k h h) hbad
set_option maxRecDepth 100000 in
set_option maxHeartbeats 8000000 in
theorem wound_b2 (v u : Value) (path more : List Pt) (p m : Pt) (t : Int) (w : World) (hs : Sl e2 2 w v path) (hu : Sl e2 2 w u more) (h0 : 0 < path.length) (h1 : path.length ≤ 10) (h2 : more.length ≤ 10) (ht1 : -3 ≤ t) (ht2 : t ≤ 3) (hp : smB p = true) (hm : smB m = true) (hps : ∀ k (h : k < path.length), smB path[k] = true) (hbad : ¬ ∀ k (h : k < more.length), smB more[k] = true) :
    Calls Try.prog 12 #[v, u, .agg #[.int .i64 p.1, .int .i64 p.2, .int .i64 m.1, .int .i64 m.2, .int .i64 t]] w fun e w' => e = .returned (.bool true) ∧ Below w.heap.size w w' := by
  have HS := Lib.hid hs
  have HU := Lib.hid hu
  obtain ⟨A, c, rfl, hcap⟩ := hs.form
  obtain ⟨A', c', rfl, hcap'⟩ := hu.form
  clear hs hu hcap hcap'
  obtain ⟨i0, hi, hz0, hz1, hz2⟩ := info_parts ptinfo
  have e0 : ((path.length : Int) == 0) = false := eq1 (by omega)
  have d1 : ¬ (10 : Int) < (path.length : Int) := by omega
  have d1' : decide ((10 : Int) < (path.length : Int)) = false := decide_eq_false d1
  have d2 : ¬ (10 : Int) < (more.length : Int) := by omega
  have d2' : decide ((10 : Int) < (more.length : Int)) = false := decide_eq_false d2
  have HWI := Lib.hid (fun w => Within_any t (-3) 3 w)
  rw [inB_true ⟨ht1, ht2⟩] at HWI
  have HSP := Lib.hid (fun w => small_any p w)
  rw [hp] at HSP
  have HSB := Lib.hid (fun w => small_any m w)
  rw [hm] at HSB
  have T1 : Hid True := trivial
  have HPS := Lib.hid hps
  clear hp hm hps
  go_enter Try.func12, Try.ntmps12
  go_wp2_with (first
    | (go_at_call 14; refine (awakeB _).mono ?_; rintro e w1 ⟨rfl, b1⟩; have HXP : ∃ P : World → Prop, Keeps P ∧ P w1 ∧ ∀ W, P W → (W.cell? ⟨w.heap.size, 0, none⟩ = some (.int .i64 p.1) ∧ W.cell? ⟨w.heap.size, 1, none⟩ = some (.int .i64 p.2) ∧ W.cell? ⟨w.heap.size, 2, none⟩ = some (.int .i64 m.1) ∧ W.cell? ⟨w.heap.size, 3, none⟩ = some (.int .i64 m.2) ∧ W.cell? ⟨w.heap.size, 4, none⟩ = some (.int .i64 t)) ∧ Sl e2 2 W (.slice A path.length c) path ∧ Sl e2 2 W (.slice A' more.length c') more ∧ Below w.heap.size w W := ⟨_, ((keeps_cell _ _).and ((keeps_cell _ _).and ((keeps_cell _ _).and ((keeps_cell _ _).and (keeps_cell _ _))))).and ((keeps_sl _ _ _ _).and ((keeps_sl _ _ _ _).and (keeps_below _))), post_hx HS.out HU.out b1, fun _ h => h⟩; obtain ⟨P, KP, hP, HPE⟩ := HXP; have K0 := Lib.hid KP; have HPE := Lib.hid HPE; have Q1 := Lib.hid hP; clear b1 KP hP; obtain ⟨g0, g1, g2, g3, g4⟩ := (HPE.out _ Q1.out).1)
    | (go_at_call 27; refine (HWI.out _).mono ?_; rintro e w2 ⟨rfl, rfl⟩)
    | (go_at_call 81; clear T1; refine (HSP.out _).mono ?_; rintro e w3 ⟨rfl, b3⟩; have Q3 := Lib.hid (K0.out _ _ Q1.out b3); clear b3 g0 g1 g2 g3 g4; obtain ⟨g0, g1, g2, g3, g4⟩ := (HPE.out _ Q3.out).1)
    | (go_at_call 81; refine (HSB.out _).mono ?_; rintro e w4 ⟨rfl, b4⟩; have Q4 := Lib.hid (K0.out _ _ Q3.out b4); clear b4 g0 g1 g2 g3 g4; obtain ⟨g0, g1, g2, g3, g4⟩ := (HPE.out _ Q4.out).1))
  obtain ⟨bp, op, rfl, hq1, hq2⟩ := (HPE.out _ Q4.out).2.1.at2 (k := 0) h0
  clear hq1 hq2
  go_loopw [7] (fun i wr => ∃ k : Nat, k ≤ path.length ∧ i = .int .i64 k ∧ Below w4.heap.size w4 wr) (fun i _ => path.length - (intOf i).toNat)
  case atStart => exact ⟨0, Nat.zero_le _, rfl, Below.refl _ _⟩
  case round =>
    obtain ⟨k, hk, rfl, hb⟩ := hrel
    have HB := Lib.hid hb
    have Q5 := Lib.hid (K0.out _ _ Q4.out hb)
    clear hb g0 g1 g2 g3 g4
    obtain ⟨g0, g1, g2, g3, g4⟩ := (HPE.out _ Q5.out).1
    by_cases hlt : k < path.length
    · have HSK := Lib.hid (fun w => small_any path[k] w)
      obtain ⟨_, _, ep, _, c0, c1⟩ := (HPE.out _ Q5.out).2.1.at2 (k := k) hlt
      injection ep with ep
      injection ep with ep1 ep2
      subst ep1; subst ep2
      have hkl : (k : Int) < (path.length : Int) := by omega
      have hk0 : (0 : Int) ≤ (k : Int) := by omega
      have hsm : smB path[k] = true := HPS.out k hlt
      rw [hsm] at HSK
      generalize path[k] = q at *
      obtain ⟨q1, q2⟩ := q
      simp only at c0 c1
      go_wp2_with (go_at_call 81; refine (HSK.out _).mono ?_; rintro e w5 ⟨rfl, b5⟩)
      go_roundw
      case rel => exact ⟨k + 1, by omega, by go_num, below_tr HB.out b5⟩
      case measure => simp [intOf]; omega
    · obtain rfl : k = path.length := by omega
      obtain ⟨⟨a1, a2⟩, h0e⟩ : ∃ q, path[0] = q := ⟨_, rfl⟩
      obtain ⟨_, _, ep, _, c0, c1⟩ := (HPE.out _ Q5.out).2.1.at2 (k := 0) h0
      injection ep with ep
      injection ep with ep1 ep2
      subst ep1; subst ep2
      rw [h0e] at c0 c1
      simp only [Nat.zero_mul, Nat.add_zero] at c0 c1
      have hl0 : (0 : Int) < (path.length : Int) := by omega
      obtain ⟨w6, hw6⟩ : ∃ w6, w6 = wr := ⟨_, rfl⟩
      rw [← hw6] at c0 c1 g0 g1 g2 g3 g4 HB Q5
      rw [← hw6]
      clear hw6
      go_wp2_with fail
      have hlit : Ow e2 2 61 w6.heap.size (w6.alloc (.cells #[.int .i64 a1, .int .i64 a2] 61)) (.slice (some ⟨w6.heap.size, 0, none⟩) 1 1) [(a1, a2)] := Ow.lit w6 #[.int .i64 a1, .int .i64 a2] [(a1, a2)] (Nat.le_refl _) (by simp) rfl rfl
      have HLIT := Lib.hid hlit
      clear hlit c0 c1
      go_loopw [8, 9] (fun vr i wr => ∃ k : Nat, k ≤ more.length ∧ i = .int .i64 k ∧ Ow e2 2 61 w6.heap.size wr vr ((a1, a2) :: more.take k) ∧ (∀ j, j < k → ∀ h : j < more.length, smB more[j] = true) ∧ Below w6.heap.size w6 wr) (fun _ i _ => more.length - (intOf i).toNat)
      case atStart => exact ⟨0, Nat.zero_le _, rfl, HLIT.out, (fun j h => absurd h (Nat.not_lt_zero j)), below_alloc1 _ _⟩
      case round =>
        obtain ⟨k, hk, rfl, hown, hall, hb⟩ := hrel
        have HO := Lib.hid hown
        have HB2 := Lib.hid hb
        have Q6 := Lib.hid (K0.out _ _ Q5.out hb)
        clear hb hown g0 g1 g2 g3 g4
        obtain ⟨g0, g1, g2, g3, g4⟩ := (HPE.out _ Q6.out).1
        by_cases hlt : k < more.length
        · have HSK := Lib.hid (fun w => small_any more[k] w)
          have HCK := Lib.hid (fun W (h : Below wr.heap.size wr W) => (HPE.out _ (K0.out _ _ Q6.out h)).2.2.1.at2 (k := k) hlt)
          obtain ⟨bq, oq, rfl, _, c0, c1⟩ := HCK.out wr (Below.refl _ _)
          have hkl : (k : Int) < (more.length : Int) := by omega
          have hk0 : (0 : Int) ≤ (k : Int) := by omega
          cases hsm : smB more[k] with
          | false =>
            rw [hsm] at HSK
            clear hall hbad hsm
            generalize more[k] = q at *
            obtain ⟨q1, q2⟩ := q
            simp only at c0 c1
            go_wp2_with (go_at_call 81; refine (HSK.out _).mono ?_; rintro e w7 ⟨rfl, b7⟩)
            go_ret
            exact ⟨rfl, below_tr (HPE.out _ Q6.out).2.2.2 b7⟩
          | true =>
            have hall1 : ∀ j, j < k + 1 → ∀ h : j < more.length, smB more[j] = true := fun j hj h => by
              rcases Nat.lt_or_ge j k with h' | h'
              · exact hall j h' h
              · have : j = k := by omega
                subst this; exact hsm
            have HALL := Lib.hid hall1
            clear hall hall1 hbad
            rw [hsm] at HSK
            have htk : more.take (k + 1) = more.take k ++ [more[k]] := List.take_succ_eq_append_getElem hlt
            have HTK := Lib.hid htk
            have hlen : ((a1, a2) :: more.take k).length ≤ 11 := by simp only [List.length_cons]; exact Nat.succ_le_succ (Nat.le_trans (List.length_take_le _ _) (by omega))
            clear htk
            generalize more[k] = q at *
            generalize more.take k = acc at *
            obtain ⟨q1, q2⟩ := q
            simp only at c0 c1 HCK
            go_wp2_with (first
              | (go_at_call 81; refine (HSK.out _).mono ?_; rintro e w7 ⟨rfl, b7⟩; obtain ⟨_, _, eq, _, d0, d1⟩ := HCK.out w7 b7; injection eq with eq; injection eq with eq1 eq2; subst eq1; subst eq2; have HO7 := Lib.hid (HO.out.below b7); have HB7 := Lib.hid (below_tr HB2.out b7); have hz7 := HB7.out.size; clear b7 c0 c1)
              | (at_builtin; refine wpList_append_at _ rfl _ _ 107 rfl w6.heap.size 61 i0 _ 2 16 Try.underlying107 hi hz0 hz1 hz2 rfl (by decide) _ _ _ rfl (HO7.out.own.alloc _) ⟨_, 0, none⟩ 1 1 (e2 (q1, q2)) rfl rfl (cells_new _ _ _) (e2_one _) (by simp only [maxLen]; omega) (by omega) (by simp; omega) ?_; intro v1 wa hown1 hg _; have HO1 := Lib.hid (Ow.snoc hown1); have HBa := Lib.hid ((HO7.out.alloc (.cells #[.int .i64 q1, .int .i64 q2] 61)).grown hg (below_al HB7.out _) (Nat.le_refl _)); clear hown1 hg))
            go_roundw
            case rel => exact ⟨k + 1, by omega, by go_num, by rw [HTK.out]; exact HO1.out, HALL.out, HBa.out⟩
            case measure => simp [intOf]; omega
        · obtain rfl : k = more.length := by omega
          exact absurd (fun k h => hall k h h) hbad
end Go.Proofs.Ytghglgaimhfedaa
