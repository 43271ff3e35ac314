/-
  'FixReckoned': the lifted law is true.
-/
import Derived.Test.YtaafodbiigdbaaaGreatZR5b
import Derived.Test.YtaafodbiigdbaaaGreatZR5l
set_option linter.all false
namespace Go.Proofs.YtaafodbiigdbaaaGreat
open Go Go.RowKit
set_option maxRecDepth 100000

theorem k_mod {n d : Int} (h : 0 < d) (h' : d ≤ 1000000) : b_Mod n d = some (n % d) := by
  unfold b_Mod
  have e := Int.tmod_eq_emod (a := n) (b := d)
  have h1 := Int.emod_nonneg n (show d ≠ 0 by omega)
  have h2 := Int.emod_lt_of_pos n h
  rw [if_neg (by omega)]
  by_cases c : 0 ≤ n ∨ d ∣ n
  · rw [if_pos c] at e
    rw [if_neg (by omega), e]
    congr 1; omega
  · rw [if_neg c] at e
    rw [if_pos (by omega), e, wrapB (by omega) (by omega)]
    congr 1; omega
def pk (p q k : Int) : Int := p + k % (q - p + 1)
theorem pk_in {p q : Int} (k : Int) (h : p ≤ q) : p ≤ pk p q k ∧ pk p q k ≤ q := by
  unfold pk
  have h1 := Int.emod_nonneg k (show q - p + 1 ≠ 0 by omega)
  have h2 := Int.emod_lt_of_pos k (show 0 < q - p + 1 by omega)
  omega
theorem pk_mod {p q k : Int} (h : p ≤ q) (hp : -100 ≤ p) (hq : q ≤ 100) : b_Mod k (IntKind.wrap .i64 ((IntKind.wrap .i64 (q - p)) + (1 : Int))) = some (k % (q - p + 1)) := by
  rw [wrapB (x := q - p) (by omega) (by omega), wrapB (x := q - p + 1) (by omega) (by omega), k_mod (by omega) (by omega)]
theorem pk_wr {x T p q k : Int} (hx : -10000 ≤ x ∧ x ≤ 10000) (hT : 0 ≤ T ∧ T ≤ 1000) (h : p ≤ q) (hp : -100 ≤ p) (hq : q ≤ 100) : IntKind.wrap .i64 (x + (IntKind.wrap .i64 (T * (IntKind.wrap .i64 (p + k % (q - p + 1)))))) = x + T * pk p q k := by
  have h1 := pk_in k h
  rw [wrapB (x := p + k % (q - p + 1)) (by unfold pk at h1; omega) (by unfold pk at h1; omega), show p + k % (q - p + 1) = pk p q k from rfl, wr1 hx hT (by omega)]
theorem k_isIn (a b c d e f x y z : Int) : r5_IsIn a b c d e f x y z = some (decide ((a ≤ x ∧ x ≤ b) ∧ (c ≤ y ∧ y ≤ d) ∧ (e ≤ z ∧ z ≤ f))) := by
  unfold r5_IsIn r5_Sides r5_Coordinates
  simp only [Option.bind_some, x_within, decide_eq_true_eq]
  by_cases h1 : a ≤ x ∧ x ≤ b <;> by_cases h2 : c ≤ y ∧ y ≤ d <;> by_cases h3 : e ≤ z ∧ z ≤ f <;> simp [h1, h2, h3]
theorem k_inner {fu : Nat} (hf : 8 ≤ fu) (w0 w1 w2 w3 w4 w5 a b c d e f : Int) : l5_isInner fu w0 w1 w2 w3 w4 w5 a b c d e f = some (decide ((w0 < a ∧ b < w1) ∧ (w2 < c ∧ d < w3) ∧ (w4 < e ∧ f < w5))) := by
  obtain ⟨g, rfl⟩ : ∃ g, fu = g + 4 := ⟨fu - 4, by omega⟩
  unfold l5_isInner r5_Sides
  simp only [Option.bind_some, l5_isInner_L1, w01, w12, w23]
  by_cases h1 : a ≤ w0 <;> by_cases h2 : w1 ≤ b <;> by_cases h3 : c ≤ w2 <;> by_cases h4 : w3 ≤ d <;> by_cases h5 : e ≤ w4 <;> by_cases h6 : w5 ≤ f <;> simp [h1, h2, h3, h4, h5, h6] <;> omega
theorem res_ok {x : B6} (h : ordE x.1 x.2.1 x.2.2.1 x.2.2.2.1 x.2.2.2.2.1 x.2.2.2.2.2 = 0) : resC x = (x.1, x.2.1, x.2.2.1, x.2.2.2.1, x.2.2.2.2.1, x.2.2.2.2.2, 0) := if_pos h
theorem res_no {x : B6} (h : ¬ ordE x.1 x.2.1 x.2.2.1 x.2.2.2.1 x.2.2.2.2.1 x.2.2.2.2.2 = 0) : resC x = (0, 0, 0, 0, 0, 0, 12) := if_neg h
theorem cmB_in (x : B6) (w0 w1 w2 w3 w4 w5 : Int) : (w0 ≤ (cmB x w0 w1 w2 w3 w4 w5).1 ∧ (cmB x w0 w1 w2 w3 w4 w5).2.1 ≤ w1) ∧ (w2 ≤ (cmB x w0 w1 w2 w3 w4 w5).2.2.1 ∧ (cmB x w0 w1 w2 w3 w4 w5).2.2.2.1 ≤ w3) ∧ (w4 ≤ (cmB x w0 w1 w2 w3 w4 w5).2.2.2.2.1 ∧ (cmB x w0 w1 w2 w3 w4 w5).2.2.2.2.2 ≤ w5) := by
  unfold cmB cmn
  simp only
  refine ⟨⟨?_, ?_⟩, ⟨?_, ?_⟩, ?_, ?_⟩ <;> split <;> omega
theorem boxV_of {w0 w1 w2 w3 w4 w5 : Int} {l : List Bn} {a b c d e f : Int} (h1 : (netV w0 w1 w2 w3 w4 w5 l).2 = 0) (h2 : ordE a b c d e f = 0) (h3 : (w0 ≤ a ∧ b ≤ w1) ∧ (w2 ≤ c ∧ d ≤ w3) ∧ (w4 ≤ e ∧ f ≤ w5)) : boxV w0 w1 w2 w3 w4 w5 l a b c d e f = 0 := by
  unfold boxV
  rw [if_pos h1, if_pos h2, if_pos h3]
theorem k_carried {fu : Nat} (hf : 1000 ≤ fu) {w0 w1 w2 w3 w4 w5 : Int} {l : List Bn} (hl : l.length < 50) {a b c d e f T p q r s t u : Int} (hb : boxV w0 w1 w2 w3 w4 w5 l a b c d e f = 0) (hm : movE T p q r s t u = 0) : x_Carried fu w0 w1 w2 w3 w4 w5 l a b c d e f T p q r s t u = some (resC (cmB (fwd a b c d e f T p q r s t u) w0 w1 w2 w3 w4 w5)) := by
  rw [m_Carried hf _ _ _ _ _ _ _ hl, if_pos (by simp [movV, firstE, hb, hm])]
theorem movE_of {T p q r s t u : Int} (hT : 0 ≤ T ∧ T ≤ 1000) (h : (-100 ≤ p ∧ p ≤ q ∧ q ≤ 100) ∧ (-100 ≤ r ∧ r ≤ s ∧ s ≤ 100) ∧ (-100 ≤ t ∧ t ≤ u ∧ u ≤ 100)) : movE T p q r s t u = 0 := by
  unfold movE ordE
  simp only [okS6]
  rw [if_neg (by omega), if_neg (by omega)]
theorem k_carriedBack {fu : Nat} (hf : 1000 ≤ fu) {w0 w1 w2 w3 w4 w5 : Int} {l : List Bn} (hl : l.length < 50) {a b c d e f T p q r s t u : Int} (hb : boxV w0 w1 w2 w3 w4 w5 l a b c d e f = 0) (hm : movE T p q r s t u = 0) : x_CarriedBack fu w0 w1 w2 w3 w4 w5 l a b c d e f T p q r s t u = some (resC (cmB (fwd a b c d e f T (-q) (-p) (-s) (-r) (-u) (-t)) w0 w1 w2 w3 w4 w5)) := by
  obtain ⟨k1, k2, k3, k4⟩ := movE_zero hm
  unfold x_CarriedBack
  rw [m_rev (by omega), Option.bind_some]
  simp only
  rw [wrapB (x := 0 - q) (by omega) (by omega), wrapB (x := 0 - p) (by omega) (by omega), wrapB (x := 0 - s) (by omega) (by omega), wrapB (x := 0 - r) (by omega) (by omega), wrapB (x := 0 - u) (by omega) (by omega), wrapB (x := 0 - t) (by omega) (by omega), Int.zero_sub, Int.zero_sub, Int.zero_sub, Int.zero_sub, Int.zero_sub, Int.zero_sub, k_carried hf hl hb (movE_of k1 (by omega)), Option.bind_some]
theorem k_stillB {w0 w1 w2 w3 w4 w5 : Int} {a b c d e f : Int} (h : (w0 ≤ a ∧ b ≤ w1) ∧ (w2 ≤ c ∧ d ≤ w3) ∧ (w4 ≤ e ∧ f ≤ w5)) (p q r s t u : Int) : cmB (fwd a b c d e f 0 p q r s t u) w0 w1 w2 w3 w4 w5 = (a, b, c, d, e, f) := by
  unfold cmB fwd
  simp only
  rw [k_still h.1.1 h.1.2, k_still h.2.1.1 h.2.1.2, k_still h.2.2.1 h.2.2.2]
theorem k_twoB {w0 w1 w2 w3 w4 w5 : Int} {a b c d e f h k p q r s t u : Int} {O : B6} (hO : O = cmB (fwd a b c d e f h p q r s t u) w0 w1 w2 w3 w4 w5) (hi : (w0 < O.1 ∧ O.2.1 < w1) ∧ (w2 < O.2.2.1 ∧ O.2.2.2.1 < w3) ∧ (w4 < O.2.2.2.2.1 ∧ O.2.2.2.2.2 < w5)) : cmB (fwd O.1 O.2.1 O.2.2.1 O.2.2.2.1 O.2.2.2.2.1 O.2.2.2.2.2 k p q r s t u) w0 w1 w2 w3 w4 w5 = cmB (fwd a b c d e f (h + k) p q r s t u) w0 w1 w2 w3 w4 w5 := by
  subst hO
  obtain ⟨⟨i1, i2⟩, ⟨i3, i4⟩, i5, i6⟩ := hi
  unfold cmB fwd at *
  simp only at *
  rw [k_two i1 i2, k_two i3 i4, k_two i5 i6]
theorem k_loop {fu : Nat} (hf : 8 ≤ fu) (l : List Bn) (w0 w1 w2 w3 w4 w5 a b c d e f T p q r s t u x y z k0 k1 k2 : Int) (mT : 0 ≤ T ∧ T ≤ 1000) (mp : -100 ≤ p ∧ p ≤ q ∧ q ≤ 100) (mr : -100 ≤ r ∧ r ≤ s ∧ s ≤ 100) (mt : -100 ≤ t ∧ t ≤ u ∧ u ≤ 100) (hx : -10000 ≤ x ∧ x ≤ 10000) (hy : -10000 ≤ y ∧ y ≤ 10000) (hz : -10000 ≤ z ∧ z ≤ 10000) :
    l5_FixReckoned_L1 fu l w0 w1 w2 w3 w4 w5 a b c d e f T p q r s t u x y z k0 k1 k2 p q r s t u fu x y z 0 = some (x + T * pk p q k0, y + T * pk r s k1, z + T * pk t u k2) := by
  obtain ⟨g, rfl⟩ : ∃ g, fu = g + 4 := ⟨fu - 4, by omega⟩
  rw [l5_FixReckoned_L1, if_pos (by decide), if_neg (by decide), if_neg (by decide), if_pos rfl, pk_mod mp.2.1 mp.1 mp.2.2, Option.bind_some, pk_wr hx mT mp.2.1 mp.1 mp.2.2, w01]
  rw [l5_FixReckoned_L1, if_pos (by decide), if_neg (by decide), if_pos rfl, pk_mod mr.2.1 mr.1 mr.2.2, Option.bind_some, pk_wr hy mT mr.2.1 mr.1 mr.2.2, w12]
  rw [l5_FixReckoned_L1, if_pos (by decide), if_pos rfl, pk_mod mt.2.1 mt.1 mt.2.2, Option.bind_some, pk_wr hz mT mt.2.1 mt.1 mt.2.2, w23]
  rw [l5_FixReckoned_L1, if_neg (by decide)]
set_option maxHeartbeats 2000000 in
theorem l5_FixReckoned_true (w0 w1 w2 w3 w4 w5 : Int) (l : List (Int × Int × Int × Int)) (a b c d e f T p q r s t u x y z k0 k1 k2 : Int) : ∃ fu, l5_FixReckoned fu w0 w1 w2 w3 w4 w5 l a b c d e f T p q r s t u x y z k0 k1 k2 = some true := by
  refine ⟨1000, ?_⟩
  unfold l5_FixReckoned l5_awake l5_few
  simp only [Option.bind_some, if_true]
  by_cases h1 : (l.length : Int) ≤ 8
  · rw [if_pos h1, if_pos (by simp), Option.bind_some, if_pos rfl, r_box 1000 (by omega) _ _ _ _ _ _ _ (by omega), Option.bind_some]
    by_cases h2 : boxV w0 w1 w2 w3 w4 w5 l a b c d e f = 0
    · rw [if_pos h2, r_merr (by omega), Option.bind_some]
      by_cases h3 : movE T p q r s t u = 0
      · rw [if_pos h3, k_isIn, Option.bind_some]
        by_cases h4 : (a ≤ x ∧ x ≤ b) ∧ (c ≤ y ∧ y ≤ d) ∧ (e ≤ z ∧ z ≤ f)
        · rw [decide_eq_true h4, if_pos rfl]
          have hl : l.length < 50 := by omega
          have hf : 1000 ≤ 1000 := by omega
          obtain ⟨bn, bx, by', bz⟩ := boxV_zero h2
          obtain ⟨mT, mp, mr, mt⟩ := movE_zero h3
          have hc := k_carried hf hl h2 h3
          have hs := k_carried hf hl h2 (movE_of (T := 0) (by omega) ⟨mp, mr, mt⟩)
          have hh := k_carried hf hl h2 (movE_of (T := T / 2) (by omega) ⟨mp, mr, mt⟩)
          have hw : (w0 ≤ a ∧ b ≤ w1) ∧ (w2 ≤ c ∧ d ≤ w3) ∧ (w4 ≤ e ∧ f ≤ w5) := by omega
          have hB : ordE a b c d e f = 0 := by unfold ordE; rw [if_neg (by omega)]
          rw [k_stillB hw, res_ok hB] at hs
          have hT2 : IntKind.wrap .i64 (Int.tdiv T 2) = T / 2 := by rw [Int.tdiv_eq_ediv_of_nonneg mT.1, wrapB (by omega) (by omega)]
          have hT3 : IntKind.wrap .i64 (T - T / 2) = T - T / 2 := wrapB (by omega) (by omega)
          have hL := k_loop (fu := 1000) (by omega) l w0 w1 w2 w3 w4 w5 a b c d e f T p q r s t u x y z k0 k1 k2 mT mp mr mt (show -10000 ≤ x ∧ x ≤ 10000 by omega) (show -10000 ≤ y ∧ y ≤ 10000 by omega) (show -10000 ≤ z ∧ z ≤ 10000 by omega)
          unfold r5_Coordinates r5_Sides r5_CopyNet
          rw [if_pos (show (l.length : Int) < 65536 by omega)]
          simp only [Option.bind_some]
          rw [hL, Option.bind_some, hc, Option.bind_some, hs, hT2, hT3, hh, k_isIn, Option.bind_some]
          obtain ⟨pp1, pp2⟩ := pk_in k0 mp.2.1
          obtain ⟨pq1, pq2⟩ := pk_in k1 mr.2.1
          obtain ⟨pr1, pr2⟩ := pk_in k2 mt.2.1
          generalize pk p q k0 = v0 at *
          generalize pk r s k1 = v1 at *
          generalize pk t u k2 = v2 at *
          have tail : ∀ C, C = cmB (fwd a b c d e f T p q r s t u) w0 w1 w2 w3 w4 w5 → ordE C.1 C.2.1 C.2.2.1 C.2.2.2.1 C.2.2.2.2.1 C.2.2.2.2.2 = 0 → ∀ O, O = cmB (fwd a b c d e f (T / 2) p q r s t u) w0 w1 w2 w3 w4 w5 → ordE O.1 O.2.1 O.2.2.1 O.2.2.2.1 O.2.2.2.2.1 O.2.2.2.2.2 = 0 → ((w0 < O.1 ∧ O.2.1 < w1) ∧ (w2 < O.2.2.1 ∧ O.2.2.2.1 < w3) ∧ (w4 < O.2.2.2.2.1 ∧ O.2.2.2.2.2 < w5)) →
              x_Carried 1000 w0 w1 w2 w3 w4 w5 l O.1 O.2.1 O.2.2.1 O.2.2.2.1 O.2.2.2.2.1 O.2.2.2.2.2 (T - T / 2) p q r s t u = some (C.1, C.2.1, C.2.2.1, C.2.2.2.1, C.2.2.2.2.1, C.2.2.2.2.2, 0) := by
            intro C hC hC0 O hO hO0 hi
            rw [k_carried hf hl (boxV_of bn hO0 (by rw [hO]; exact cmB_in _ _ _ _ _ _ _)) (movE_of (T := T - T / 2) (by omega) ⟨mp, mr, mt⟩), k_twoB hO hi, show T / 2 + (T - T / 2) = T by omega, ← hC, res_ok hC0]
          obtain ⟨C, hC⟩ : ∃ C, C = cmB (fwd a b c d e f T p q r s t u) w0 w1 w2 w3 w4 w5 := ⟨_, rfl⟩
          obtain ⟨O, hO⟩ : ∃ O, O = cmB (fwd a b c d e f (T / 2) p q r s t u) w0 w1 w2 w3 w4 w5 := ⟨_, rfl⟩
          have tl := tail C hC
          have tl := fun h0 => tl h0 O hO
          rw [← hC, ← hO]
          by_cases h5 : (w0 ≤ x + T * v0 ∧ x + T * v0 ≤ w1) ∧ (w2 ≤ y + T * v1 ∧ y + T * v1 ≤ w3) ∧ (w4 ≤ z + T * v2 ∧ z + T * v2 ≤ w5)
          · have c0 := k_to (a := a) (b := b) mT.1 pp1 pp2 h4.1.1 h4.1.2 h5.1.1 h5.1.2
            have c1 := k_to (a := c) (b := d) mT.1 pq1 pq2 h4.2.1.1 h4.2.1.2 h5.2.1.1 h5.2.1.2
            have c2 := k_to (a := e) (b := f) mT.1 pr1 pr2 h4.2.2.1 h4.2.2.2 h5.2.2.1 h5.2.2.2
            have hC1 : (C.1 ≤ x + T * v0 ∧ x + T * v0 ≤ C.2.1) ∧ (C.2.2.1 ≤ y + T * v1 ∧ y + T * v1 ≤ C.2.2.2.1) ∧ (C.2.2.2.2.1 ≤ z + T * v2 ∧ z + T * v2 ≤ C.2.2.2.2.2) := by
              rw [hC]
              exact ⟨⟨c0.1, c0.2.1⟩, ⟨c1.1, c1.2.1⟩, c2.1, c2.2.1⟩
            have hCw := cmB_in (fwd a b c d e f T p q r s t u) w0 w1 w2 w3 w4 w5
            rw [← hC] at hCw
            have hC0 : ordE C.1 C.2.1 C.2.2.1 C.2.2.2.1 C.2.2.2.2.1 C.2.2.2.2.2 = 0 := by unfold ordE; rw [if_neg (by omega)]
            have hCb := boxV_of bn hC0 hCw
            have hk := k_carriedBack hf hl hCb h3
            have d0 := k_back (w0 := w0) (w1 := w1) mT.1 pp1 pp2 hC1.1.1 hC1.1.2 (show w0 ≤ x by omega) (show x ≤ w1 by omega)
            have d1 := k_back (w0 := w2) (w1 := w3) mT.1 pq1 pq2 hC1.2.1.1 hC1.2.1.2 (show w2 ≤ y by omega) (show y ≤ w3 by omega)
            have d2 := k_back (w0 := w4) (w1 := w5) mT.1 pr1 pr2 hC1.2.2.1 hC1.2.2.2 (show w4 ≤ z by omega) (show z ≤ w5 by omega)
            obtain ⟨D, hD⟩ : ∃ D, D = cmB (fwd C.1 C.2.1 C.2.2.1 C.2.2.2.1 C.2.2.2.2.1 C.2.2.2.2.2 T (-q) (-p) (-s) (-r) (-u) (-t)) w0 w1 w2 w3 w4 w5 := ⟨_, rfl⟩
            have hD1 : (D.1 ≤ x ∧ x ≤ D.2.1) ∧ (D.2.2.1 ≤ y ∧ y ≤ D.2.2.2.1) ∧ (D.2.2.2.2.1 ≤ z ∧ z ≤ D.2.2.2.2.2) := by
              rw [hD]
              exact ⟨d0, d1, d2⟩
            have hD0 : ordE D.1 D.2.1 D.2.2.1 D.2.2.2.1 D.2.2.2.2.1 D.2.2.2.2.2 = 0 := by unfold ordE; rw [if_neg (by omega)]
            rw [← hD, res_ok hD0] at hk
            have tl := tl hC0
            rw [res_ok hC0]
            simp only [decide_eq_true h5, if_true]
            rw [k_isIn, Option.bind_some, decide_eq_true hC1, if_pos rfl, r_box 1000 hf _ _ _ _ _ _ _ hl, Option.bind_some, if_pos hCb, hk]
            simp only [Option.bind_some, if_true]
            rw [k_isIn, Option.bind_some, decide_eq_true hD1, if_pos rfl]
            by_cases hO0 : ordE O.1 O.2.1 O.2.2.1 O.2.2.2.1 O.2.2.2.2.1 O.2.2.2.2.2 = 0
            · rw [res_ok hO0]
              simp only [if_true]
              rw [k_inner (by omega), Option.bind_some]
              by_cases hi : (w0 < O.1 ∧ O.2.1 < w1) ∧ (w2 < O.2.2.1 ∧ O.2.2.2.1 < w3) ∧ (w4 < O.2.2.2.2.1 ∧ O.2.2.2.2.2 < w5)
              · rw [decide_eq_true hi, if_pos rfl, k_inner (by omega), Option.bind_some, tl hO0 hi]
                simp only [Option.bind_some, if_true]
                split <;> rfl
              · rw [decide_eq_false hi, if_neg (by simp)]
            · rw [res_no hO0]
              simp
          · simp only [decide_eq_false h5, Bool.false_eq_true, if_false, Option.bind_some, if_true]
            by_cases hO0 : ordE O.1 O.2.1 O.2.2.1 O.2.2.2.1 O.2.2.2.2.1 O.2.2.2.2.2 = 0
            · rw [res_ok hO0]
              simp only [if_true]
              by_cases hC0 : ordE C.1 C.2.1 C.2.2.1 C.2.2.2.1 C.2.2.2.2.1 C.2.2.2.2.2 = 0
              · rw [res_ok hC0]
                simp only [if_true]
                rw [k_inner (by omega), Option.bind_some]
                by_cases hi : (w0 < O.1 ∧ O.2.1 < w1) ∧ (w2 < O.2.2.1 ∧ O.2.2.2.1 < w3) ∧ (w4 < O.2.2.2.2.1 ∧ O.2.2.2.2.2 < w5)
                · rw [decide_eq_true hi, if_pos rfl, k_inner (by omega), Option.bind_some, tl hC0 hO0 hi]
                  simp only [Option.bind_some, if_true]
                  split <;> rfl
                · rw [decide_eq_false hi, if_neg (by simp)]
              · rw [res_no hC0]
                simp
            · rw [res_no hO0]
              simp
        · rw [decide_eq_false h4, if_neg (by simp)]
      · rw [if_neg h3]
    · rw [if_neg h2]
  · rw [if_neg h1, Option.bind_some, if_neg (by simp)]
end Go.Proofs.YtaafodbiigdbaaaGreat
