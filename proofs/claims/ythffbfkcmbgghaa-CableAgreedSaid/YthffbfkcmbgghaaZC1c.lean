/-
  'CableAgreed': the lifted law is true.
-/
import Derived.Test.YthffbfkcmbgghaaZC1b
set_option linter.all false
namespace Go.Proofs.Ythffbfkcmbgghaa
open Go Go.RowKit
theorem idE_in {L i : Int} (h : 0 ≤ i ∧ i ≤ L - 1) : idE L i = 0 := by unfold idE; rw [if_pos h]
theorem rdF_in {L i lo hi : Int} (h : 0 ≤ i ∧ i ≤ L - 1) (h1 : -20000 ≤ lo) (h2 : lo ≤ hi) (h3 : hi ≤ 20000) : rdF L (i, lo, hi) = 0 := by
  unfold rdF
  rw [show idE L (i, lo, hi).1 = 0 from idE_in h, if_pos rfl]
  show rgE 20000 (lo, hi) = 0
  unfold rgE
  rw [if_pos ⟨⟨h1, by omega⟩, ⟨by show -20000 ≤ hi; omega, h3⟩⟩, if_neg (by show ¬ hi < lo; omega)]
theorem rea_run (fu : Nat) (p0 : List Lk) (p1 : List Rg) (p2 : List Int) (p3 : List Lk) (p4 p5 : Int) {u w : List Rg} (hu : u.length ≤ 10) {T : Nat → Int} (hT : ∀ k, k < u.length → (∃ y, u[k]? = some (T k, y)) ∧ -20000 ≤ T k ∧ T k ≤ 20000) : ∀ (m n i : Nat) (acc : List Lk), i + m = u.length → acc.length = i → m < n → ∃ t, l1_CableAgreed_L2 fu p0 p1 p2 p3 p4 p5 u w n acc (i : Int) = some (u, w, acc ++ t) ∧ t.length = m ∧ ∀ k, k < m → ∃ lo hi, t[k]? = some (((i + k : Nat) : Int), lo, hi) ∧ -20000 ≤ lo ∧ lo ≤ T (i + k) ∧ T (i + k) ≤ hi ∧ hi ≤ 20000
  | _, 0, _, _, _, _, h => by omega
  | 0, n + 1, i, acc, hi, _, _ => by
    rw [l1_CableAgreed_L2, if_neg (by omega)]
    exact ⟨[], by simp, rfl, fun k hk => by omega⟩
  | m + 1, n + 1, i, acc, hi, ha, hn => by
    obtain ⟨⟨y, e1⟩, b1, b2⟩ := hT i (by omega)
    obtain ⟨h1, h2, h3⟩ := at_nat e1
    have next : ∀ lo hi' : Int, -20000 ≤ lo → lo ≤ T i → T i ≤ hi' → hi' ≤ 20000 → l1_CableAgreed_L2 fu p0 p1 p2 p3 p4 p5 u w (n + 1) acc (i : Int) = l1_CableAgreed_L2 fu p0 p1 p2 p3 p4 p5 u w n (acc ++ [((i : Int), lo, hi')]) ((i + 1 : Nat) : Int) → ∃ t, l1_CableAgreed_L2 fu p0 p1 p2 p3 p4 p5 u w (n + 1) acc (i : Int) = some (u, w, acc ++ t) ∧ t.length = m + 1 ∧ ∀ k, k < m + 1 → ∃ lo hi, t[k]? = some (((i + k : Nat) : Int), lo, hi) ∧ -20000 ≤ lo ∧ lo ≤ T (i + k) ∧ T (i + k) ≤ hi ∧ hi ≤ 20000 := fun lo hi' q1 q2 q3 q4 e => by
      obtain ⟨t, t1, t2, t3⟩ := rea_run fu p0 p1 p2 p3 p4 p5 (w := w) hu hT m n (i + 1) (acc ++ [((i : Int), lo, hi')]) (by omega) (by simp [ha]) (by omega)
      refine ⟨((i : Int), lo, hi') :: t, by rw [e, t1]; simp, by simp [t2], fun k hk => ?_⟩
      cases k with
      | zero => exact ⟨lo, hi', rfl, q1, q2, q3, q4⟩
      | succ k =>
        obtain ⟨lo2, hi2, r1, r2⟩ := t3 k (by omega)
        rw [show i + 1 + k = i + (k + 1) by omega] at r1 r2
        exact ⟨lo2, hi2, by rw [List.getElem?_cons_succ]; exact r1, r2⟩
    have w1 : IntKind.wrap .i64 (T i - (i : Int)) = T i - (i : Int) := by rw [wrapB] <;> omega
    have w2 : IntKind.wrap .i64 (T i + IntKind.wrap .i64 (2 * (i : Int))) = T i + 2 * (i : Int) := by rw [wrapB (x := 2 * (i : Int)), wrapB] <;> omega
    by_cases c1 : -20000 < T i - (i : Int)
    · by_cases c2 : T i + 2 * (i : Int) < 20000
      · refine next (T i - i) (T i + 2 * i) (by omega) (by omega) (by omega) (by omega) ?_
        rw [l1_CableAgreed_L2, if_pos h2, if_pos h1, h3, Option.bind_some]; simp only []
        rw [w1, w2, if_pos c1, if_pos c2, if_pos (by omega), wrapS (by omega)]
      · refine next (T i - i) 20000 (by omega) (by omega) (by omega) (by omega) ?_
        rw [l1_CableAgreed_L2, if_pos h2, if_pos h1, h3, Option.bind_some]; simp only []
        rw [w1, w2, if_pos c1, if_neg c2, if_pos (by omega), wrapS (by omega)]
    · by_cases c2 : T i + 2 * (i : Int) < 20000
      · refine next (-20000) (T i + 2 * i) (by omega) (by omega) (by omega) (by omega) ?_
        rw [l1_CableAgreed_L2, if_pos h2, if_pos h1, h3, Option.bind_some]; simp only []
        rw [w1, w2, if_neg c1, if_pos c2, if_pos (by omega), wrapS (by omega)]
      · refine next (-20000) 20000 (by omega) (by omega) (by omega) (by omega) ?_
        rw [l1_CableAgreed_L2, if_pos h2, if_pos h1, h3, Option.bind_some]; simp only []
        rw [w1, w2, if_neg c1, if_neg c2, if_pos (by omega), wrapS (by omega)]
section
variable {fu : Nat} (hf : 1000 ≤ fu) {X Z : Int} {l : List Lk} {b : List Rg} (hl : linE X Z l = 0) (hb : boxE l b = 0) (hln : l.length < 100) (hbn : b.length < 100)
include hf hl hb hln hbn
theorem con_eq {x : List Lk} (hx : rdE l x = 0) (hxn : x.length < 100) : VX X l b x ∧ c_readingsError fu X Z l b x = some 0 ∧ c_ContradictionOf fu X Z l b x = some (match con X l b x with | some y => (y, 0) | none => ([], 12)) := by
  have v := mkVX hl hb hx
  have he : c_readingsError fu X Z l b x = some 0 := by rw [q_rd hf X Z l hln b hbn x hxn, if_pos hl, if_pos hb, hx]
  exact ⟨v, he, p_con hf v he⟩
theorem rd_one {x : List Lk} (hx : rdE l x = 0) {e : Lk} (he : e ∈ x) : rdE l [e] = 0 := by
  unfold rdE at hx ⊢
  split at hx
  · omega
  · rw [if_neg (by simp)]
    exact fstF_zero fun a ha => by
      rw [List.mem_singleton.1 ha]; exact fstF_ok hx e he
theorem l3_run {y : List Lk} (hy : rdE l y = 0) (hyn : y.length < 100) (p2 : List Int) {s : List Int} (hsn : s.length ≤ 2) (hs : ∀ (i : Nat) (q : Int), s[i]? = some q → ∃ (j : Nat) (e : Lk), q = (j : Int) ∧ y[j]? = some e ∧ (0 < A1 X l b e ↔ s.length = 1)) : ∀ (m n i : Nat), i + m = s.length → m < n → l1_CableAgreed_L3 fu l b p2 y X Z s n (i : Int) = some (.inr ())
  | _, 0, _, _, h => by omega
  | 0, n + 1, i, hi, _ => by rw [l1_CableAgreed_L3, if_neg (by omega)]
  | m + 1, n + 1, i, hi, hn => by
    have e1 : s[i]? = some (s[i]'(by omega)) := List.getElem?_eq_getElem (by omega)
    obtain ⟨h1, h2, h3⟩ := at_nat e1
    obtain ⟨j, e, q1, q2, q3⟩ := hs i _ e1
    obtain ⟨k1, k2, k3⟩ := at_nat q2
    have ce := (con_eq hf hl hb hln hbn (rd_one hf hl hb hln hbn hy (List.mem_of_getElem? q2)) (by simp)).2.2
    have ih := l3_run hy hyn p2 hsn hs m n (i + 1) (by omega) (by omega)
    have cl : r1_CopyLine X Z l = some (X, Z, l) := by unfold r1_CopyLine; rw [if_pos (by omega)]
    have cb : b_CopyRanges b = some b := by unfold b_CopyRanges; rw [if_pos (by omega)]
    rw [l1_CableAgreed_L3, if_pos h2, if_pos h1, h3, Option.bind_some, x_within, Option.bind_some, wrapB (by omega) (by omega), if_pos (by rw [q1]; exact decide_eq_true (by omega)), q1, if_pos k1, if_pos k2, k3, Option.bind_some, cl, Option.bind_some, cb, Option.bind_some]
    simp only []
    rw [ce, Option.bind_some, con_alone, wrapS (by omega)]
    by_cases c : 0 < A1 X l b e
    · rw [if_pos c]; simp only []
      rw [if_pos trivial, if_pos (by have := q3.1 c; omega)]; exact ih
    · rw [if_neg c]; simp only []
      rw [if_neg (by omega), if_neg (fun h => c (q3.2 (by omega)))]; exact ih
set_option maxRecDepth 100000 in
theorem agreed_tail (y : List Lk) (hy : rdE l y = 0) (hyn : y.length ≤ 12) (p2 : List Int) : (Option.bind (r1_CopyLine X Z l) fun r46 => Option.bind (b_CopyRanges b) fun r47 => Option.bind (r1_CopyReadings y) fun r48 => Option.bind (c_ContradictionOf fu r46.1 r46.2.1 r46.2.2 r47 r48) fun r49 => if r49.2 = (0 : Int) then (Option.bind (r1_CopyLine X Z l) fun r51 => Option.bind (b_CopyRanges b) fun r52 => Option.bind (r1_CopyReadings y) fun r53 => Option.bind (b_CopyInts r49.1) fun r54 => Option.bind (c_CheckContradiction fu r51.1 r51.2.1 r51.2.2 r52 r53 r54) fun r55 => if r55.2 = (0 : Int) then (if r55.1 < (1 : Int) then none else (if (r49.1.length : Int) < (1 : Int) then none else (if (2 : Int) < (r49.1.length : Int) then none else (Option.bind (l1_CableAgreed_L3 fu l b p2 y X Z r49.1 fu (0 : Int)) fun o60 => (match o60 with | .inl y61 => none | .inr y62 => (some true)))))) else none) else (if r49.2 = (12 : Int) then (some true) else none)) = some true := by
  have cl : r1_CopyLine X Z l = some (X, Z, l) := by unfold r1_CopyLine; rw [if_pos (by omega)]
  have cb : b_CopyRanges b = some b := by unfold b_CopyRanges; rw [if_pos (by omega)]
  have cy : r1_CopyReadings y = some y := by unfold r1_CopyReadings; rw [if_pos (by omega)]
  obtain ⟨v, he, ce⟩ := con_eq hf hl hb hln hbn hy (by omega)
  simp only [cl, cb, cy, Option.bind_some]
  rw [ce, Option.bind_some]
  cases hc : con X l b y with
  | none => simp only []; rw [if_neg (by omega), if_pos trivial]
  | some s =>
    simp only []
    rw [if_pos trivial]
    have sn : 1 ≤ s.length ∧ s.length ≤ 2 ∧ seE (y.length : Int) s = 0 ∧ 0 < far X l b y s ∧ (∀ (i : Nat) (q : Int), s[i]? = some q → ∃ (j : Nat) (e : Lk), q = (j : Int) ∧ y[j]? = some e ∧ (0 < A1 X l b e ↔ s.length = 1)) := by
      rcases con_what hc with ⟨j, a1, rfl, a2⟩ | ⟨j, k, a1, a2, rfl, a3, a4, a5⟩
      · have ej : y[j]? = some (y[j]'a1) := List.getElem?_eq_getElem a1
        refine ⟨by simp, by simp, ?_, by rw [far1]; exact a2, fun i q h => ?_⟩
        · show idE (y.length : Int) (j : Int) = 0
          unfold idE; rw [if_pos (by omega)]
        · cases i with
          | zero =>
            injection h with h; subst h
            unfold one at a2
            rw [ej] at a2
            exact ⟨j, _, rfl, ej, by simpa using a2⟩
          | succ i => simp at h
      · have ej : y[j]? = some (y[j]'(by omega)) := List.getElem?_eq_getElem (by omega)
        have ek : y[k]? = some (y[k]'a2) := List.getElem?_eq_getElem a2
        unfold one at a4 a5
        rw [ej] at a4
        rw [ek] at a5
        rw [Option.getD_some] at a4 a5
        refine ⟨by simp, by simp, ?_, by rw [far2]; exact a3, fun i q h => ?_⟩
        · rw [seE2, idE_in (by omega), if_pos rfl, idE_in (by omega), if_pos rfl, if_neg (by omega)]
        · match i, h with
          | 0, h => injection h with h; subst h; exact ⟨j, _, rfl, ej, by simp; omega⟩
          | 1, h => injection h with h; subst h; exact ⟨k, _, rfl, ek, by simp; omega⟩
          | i + 2, h => simp at h
    obtain ⟨s1, s2, s3, s4, s5⟩ := sn
    have ci : b_CopyInts s = some s := by unfold b_CopyInts; rw [if_pos (by omega)]
    have ha : ans 0 (far X l b y s) = (far X l b y s, 0) := by unfold ans; rw [if_pos rfl, if_neg (by omega)]
    rw [ci, Option.bind_some, p_chk hf v he, Option.bind_some, s3, ha]
    simp only []
    have l3 := l3_run hf hl hb hln hbn hy (by omega) p2 s2 s5 s.length fu 0 (by omega) (by omega)
    rw [show ((0 : Nat) : Int) = 0 from rfl] at l3
    rw [if_pos trivial, if_neg (by omega), if_neg (by omega), if_neg (by omega), l3]
    rfl
end
theorem x_ints1 {fu : Nat} (hf : 1000 ≤ fu) (a : Int) : b_Ints fu [a] [a] = some true := by
  obtain ⟨k, rfl⟩ : ∃ k, fu = k + 2 := ⟨fu - 2, by omega⟩
  unfold b_Ints
  rw [if_pos rfl, b_Ints_L1, if_pos (by simp), if_pos (by omega)]
  rw [show ([a] : List Int)[0 + ((0 : Int)).toNat]? = some a from rfl, Option.bind_some, if_pos (by simp), Option.bind_some, if_pos rfl, w01, b_Ints_L1, if_neg (by simp)]
  rfl
set_option maxRecDepth 100000 in
theorem l1_CableAgreed_true (X Z : Int) (l : List Lk) (b : List Rg) (p : List Int) (y : List Lk) : ∃ fu, l1_CableAgreed fu X Z l b p y = some true := by
  obtain ⟨fu, hf⟩ : ∃ fu : Nat, 1000 ≤ fu := ⟨1000, Nat.le_refl _⟩
  refine ⟨fu, ?_⟩
  unfold l1_CableAgreed
  rw [show l1_awake = some true from rfl, Option.bind_some, if_pos rfl]
  have few : l1_few X Z l (b.length : Int) = some (decide ((l.length : Int) ≤ 12 ∧ (b.length : Int) ≤ 14)) := by
    unfold l1_few
    by_cases h1 : (l.length : Int) ≤ 12
    · by_cases h2 : (b.length : Int) ≤ 14
      · rw [if_pos h1, if_pos h2, decide_eq_true ⟨h1, h2⟩]
      · rw [if_pos h1, if_neg h2, decide_eq_false (fun q => h2 q.2)]
    · rw [if_neg h1, decide_eq_false (fun q => h1 q.1)]
  rw [few, Option.bind_some]
  by_cases hfew : (l.length : Int) ≤ 12 ∧ (b.length : Int) ≤ 14
  · rw [decide_eq_true hfew, if_pos rfl]
    by_cases hp : (20 : Int) < (p.length : Int)
    · rw [if_pos hp]
    · rw [if_neg hp]
      by_cases hyn : (12 : Int) < (y.length : Int)
      · rw [if_pos hyn]
      · rw [if_neg hyn, q_rline hf X Z l (by omega), Option.bind_some]
        by_cases hl : linE X Z l = 0
        · rw [if_pos hl, q_rbox hf X Z l b (by omega), Option.bind_some]
          by_cases hb : boxE l b = 0
          · rw [if_pos hb, q_rrd hf X Z l (by omega) y (by omega), Option.bind_some]
            by_cases hy : rdE l y = 0
            · rw [if_pos hy]
              have hln : l.length < 100 := by omega
              have hbn : b.length < 100 := by omega
              have vb := (mkVX hl hb hy).vb
              have hbl := vb.bl
              have hll := vb.ll
              obtain ⟨c, c1, c2, c3⟩ := cur_run fu l p y X Z hbn (by omega) vb.bx b.length fu 0 [] (by omega) rfl (by omega)
              rw [List.nil_append, show ((0 : Nat) : Int) = 0 from rfl] at c1
              have cin : ∀ k, k < l.length → ∃ r q, b[k]? = some r ∧ c[k]? = some q ∧ r.1 ≤ q ∧ q ≤ r.2 ∧ -50 ≤ q ∧ q ≤ 50 := fun k hk => by
                have e1 : b[k]? = some (b[k]'(by omega)) := List.getElem?_eq_getElem (by omega)
                obtain ⟨q, q1, q2, q3⟩ := c3 k (by omega) _ (by rw [Nat.zero_add]; exact e1)
                obtain ⟨r1, r2, _⟩ := rgE_ok (vb.bx _ (List.getElem_mem (show k < b.length by omega)))
                exact ⟨_, q, e1, q1, q2, q3, by omega, by omega⟩
              have vs : VB X l (stl c) := by
                refine ⟨vb.ld, vb.ll, by unfold stl; rw [List.length_map]; omega, vb.lk, fun r hr => ?_⟩
                unfold stl at hr
                obtain ⟨q, hq, rfl⟩ := List.mem_map.1 hr
                obtain ⟨k, hk⟩ := List.mem_iff_getElem?.1 hq
                have hkl : k < l.length := by have := (List.getElem?_eq_some_iff.1 hk).1; omega
                obtain ⟨_, q', _, e2, _, _, e3, e4⟩ := cin k hkl
                have e2 := Option.some.inj (hk.symm.trans e2); subst e2
                unfold rgE; rw [if_pos (by omega), if_neg (by simp)]
              have hg : ∀ i, i < l.length → gL l b i ≤ gL l (stl c) i ∧ gL l (stl c) i ≤ gH l b i := fun i hi => by
                obtain ⟨e, r, h1, h2, h3, h4, _, _⟩ := vb.at hi
                obtain ⟨_, _, k⟩ := vb.lk e (List.mem_of_getElem? h1)
                obtain ⟨r', q, e1, e2, e3, e4, _⟩ := cin i hi
                rw [h2] at e1; injection e1 with e1; subst e1
                have e5 : gL l (stl c) i = e.2.2 * q := by
                  unfold gL stl; rw [h1, List.getElem?_map, e2]; rfl
                rw [e5, ← h3, ← h4]
                exact ⟨Int.mul_le_mul_of_nonneg_left e3 k.1, Int.mul_le_mul_of_nonneg_left e4 k.1⟩
              have cl : r1_CopyLine X Z l = some (X, Z, l) := by unfold r1_CopyLine; rw [if_pos (by omega)]
              have cb : b_CopyRanges b = some b := by unfold b_CopyRanges; rw [if_pos (by omega)]
              -- tensions
              obtain ⟨T, u1, u2, T1, T2, T3⟩ := ten_run hf vs X Z X Z l.length fu 0 [] Z (by omega) rfl (by omega)
              have hten : c_TensionsOf fu X Z l c = some (T, 0) := by
                unfold c_TensionsOf c_currentsError c_lineError
                obtain ⟨r, r1, r2⟩ := q_line hf X Z l hln
                rw [r1, Option.bind_some, Option.bind_some, r2, if_pos hl, if_pos (by omega), x_size fu 50 (by omega) c (by omega) (by omega), Option.bind_some]
                have hz : inE 50 c = 0 := by
                  unfold inE
                  refine fstF_zero fun q hq => ?_
                  obtain ⟨k, hk⟩ := List.mem_iff_getElem?.1 hq
                  have hkl : k < l.length := by have := (List.getElem?_eq_some_iff.1 hk).1; omega
                  obtain ⟨_, q', _, e2, _, _, e3, e4⟩ := cin k hkl
                  have e2 := Option.some.inj (hk.symm.trans e2); subst e2
                  rw [if_pos (by omega)]
                rw [hz, Option.bind_some, if_pos rfl, still_eq hf (by omega), Option.bind_some]
                unfold c_line_pulls_1 c_line_lifts_1
                rw [List.nil_append, show ((0 : Nat) : Int) = 0 from rfl] at T1
                rw [show c_line_lifts_1_L1 fu l (stl c) X Z X Z (l.length : Int) fu [] X X Z 0 = _ from T1]
                rfl
              obtain ⟨Q, q1, q2, Q1, Q2, Q3⟩ := pul_run hf vb X Z X Z l.length fu 0 [] Z (by omega) rfl (by omega)
              have hpul : c_PullsIn fu X Z l b = some (Q, 0) := by
                unfold c_PullsIn
                rw [q_box hf X Z l hln b hbn, if_pos hl, hb, Option.bind_some, if_pos rfl]
                unfold c_line_pulls_1_2 c_line_lifts_1_2
                rw [List.nil_append, show ((0 : Nat) : Int) = 0 from rfl] at Q1
                rw [show c_line_lifts_1_2_L1 fu l b X Z X Z (l.length : Int) fu [] X X Z 0 = _ from Q1]
                rfl
              -- readings
              have tb : ∀ k, k < l.length → -20000 ≤ tn (gL l (stl c)) X k ∧ tn (gL l (stl c)) X k ≤ 20000 := fun k hk => (S_in vs (show k + 1 ≤ l.length by omega)).1
              obtain ⟨x, x1, x2, x3⟩ := rea_run fu l b p y X Z (u := T) (w := Q) (T := tn (gL l (stl c)) X) (by omega) (fun k hk => ⟨by obtain ⟨z, hz⟩ := T3 k (by omega); rw [Nat.zero_add] at hz; exact ⟨z, hz⟩, tb k (by omega)⟩) T.length fu 0 [] (by omega) rfl (by omega)
              rw [List.nil_append, show ((0 : Nat) : Int) = 0 from rfl] at x1
              have hol : ∀ (i : Nat) (e : Lk), x[i]? = some e → ∃ k, Hol (gL l (stl c)) X l e k := fun i e he => by
                have hi : i < l.length := by have := (List.getElem?_eq_some_iff.1 he).1; omega
                obtain ⟨lo, hi', r1, r2, r3, r4, r5⟩ := x3 i (by omega)
                have r1 := Option.some.inj (he.symm.trans r1); subst r1
                rw [Nat.zero_add] at r3 r4
                exact ⟨i, by rw [Nat.zero_add], hi, r3, r4⟩
              have xrd : ∀ e ∈ x, rdF (l.length : Int) e = 0 := fun e he => by
                obtain ⟨i, hi⟩ := List.mem_iff_getElem?.1 he
                have hil : i < l.length := by have := (List.getElem?_eq_some_iff.1 hi).1; omega
                obtain ⟨lo, hi', r1, r2, r3, r4, r5⟩ := x3 i (by omega)
                have r1 := Option.some.inj (hi.symm.trans r1); subst r1
                exact rdF_in (by omega) r2 (by omega) r5
              have hx : rdE l x = 0 := by unfold rdE; rw [if_neg (by omega)]; exact fstF_zero xrd
              have cx : r1_CopyReadings x = some x := by unfold r1_CopyReadings; rw [if_pos (by omega)]
              have ce := (con_eq hf hl hb hln hbn hx (by omega)).2.2
              rw [con_none hg (by omega) hol] at ce
              rw [c1, Option.bind_some]
              simp only [cl, cb, Option.bind_some, hten, hpul, if_true]
              rw [if_pos (show (T.length : Int) = (b.length : Int) by omega), if_pos (show (Q.length : Int) = (b.length : Int) by omega), x1, Option.bind_some]
              simp only [cx, Option.bind_some, ce, if_true]
              have wl : IntKind.wrap .i64 ((T.length : Int) - 1) = ((l.length - 1 : Nat) : Int) := by rw [wrapB] <;> omega
              rw [wl, if_pos (by omega), if_pos (by omega)]
              have hq := Q3 (l.length - 1) (by omega)
              rw [show 0 + (l.length - 1) + 1 = l.length by omega] at hq
              rw [show 0 + (((l.length - 1 : Nat) : Int)).toNat = l.length - 1 by omega, hq, Option.bind_some]
              have tail := agreed_tail hf hl hb hln hbn y hy (by omega) p
              simp only [cl, cb, Option.bind_some] at tail
              obtain ⟨b3, b4⟩ := S_in vb (show l.length ≤ l.length from Nat.le_refl _)
              have hple : (cI l b l.length 0 (X, X)).1 ≤ 20000 := b3.2
              have hphi : -20000 ≤ (cI l b l.length 0 (X, X)).2 ∧ (cI l b l.length 0 (X, X)).2 ≤ 20000 := b4
              by_cases hm : (cI l b l.length 0 (X, X)).2 < 20000
              · rw [if_pos hm, if_pos (by omega), wrapB (x := (cI l b l.length 0 (X, X)).2 + 1) (by omega) (by omega)]
                obtain ⟨e, hee⟩ : ∃ e : Lk, e = (((l.length - 1 : Nat) : Int), (cI l b l.length 0 (X, X)).2 + 1, 20000) := ⟨_, rfl⟩
                rw [← hee]
                have hA : A1 X l b e = 1 := by
                  unfold A1
                  rw [hee]
                  simp only [Int.toNat_natCast]
                  rw [show l.length - 1 + 1 = l.length by omega]
                  unfold dI
                  simp only []
                  rw [if_pos (by omega)]; omega
                have he : rdF (l.length : Int) e = 0 := by
                  rw [hee]
                  exact rdF_in (by omega) (by omega) (by omega) (by omega)
                have hx' : rdE l (x ++ [e]) = 0 := by
                  unfold rdE; rw [if_neg (by simp; omega)]
                  refine fstF_zero fun a ha => ?_
                  rcases List.mem_append.1 ha with ha | ha
                  · exact xrd a ha
                  · rw [List.mem_singleton.1 ha]; exact he
                obtain ⟨v', he', ce'⟩ := con_eq hf hl hb hln hbn hx' (by simp; omega)
                rw [con_more hg hol (by rw [hA]; omega)] at ce'
                have cx' : r1_CopyReadings (x ++ [e]) = some (x ++ [e]) := by unfold r1_CopyReadings; rw [if_pos (by simp; omega)]
                have wx : IntKind.wrap .i64 (IntKind.wrap .i64 ((x.length : Int) + 1) - 1) = (x.length : Int) := by rw [wrapB (x := (x.length : Int) + 1), wrapB] <;> omega
                have o1 : one X l b (x ++ [e]) x.length = 1 := by
                  unfold one
                  rw [List.getElem?_append_right (Nat.le_refl _), Nat.sub_self]
                  exact hA
                have chk : c_CheckContradiction fu X Z l b (x ++ [e]) [(x.length : Int)] = some (1, 0) := by
                  rw [p_chk hf v' he', far1, o1, show seE ((x ++ [e]).length : Int) [(x.length : Int)] = 0 from by
                    show idE ((x ++ [e]).length : Int) (x.length : Int) = 0
                    unfold idE; rw [if_pos (by simp)]]
                  rfl
                simp only [cx', Option.bind_some, ce', wx, chk, x_ints1 hf, if_true]
                exact tail
              · rw [if_neg hm]
                exact tail
            · rw [if_neg hy]
          · rw [if_neg hb]
        · rw [if_neg hl]
  · rw [decide_eq_false hfew, if_neg Bool.false_ne_true]
end Go.Proofs.Ythffbfkcmbgghaa
