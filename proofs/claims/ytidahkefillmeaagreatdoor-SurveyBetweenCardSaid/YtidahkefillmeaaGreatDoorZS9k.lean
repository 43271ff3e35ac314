/-
  SurveyBetween is true.
-/
import Derived.Test.YtidahkefillmeaaGreatDoorZS9h
import Derived.Test.YtidahkefillmeaaGreatDoorZS9Be
set_option linter.all false
namespace Go.Proofs.YtidahkefillmeaaGreatDoor
open Go Go.RowKit
theorem bed_val {fu : Nat} (hf : 1000 ≤ fu) {l : List Sta} (hl : l.length < 500) (h : (ckS l).2 = 0) {x : Int} {k : Nat} {e : Sta} (k2 : l[k]? = some e) (k3 : x ≤ e.1) (k4 : ∀ (j : Nat) (q : Sta), j < k → l[j]? = some q → q.1 < x) :
    sv_BedAt fu l x = if e.1 = x then some (e.2.2.2.1, e.2.2.2.2, 0) else (if (k : Int) = 0 then some (0, 0, 6) else (if (0 : Int) ≤ (IntKind.wrap .i64 ((k : Int) - (1 : Int))) then (if (IntKind.wrap .i64 ((k : Int) - (1 : Int))) < (l.length : Int) then (Option.bind ((l)[0 + ((IntKind.wrap .i64 ((k : Int) - (1 : Int)))).toNat]?) fun e12 => Option.bind (sv_bedBetween e12.1 e12.2.1 e12.2.2.1 e12.2.2.2.1 e12.2.2.2.2 e.1 e.2.1 e.2.2.1 e.2.2.2.1 e.2.2.2.2 x) fun r13 => some (r13.1, r13.2, (0 : Int))) else Option.none) else Option.none)) := by
  have hp := ckS_sorted h
  obtain ⟨g1, g2, g3⟩ := idx k2
  unfold sv_BedAt slices_IndexFunc_SurveyStation_SurveyStation_BedAt_1
  rw [p_stations hf l hl, Option.bind_some, h, if_pos rfl]
  rcases p_index (fu := fu) l (by omega) x fu 0 (by omega) (by omega) with ⟨k', e', _, a2, a3, a4, a5⟩ | ⟨a1, _⟩
  · have : k' = k := by
      rcases Nat.lt_trichotomy k' k with c | c | c
      · have := k4 k' e' c a2; omega
      · exact c
      · have := a4 k e (by omega) c k2; omega
    subst this
    rw [show ((0 : Nat) : Int) = 0 from rfl] at a5
    simp only [a5, Option.bind_some]
    rw [if_neg (by omega), if_pos g1, g3, Option.bind_some]
  · have := a1 k e (by omega) k2; omega
theorem b_mod' (a : Int) {n : Int} (h : 0 < n ∧ n ≤ 1000000) : ∃ r, b_Mod a n = some r ∧ 0 ≤ r ∧ r < n := by
  unfold b_Mod
  rw [if_neg (by omega)]
  have h1 := Int.tmod_lt_of_pos a h.1
  have h2 : -n < Int.tmod a n := by
    have := Int.lt_tmod_of_pos a h.1
    omega
  by_cases c : Int.tmod a n < 0
  · rw [if_pos c, wrapB (by omega) (by omega)]; exact ⟨_, rfl, by omega, by omega⟩
  · rw [if_neg c]; exact ⟨_, rfl, by omega, by omega⟩
theorem mul_bd {a b A B : Int} (h1 : -A ≤ a) (h2 : a ≤ A) (h3 : 0 ≤ b) (h4 : b ≤ B) : -(A * B) ≤ a * b ∧ a * b ≤ A * B := by
  have hA : 0 ≤ A := by omega
  have e1 := Int.mul_le_mul_of_nonneg_right h2 h3
  have e2 := Int.mul_le_mul_of_nonneg_left h4 hA
  have e3 := Int.mul_le_mul_of_nonneg_right h1 h3
  rw [Int.neg_mul] at e3
  omega
theorem floor_at (a : Int) {n : Int} (hn : 0 < n ∧ n ≤ 1000000) (ha : -1000000000000 ≤ a ∧ a ≤ 1000000000000) : ∃ r, b_Floor a n = some r ∧ r * n ≤ a ∧ -1000000000001 ≤ r ∧ r ≤ 1000000000000 := by
  have h1 := Int.tmod_lt_of_pos a hn.1
  have h2 := Int.lt_tmod_of_pos a hn.1
  have h3 := Int.mul_tdiv_add_tmod a n
  have h4 : Int.tdiv a n * n = n * Int.tdiv a n := Int.mul_comm _ _
  have h5 : (Int.tdiv a n - 1) * n = n * Int.tdiv a n - n := by rw [Int.sub_mul, Int.one_mul, h4]
  have hb : -1000000000000 ≤ Int.tdiv a n ∧ Int.tdiv a n ≤ 1000000000000 := by
    have := Int.natAbs_tdiv_le_natAbs a n
    omega
  unfold b_Floor
  rw [if_neg (by omega), wrapB (x := Int.tdiv a n) (by omega) (by omega)]
  by_cases c : Int.tmod a n < 0
  · rw [if_pos c, wrapB (by omega) (by omega)]; exact ⟨_, rfl, by omega, by omega, by omega⟩
  · rw [if_neg c]; exact ⟨_, rfl, by omega, by omega, by omega⟩
theorem line_in {q e : Sta} (hq : okSt q) (he : okSt e) {n t H s : Int} (hn : e.1 - q.1 = n) (hn' : 2 ≤ n ∧ n ≤ 60) (ht : 0 < t ∧ t < n) (l1 : q.2.2.2.1 ≤ H) (l2 : H ≤ q.2.2.2.2) (l3 : e.2.2.2.1 ≤ H + s * n) (l4 : H + s * n ≤ e.2.2.2.2) :
    ∃ r : Int × Int, bwS q e (q.1 + t) = some r ∧ r.1 ≤ H + s * t ∧ H + s * t ≤ r.2 := by
  obtain ⟨q1, _, _, q4, q5, _⟩ := hq
  obtain ⟨e1, _, _, e4, e5, _⟩ := he
  have q4 := okH_at q4
  have q5 := okH_at q5
  have e4 := okH_at e4
  have e5 := okH_at e5
  have m1 := mul_bd (a := q.2.2.2.1) (b := n - t) (A := 10000) (B := 60) (by omega) (by omega) (by omega) (by omega)
  have m2 := mul_bd (a := e.2.2.2.1) (b := t) (A := 10000) (B := 60) (by omega) (by omega) (by omega) (by omega)
  have m3 := mul_bd (a := q.2.2.2.2) (b := n - t) (A := 10000) (B := 60) (by omega) (by omega) (by omega) (by omega)
  have m4 := mul_bd (a := e.2.2.2.2) (b := t) (A := 10000) (B := 60) (by omega) (by omega) (by omega) (by omega)
  have k1 := Int.mul_le_mul_of_nonneg_right l1 (show 0 ≤ n - t by omega)
  have k2 := Int.mul_le_mul_of_nonneg_right l2 (show 0 ≤ n - t by omega)
  have k3 := Int.mul_le_mul_of_nonneg_right l3 (show 0 ≤ t by omega)
  have k4 := Int.mul_le_mul_of_nonneg_right l4 (show 0 ≤ t by omega)
  have hline : H * (n - t) + (H + s * n) * t = (H + s * t) * n := by
    rw [Int.mul_sub, Int.add_mul, Int.add_mul, Int.mul_assoc, Int.mul_assoc, Int.mul_comm n t]
    omega
  unfold bwS b_Ceil
  rw [show e.1 - (q.1 + t) = n - t by omega, show q.1 + t - q.1 = t by omega, hn]
  rw [wrapB (x := q.2.2.2.1 * (n - t)) (by omega) (by omega), wrapB (x := e.2.2.2.1 * t) (by omega) (by omega), wrapB (x := q.2.2.2.1 * (n - t) + e.2.2.2.1 * t) (by omega) (by omega)]
  rw [wrapB (x := q.2.2.2.2 * (n - t)) (by omega) (by omega), wrapB (x := e.2.2.2.2 * t) (by omega) (by omega), wrapB (x := q.2.2.2.2 * (n - t) + e.2.2.2.2 * t) (by omega) (by omega), wrapB (x := 0 - (q.2.2.2.2 * (n - t) + e.2.2.2.2 * t)) (by omega) (by omega)]
  obtain ⟨r1, f1, f2, f3, f4⟩ := floor_at (q.2.2.2.1 * (n - t) + e.2.2.2.1 * t) (n := n) (by omega) (by omega)
  obtain ⟨r2, g1, g2, g3, g4⟩ := floor_at (0 - (q.2.2.2.2 * (n - t) + e.2.2.2.2 * t)) (n := n) (by omega) (by omega)
  rw [f1, g1, Option.bind_some, Option.bind_some, wrapB (by omega) (by omega)]
  refine ⟨_, rfl, ?_, ?_⟩
  · exact Int.le_of_mul_le_mul_right (show r1 * n ≤ (H + s * t) * n by omega) (show 0 < n by omega)
  · have : (0 - r2) * n = 0 - r2 * n := by rw [Int.sub_mul, Int.zero_mul]
    exact Int.le_of_mul_le_mul_right (show (H + s * t) * n ≤ (0 - r2) * n by omega) (show 0 < n by omega)
theorem bt_run {fu : Nat} (hf : 1000 ≤ fu) {q e : Sta} (hq : okSt q) (he : okSt e) (hc : (ckS [q, e]).2 = 0) {m H s : Int} (hn : e.1 - q.1 = m) (hn' : 2 ≤ m ∧ m ≤ 60) (l1 : q.2.2.2.1 ≤ H) (l2 : H ≤ q.2.2.2.2) (l3 : e.2.2.2.1 ≤ H + s * m) (l4 : H + s * m ≤ e.2.2.2.2) (hs : -50 ≤ s ∧ s ≤ 50) (p1 p2 : Int) (ht : e.2.1 = p1 ∧ e.2.2.1 = p2) (hu : q.2.1 = p1 ∧ q.2.2.1 = p2) (p5 : Int) :
    ∀ (n : Nat) (t : Int), 0 ≤ t → t ≤ m + 1 → (m + 1 - t).toNat < n → l9_SurveyBetween_L1 fu q.1 p1 p2 q.2.2.2.1 q.2.2.2.2 p5 s m H e.1 e.2.2.2.1 e.2.2.2.2 n t = some (.inr ())
  | 0, t, _, _, h => by omega
  | n + 1, t, h0, h1, h => by
    have hql : [(q.1, p1, p2, q.2.2.2.1, q.2.2.2.2), (e.1, p1, p2, e.2.2.2.1, e.2.2.2.2)] = [q, e] := by
      obtain ⟨rfl, rfl⟩ := ht
      obtain ⟨u1, u2⟩ := hu
      rw [← u1, ← u2]
      congr 1
      rw [u1, u2]
    have q1 : 0 ≤ q.1 ∧ q.1 ≤ 100000 := hq.1
    have e1 : 0 ≤ e.1 ∧ e.1 ≤ 100000 := he.1
    have hb := okH_at hq.2.2.2.1
    have hb' := okH_at hq.2.2.2.2.1
    rcases (show m < t ∨ t ≤ m by omega) with c | c
    · rw [l9_SurveyBetween_L1, if_neg (by omega)]
    · have rec' := bt_run hf hq he hc hn hn' l1 l2 l3 l4 hs p1 p2 ht hu p5 n (t + 1) (by omega) (by omega) (by omega)
      have hw : IntKind.wrap .i64 (t + 1) = t + 1 := wrapB (by omega) (by omega)
      have hx : IntKind.wrap .i64 (q.1 + t) = q.1 + t := wrapB (by omega) (by omega)
      have m1 := mul_bd (a := s) (b := t) (A := 50) (B := 60) (by omega) (by omega) (by omega) (by omega)
      have hy : IntKind.wrap .i64 (s * t) = s * t := wrapB (by omega) (by omega)
      have hz : IntKind.wrap .i64 (H + s * t) = H + s * t := wrapB (by omega) (by omega)
      rw [l9_SurveyBetween_L1, if_pos c, hql, hx, hy, hz, hw]
      by_cases c0 : t = 0
      · subst c0
        have hv := bed_val (fu := fu) hf (l := [q, e]) (x := q.1 + 0) (by simp) hc (k := 0) (e := q) rfl (by omega) (fun j _ hj => by omega)
        rw [if_pos (by omega)] at hv
        rw [hv, Option.bind_some, if_pos rfl, x_within, Option.bind_some, decide_eq_true (by rw [Int.mul_zero]; simp only; omega), if_pos rfl, if_pos rfl, if_pos rfl, if_pos rfl, if_neg (by omega)]
        exact rec'
      · by_cases cm : t = m
        · have hv := bed_val (fu := fu) hf (l := [q, e]) (x := q.1 + t) (by simp) hc (k := 1) (e := e) rfl (by omega) (fun j a hj ha => by
            obtain rfl : j = 0 := by omega
            obtain rfl : q = a := Option.some.inj ha
            omega)
          rw [if_pos (by omega)] at hv
          rw [hv, Option.bind_some, if_pos rfl, x_within, Option.bind_some, decide_eq_true (by rw [cm]; simp only; omega), if_pos rfl, if_neg c0, if_pos cm, if_pos rfl, if_pos rfl]
          exact rec'
        · have hv := bed_val (fu := fu) hf (l := [q, e]) (x := q.1 + t) (by simp) hc (k := 1) (e := e) rfl (by omega) (fun j a hj ha => by
            obtain rfl : j = 0 := by omega
            obtain rfl : q = a := Option.some.inj ha
            omega)
          have hw1 : IntKind.wrap .i64 (((1 : Nat) : Int) - 1) = 0 := by decide
          obtain ⟨r, hr, r1, r2⟩ := line_in hq he hn hn' (t := t) (by omega) l1 l2 l3 l4
          rw [if_neg (by omega), if_neg (by omega), hw1, if_pos (by omega), if_pos (by simp), show ([q, e] : List Sta)[0 + (0 : Int).toNat]? = some q from rfl, Option.bind_some, p_between hq he (by omega) (by omega), hr, Option.bind_some] at hv
          rw [hv, Option.bind_some, if_pos rfl, x_within, Option.bind_some, decide_eq_true ⟨r1, r2⟩, if_pos rfl, if_neg c0, if_neg cm]
          exact rec'
theorem l9_SurveyBetween_true (a0_0 a0_1 a0_2 a0_3 a0_4 a1_0 a1_1 a2_0 a2_1 : Int) : ∃ fu, l9_SurveyBetween fu a0_0 a0_1 a0_2 a0_3 a0_4 a1_0 a1_1 a2_0 a2_1 = some true := by
  refine ⟨1000, ?_⟩
  unfold l9_SurveyBetween l9_awake
  rw [Option.bind_some, if_pos rfl]
  obtain ⟨n, hn, n1, n2⟩ := b_mod' a1_0 (n := 59) (by omega)
  have hs := r_sta (a0_0, a0_1, a0_2, a0_3, a0_4)
  have hs : r9_StationErr a0_0 a0_1 a0_2 a0_3 a0_4 = some (stE (a0_0, a0_1, a0_2, a0_3, a0_4)) := hs
  rw [hn, Option.bind_some, hs, Option.bind_some]
  by_cases c0 : stE (a0_0, a0_1, a0_2, a0_3, a0_4) = 0
  · have hok := stE_ok c0
    obtain ⟨o1, o2, o3, o4, o5, o6, o7⟩ := id hok
    have o1 : 0 ≤ a0_0 ∧ a0_0 ≤ 100000 := o1
    have o4 : -10000 ≤ a0_3 ∧ a0_3 ≤ 10000 := o4
    have o5 : -10000 ≤ a0_4 ∧ a0_4 ≤ 10000 := o5
    have o7 : a0_3 ≤ a0_4 := o7
    have w1 : IntKind.wrap .i64 (2 + n) = 2 + n := wrapB (by omega) (by omega)
    have w2 : IntKind.wrap .i64 (a0_0 + (2 + n)) = a0_0 + (2 + n) := wrapB (by omega) (by omega)
    have w3 : IntKind.wrap .i64 (a0_4 - a0_3) = a0_4 - a0_3 := wrapB (by omega) (by omega)
    have w4 : IntKind.wrap .i64 (a0_4 - a0_3 + 1) = a0_4 - a0_3 + 1 := wrapB (by omega) (by omega)
    rw [if_pos c0, w1, w2]
    by_cases c1 : 100000 < a0_0 + (2 + n)
    · rw [if_pos c1]
    · rw [if_neg c1, x_within, Option.bind_some]
      by_cases c2 : -50 ≤ a1_1 ∧ a1_1 ≤ 50
      · obtain ⟨h, hh, h1, h2⟩ := b_mod' a2_0 (n := a0_4 - a0_3 + 1) (by omega)
        obtain ⟨u, hu, u1, u2⟩ := b_mod' a2_1 (n := 9) (by omega)
        obtain ⟨v, hv, v1, v2⟩ := b_mod' a2_1 (n := 7) (by omega)
        have m1 := mul_bd (a := a1_1) (b := 2 + n) (A := 50) (B := 60) (by omega) (by omega) (by omega) (by omega)
        have w5 : IntKind.wrap .i64 (a0_3 + h) = a0_3 + h := wrapB (by omega) (by omega)
        have w6 : IntKind.wrap .i64 (a1_1 * (2 + n)) = a1_1 * (2 + n) := wrapB (by omega) (by omega)
        have w7 : IntKind.wrap .i64 (a0_3 + h + a1_1 * (2 + n)) = a0_3 + h + a1_1 * (2 + n) := wrapB (by omega) (by omega)
        have w8 : IntKind.wrap .i64 (a0_3 + h + a1_1 * (2 + n) - u) = a0_3 + h + a1_1 * (2 + n) - u := wrapB (by omega) (by omega)
        have w9 : IntKind.wrap .i64 (a0_3 + h + a1_1 * (2 + n) + v) = a0_3 + h + a1_1 * (2 + n) + v := wrapB (by omega) (by omega)
        have hl := r_sta (a0_0 + (2 + n), a0_1, a0_2, a0_3 + h + a1_1 * (2 + n) - u, a0_3 + h + a1_1 * (2 + n) + v)
        have hl : r9_StationErr (a0_0 + (2 + n)) a0_1 a0_2 (a0_3 + h + a1_1 * (2 + n) - u) (a0_3 + h + a1_1 * (2 + n) + v) = some (stE (a0_0 + (2 + n), a0_1, a0_2, a0_3 + h + a1_1 * (2 + n) - u, a0_3 + h + a1_1 * (2 + n) + v)) := hl
        rw [decide_eq_true c2, if_pos rfl, w3, w4, hh, Option.bind_some, hu, Option.bind_some, hv, Option.bind_some, w5, w6, w7, w8, w9, hl, Option.bind_some]
        by_cases c3 : stE (a0_0 + (2 + n), a0_1, a0_2, a0_3 + h + a1_1 * (2 + n) - u, a0_3 + h + a1_1 * (2 + n) + v) = 0
        · have hck : (ckS [(a0_0, a0_1, a0_2, a0_3, a0_4), (a0_0 + (2 + n), a0_1, a0_2, a0_3 + h + a1_1 * (2 + n) - u, a0_3 + h + a1_1 * (2 + n) + v)]).2 = 0 := by
            have s1 : seE true 0 (a0_0, a0_1, a0_2, a0_3, a0_4) = 0 := by unfold seE; rw [if_pos c0, if_pos (.inl rfl)]
            have s2 : seE false a0_0 (a0_0 + (2 + n), a0_1, a0_2, a0_3 + h + a1_1 * (2 + n) - u, a0_3 + h + a1_1 * (2 + n) + v) = 0 := by
              unfold seE; rw [if_pos c3, if_pos (.inr (by show a0_0 < a0_0 + (2 + n); omega))]
            unfold ckS
            rw [if_neg (by simp)]
            unfold chS
            rw [if_pos s1]
            unfold chS
            rw [if_pos s2]; rfl
          have := bt_run (fu := 1000) (Nat.le_refl _) hok (stE_ok c3) hck (m := 2 + n) (H := a0_3 + h) (s := a1_1) (by show a0_0 + (2 + n) - a0_0 = 2 + n; omega) (by omega) (by show a0_3 ≤ a0_3 + h; omega) (by show a0_3 + h ≤ a0_4; omega) (by show a0_3 + h + a1_1 * (2 + n) - u ≤ _; omega) (by show _ ≤ a0_3 + h + a1_1 * (2 + n) + v; omega) c2 a0_1 a0_2 ⟨rfl, rfl⟩ ⟨rfl, rfl⟩ a1_0 1000 0 (by omega) (by omega) (by omega)
          have this : l9_SurveyBetween_L1 1000 a0_0 a0_1 a0_2 a0_3 a0_4 a1_0 a1_1 (2 + n) (a0_3 + h) (a0_0 + (2 + n)) (a0_3 + h + a1_1 * (2 + n) - u) (a0_3 + h + a1_1 * (2 + n) + v) 1000 0 = some (.inr ()) := this
          rw [if_pos c3, this]; rfl
        · rw [if_neg c3]
      · rw [decide_eq_false c2]; rfl
  · rw [if_neg c0]
end Go.Proofs.YtidahkefillmeaaGreatDoor
