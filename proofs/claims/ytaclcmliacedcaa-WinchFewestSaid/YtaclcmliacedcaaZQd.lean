/-
  The law of the fewest ticks, as a Lean function, is true.
-/
import Derived.Test.YtaclcmliacedcaaZQc
import Derived.Test.YtaclcmliacedcaaZQb
set_option linter.all false
namespace Go.Proofs.Ytaclcmliacedcaa
open Go Go.RowKit
set_option maxRecDepth 100000
set_option maxHeartbeats 4000000

theorem p_limsErr (V P : Int) : r2_LimitsErr V P = some (limsE V P) := by
  unfold r2_LimitsErr
  rw [p_within, Option.bind_some, p_within, Option.bind_some]
  rcases lims_cases V P with ⟨h, a, b, c, d⟩ | ⟨h, q⟩
  · rw [h, if_pos (decide_eq_true ⟨a, b⟩), if_pos (decide_eq_true ⟨c, d⟩)]
  · rw [h]
    by_cases c1 : 1 ≤ V ∧ V ≤ 100
    · rw [if_pos (decide_eq_true c1), if_neg (by rw [decide_eq_true_eq]; exact fun c => q ⟨c1, c⟩)]
    · rw [if_neg (by rw [decide_eq_true_eq]; exact c1)]
theorem p_distErr (D : Int) : r2_DistanceErr D = some (diE D) := by
  unfold r2_DistanceErr diE
  rw [p_within, Option.bind_some]
  by_cases c : 0 ≤ D ∧ D ≤ 10000
  · rw [if_pos (decide_eq_true c), limE_zero.2 c]
  · rw [if_neg (by rw [decide_eq_true_eq]; exact c), limE_two c]
theorem p_profileFor (fu : Nat) (hf : 1000 ≤ fu) (V P D : Int) : w_ProfileFor fu V P D = some (if (tkF V P D).2 = 0 then (pr V P (tkF V P D).1.toNat 0 D, 0) else ([], (tkF V P D).2)) := by
  unfold w_ProfileFor
  rw [p_ticksFor fu hf, Option.bind_some]
  by_cases h : (tkF V P D).2 = 0
  · rw [if_pos h, if_pos h]
    have hx : ∃ x : Nat, x ≤ 200 ∧ (tkF V P D).1 = (x : Int) ∧ Lim V P ∧ 0 ≤ D ∧ D ≤ 10000 := by
      unfold tkF at h ⊢
      by_cases c : tkE V P D = 0
      · rw [if_pos c] at h ⊢
        have hl : Lim V P ∧ diE D = 0 := by
          unfold tkE firstE firstE firstE at c
          rcases lims_cases V P with ⟨h0, L⟩ | ⟨h0, _⟩
          · rw [h0, if_pos rfl] at c
            refine ⟨L, ?_⟩
            by_cases c2 : diE D = 0
            · exact c2
            · rw [if_neg c2] at c; exact c
          · rw [h0, if_neg (by decide)] at c; exact absurd c (by decide)
        have hd := limE_zero.1 hl.2
        cases ht : tk D V P 201 0 with
        | none => rw [ht] at h; exact absurd h (by decide)
        | some x =>
          have := (tk_ok ht).1
          exact ⟨x, by omega, rfl, hl.1, hd.1, hd.2⟩
      · rw [if_neg c] at h; exact absurd h c
    obtain ⟨x, hx1, hx2, L, d0, d1⟩ := hx
    rw [hx2, if_pos (by omega), if_pos (by omega), Int.toNat_natCast]
    have e := p_prog fu hf L hx1 fu 0 [] 0 D rfl (by omega) (by omega) (by omega) (by omega) d0 d1
    rw [List.nil_append, List.nil_append, Nat.sub_zero, show ((0 : Nat) : Int) = 0 from rfl] at e
    rw [e]; rfl
  · rw [if_neg h, if_neg h]
theorem tkF_ex {V P D : Int} (L : Lim V P) (d0 : 0 ≤ D) (d1 : D ≤ 10000) {s : Nat} (hs : s ≤ 200) (h : D ≤ fa 0 P V s s) : ∃ x : Nat, x ≤ s ∧ tkF V P D = ((x : Int), 0) ∧ D ≤ fa 0 P V x x := by
  obtain ⟨x, h1, h2⟩ := tk_ex (m := 201) (t := 0) (Nat.zero_le s) (by omega) h
  refine ⟨x, h1, ?_, (tk_ok h2).2⟩
  have q : tkE V P D = 0 := by
    unfold tkE firstE firstE firstE diE
    rcases lims_cases V P with ⟨a, _⟩ | ⟨_, a⟩
    · rw [a, if_pos rfl, limE_zero.2 ⟨d0, d1⟩]; rfl
    · exact absurd ⟨⟨L.v1, L.v2⟩, L.p1, L.p2⟩ a
  unfold tkF
  rw [if_pos q, h2]
theorem tkF_cases {V P D : Int} (L : Lim V P) (d0 : 0 ≤ D) (d1 : D ≤ 10000) : (∃ x : Nat, x ≤ 200 ∧ tkF V P D = ((x : Int), 0) ∧ D ≤ fa 0 P V x x) ∨ tkF V P D = (0, 8) := by
  have q : tkE V P D = 0 := by
    unfold tkE firstE firstE firstE diE
    rcases lims_cases V P with ⟨a, _⟩ | ⟨_, a⟩
    · rw [a, if_pos rfl, limE_zero.2 ⟨d0, d1⟩]; rfl
    · exact absurd ⟨⟨L.v1, L.v2⟩, L.p1, L.p2⟩ a
  unfold tkF
  rw [if_pos q]
  cases h : tk D V P 201 0 with
  | none => exact .inr rfl
  | some x =>
    have := tk_ok h
    exact .inl ⟨x, by omega, rfl, this.2⟩
theorem sum_nn {V P : Int} (L : Lim V P) {l : List Int} (h : okP V P l 0) : 0 ≤ sumL l := by
  have := sum_sh L h (by omega)
  rw [sh_zero L.p1] at this; exact this
theorem p_copy (l : List Int) (h : l.length < 60000) : b_CopyInts l = some l := by
  unfold b_CopyInts; rw [if_pos (by omega)]
theorem before_L (fu : Nat) (a b : List Int) (hl : a.length = b.length) (h1000 : a.length < 1000) : ∀ n i, i ≤ a.length → a.length - i < n → notB (a.drop i) (b.drop i) → ∃ x, b_Before_L1 fu a b n ((i : Nat) : Int) = some x ∧ (x = .inl false ∨ x = .inr ())
  | 0, i, _, h, _ => by omega
  | n + 1, i, hi, h, hn => by
    rw [b_Before_L1]
    rcases Nat.lt_or_ge i a.length with h1 | h1
    · have h2 : i < b.length := by omega
      obtain ⟨x1, x2, x3⟩ := idx (List.getElem?_eq_getElem h1)
      obtain ⟨y1, y2, y3⟩ := idx (List.getElem?_eq_getElem h2)
      rw [List.drop_eq_getElem_cons h1, List.drop_eq_getElem_cons h2, notB] at hn
      rw [if_pos x1, if_pos y1, if_pos x2, x3, Option.bind_some, y3, Option.bind_some]
      by_cases c : a[i] = b[i]
      · rw [if_pos c, wrapS (by omega)]
        rcases hn with hn | ⟨_, hn⟩
        · omega
        · exact before_L fu a b hl h1000 n (i + 1) (by omega) (by omega) hn
      · rcases hn with hn | ⟨hn, _⟩
        · rw [if_neg c, if_neg (by omega)]; exact ⟨_, rfl, .inl rfl⟩
        · exact absurd hn c
    · rw [if_neg (by omega)]; exact ⟨_, rfl, .inr rfl⟩
theorem before_no (fu : Nat) (hf : 1000 ≤ fu) (a b : List Int) (hl : a.length = b.length) (h1000 : a.length < 1000) (h : notB a b) : b_Before fu a b = some false := by
  unfold b_Before
  obtain ⟨x, e, hx⟩ := before_L fu a b hl h1000 fu 0 (by omega) (by omega) (by rw [List.drop_zero, List.drop_zero]; exact h)
  rw [show ((0 : Nat) : Int) = 0 from rfl] at e
  rw [e, Option.bind_some]
  rcases hx with rfl | rfl
  · rfl
  · simp only
    rw [if_neg (by omega)]
theorem fewest_rest (fu : Nat) (hf : 1000 ≤ fu) {V P : Int} (L : Lim V P) (h0 : limsE V P = 0) (l : List Int) (hl : l.length ≤ 200) : (Option.bind (b_CopyInts l) fun r28 => Option.bind (w_CheckProfile fu V P r28) fun r29 => if r29.2 = (0 : Int) then (if (10000 : Int) < r29.1 then (some true) else (Option.bind (w_TicksFor fu V P r29.1) fun r32 => Option.bind (w_ProfileFor fu V P r29.1) fun r33 => if r32.2 = (0 : Int) then (if r33.2 = (0 : Int) then (if (l.length : Int) < r32.1 then (some false) else (if r32.1 < (l.length : Int) then (some true) else (Option.bind (b_Before fu r33.1 l) fun r38 => if r38 = true then (some false) else (some true)))) else (some false)) else (some false))) else (some true)) = some true := by
  rw [p_copy l (by omega), Option.bind_some, p_check fu hf V P l (by omega), Option.bind_some, if_pos h0]
  by_cases h : (cpE V P l).2 = 0
  · obtain ⟨-, hok, hsum⟩ := cpE_inv h
    have hnn := sum_nn L hok
    rw [if_pos h, hsum]
    by_cases c : (10000 : Int) < sumL l
    · rw [if_pos c]
    · rw [if_neg c]
      obtain ⟨x, x1, x2, x3⟩ := tkF_ex L hnn (by omega) hl (sum_fa L.p1 hok)
      rw [p_ticksFor fu hf, Option.bind_some, p_profileFor fu hf, Option.bind_some, x2]
      simp only [if_true, Int.toNat_natCast]
      rw [if_neg (by omega)]
      rcases Nat.lt_or_ge x l.length with c2 | c2
      · rw [if_pos (by omega)]
      · have ex : x = l.length := by omega
        subst ex
        rw [if_neg (by omega), before_no fu hf _ _ (by rw [pr_len]) (by rw [pr_len]; omega) (pr_lex L l 0 (sumL l) hl (by omega) (by have := L.v1; omega) hnn x3 hok rfl)]
        rfl
  · rw [if_neg h]
theorem fewest_ch (fu : Nat) (hf : 1000 ≤ fu) {V P W Q D u : Int} (L : Lim V P) (L2 : Lim W Q) (hV : V ≤ W) (hP : P ≤ Q) (h0 : limsE V P = 0) (l : List Int) (hl : l.length ≤ 200) (d0 : 0 ≤ D) (d1 : D ≤ 10000) {x : Nat} (hx : x ≤ 200) (h3 : D ≤ fa 0 P V x x) (r10 r16 r17 : Int × Int) (r11 : List Int × Int) (e10 : r10 = ((x : Int), 0)) (e11 : r11 = (pr V P x 0 D, 0)) (e16 : r16 = (D, 0)) (e17 : r17 = (u, 0)) (hu : u ≤ (x : Int)) : (Option.bind (w_TicksFor fu W Q D) fun r20 => if r16.2 = (0 : Int) then (if r16.1 = D then (if (r11.1.length : Int) = r10.1 then (if r17.2 = (0 : Int) then (if r10.1 < r17.1 then (some false) else (if r20.2 = (0 : Int) then (if r10.1 < r20.1 then (some false) else (Option.bind (b_CopyInts l) fun r28 => Option.bind (w_CheckProfile fu V P r28) fun r29 => if r29.2 = (0 : Int) then (if (10000 : Int) < r29.1 then (some true) else (Option.bind (w_TicksFor fu V P r29.1) fun r32 => Option.bind (w_ProfileFor fu V P r29.1) fun r33 => if r32.2 = (0 : Int) then (if r33.2 = (0 : Int) then (if (l.length : Int) < r32.1 then (some false) else (if r32.1 < (l.length : Int) then (some true) else (Option.bind (b_Before fu r33.1 l) fun r38 => if r38 = true then (some false) else (some true)))) else (some false)) else (some false))) else (some true))) else (some false))) else (some false)) else (some false)) else (some false)) else (some false)) = some true := by
  obtain ⟨y, y1, y2, -⟩ := tkF_ex L2 d0 d1 hx (Int.le_trans h3 (fa_lim L.p1 hV hP x (Nat.le_refl _)))
  have rest := fewest_rest fu hf L h0 l hl
  subst e10; subst e11; subst e16; subst e17
  rw [p_ticksFor fu hf, Option.bind_some, y2]
  simp only [if_true, pr_len]
  rw [if_neg (by omega), if_neg (by omega)]
  exact rest
theorem l2_WinchFewest_true (V P : Int) (l : List Int) (D less : Int) : ∃ fu, l2_WinchFewest fu V P l D less = some true := by
  refine ⟨2000, ?_⟩
  generalize hfu : 2000 = fu
  have hf1 : 1000 ≤ fu := by omega
  clear hfu
  unfold l2_WinchFewest l2_awake
  rw [Option.bind_some, if_pos rfl]
  by_cases h200 : (200 : Int) < (l.length : Int)
  · rw [if_pos h200]
  · rw [if_neg h200, p_limsErr, Option.bind_some]
    have hl : l.length ≤ 200 := by omega
    rcases lims_cases V P with ⟨h0, L⟩ | ⟨h0, -⟩
    · rw [if_pos h0, p_distErr, Option.bind_some]
      by_cases hd : diE D = 0
      · have hd2 := limE_zero.1 hd
        rw [if_pos hd, p_within, Option.bind_some]
        by_cases hw : 0 ≤ less ∧ less ≤ D
        · have rest := fewest_rest fu hf1 L h0 l hl
          have L' := L
          obtain ⟨v1, v2, p1, p2⟩ := L'
          rw [if_pos (decide_eq_true hw), p_ticksFor fu hf1, Option.bind_some, p_profileFor fu hf1, Option.bind_some]
          rcases tkF_cases L hd2.1 hd2.2 with ⟨x, x1, x2, x3⟩ | x2
          · rw [x2]
            obtain ⟨u, u1, u2, -⟩ := tkF_ex L hw.1 (by omega) x1 (show less ≤ fa 0 P V x x by omega)
            have ok := pr_ok L x 0 D x1 (by omega) (by omega) hd2.1 x3 (by rw [sh_zero p1]; omega) (fun _ => by omega)
            have ce : cpE V P (pr V P x 0 D) = (D, 0) := by rw [cpE_ok (by rw [pr_len]; omega) ok.1, ok.2]
            rw [if_pos rfl, Int.toNat_natCast, if_pos rfl, if_pos rfl, p_copy _ (by rw [pr_len]; omega), Option.bind_some, p_check fu hf1 V P _ (by rw [pr_len]; omega), Option.bind_some, if_pos h0, ce, p_ticksFor fu hf1, Option.bind_some, u2, wrapB (x := V + 1) (by omega) (by omega), wrapB (x := P + 1) (by omega) (by omega)]
            by_cases c1 : V + 1 < 100
            · rw [if_pos c1]
              by_cases c2 : P + 1 < 100
              · rw [if_pos c2]
                exact fewest_ch fu hf1 L (W := V + 1) (Q := P + 1) ⟨by omega, by omega, by omega, by omega⟩ (by omega) (by omega) h0 l hl hd2.1 hd2.2 x1 x3 _ _ _ _ rfl rfl rfl rfl (by omega)
              · rw [if_neg c2]
                exact fewest_ch fu hf1 L (W := V + 1) (Q := 100) ⟨by omega, by omega, by omega, by omega⟩ (by omega) (by omega) h0 l hl hd2.1 hd2.2 x1 x3 _ _ _ _ rfl rfl rfl rfl (by omega)
            · rw [if_neg c1]
              by_cases c2 : P + 1 < 100
              · rw [if_pos c2]
                exact fewest_ch fu hf1 L (W := 100) (Q := P + 1) ⟨by omega, by omega, by omega, by omega⟩ (by omega) (by omega) h0 l hl hd2.1 hd2.2 x1 x3 _ _ _ _ rfl rfl rfl rfl (by omega)
              · rw [if_neg c2]
                exact fewest_ch fu hf1 L (W := 100) (Q := 100) ⟨by omega, by omega, by omega, by omega⟩ (by omega) (by omega) h0 l hl hd2.1 hd2.2 x1 x3 _ _ _ _ rfl rfl rfl rfl (by omega)
          · rw [x2]
            have e8 : (if (((0 : Int), (8 : Int)) : Int × Int).2 = 0 then (pr V P (((0 : Int), (8 : Int)) : Int × Int).1.toNat 0 D, (0 : Int)) else ([], (((0 : Int), (8 : Int)) : Int × Int).2)) = ([], 8) := if_neg (by decide)
            rw [e8, if_pos rfl, if_neg (by decide), if_pos rfl]
            exact rest
        · rw [if_neg (by rw [decide_eq_true_eq]; exact hw)]
      · rw [if_neg hd]
    · rw [if_neg (by rw [h0]; decide)]
end Go.Proofs.Ytaclcmliacedcaa
