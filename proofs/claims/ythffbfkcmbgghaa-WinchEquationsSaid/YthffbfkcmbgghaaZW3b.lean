/-
  'WinchEquations': the law's loops.
-/
import Derived.Test.YthffbfkcmbgghaaZW3s
import Derived.Test.YthffbfkcmbgghaaZW3l
set_option linter.all false
namespace Go.Proofs.Ythffbfkcmbgghaa
open Go Go.RowKit
theorem smpE_zero {l : List Int} (h1 : 4 ≤ l.length) (h2 : l.length ≤ 20) (hs : smallL l) : smpE l = 0 := by
  unfold smpE
  rw [if_neg (by omega), if_neg (by omega), if_pos]
  exact List.all_eq_true.2 fun x hx => by have := hs x hx; simpa using this
theorem at0_app {l : List Int} {x : Int} {i : Nat} (h : i < l.length) : at0 (l ++ [x]) i = at0 l i := by
  unfold at0; rw [List.getElem?_append_left h]
theorem at0_last (l : List Int) (x : Int) : at0 (l ++ [x]) l.length = x := by
  unfold at0; rw [List.getElem?_append_right (Nat.le_refl _), Nat.sub_self]; rfl
theorem own_run (fu : Nat) (p0 : List Int) {a b : Int} (ha : -3 ≤ a ∧ a ≤ 3) (hb : -3 ≤ b ∧ b ≤ 3) (p3 p4 : Int) {c : Int} (hc : c ≤ 20) : ∀ (m n : Nat) (v : List Int), v.length + m = 20 → m < n → 2 ≤ v.length → smallL v → Rec v a b → ∃ r, l2_WinchEquations_L1 fu p0 a b p3 p4 c n v = some r ∧ 2 ≤ r.length ∧ r.length ≤ 20 ∧ smallL r ∧ Rec r a b
  | _, 0, _, _, h, _, _, _ => by omega
  | m, n + 1, v, hv, hn, h2, hs, hr => by
    rw [l2_WinchEquations_L1]
    by_cases c1 : (v.length : Int) < c
    · obtain ⟨a1, a2, a3⟩ := ix (l := v) (i := v.length - 1) (by omega) (by omega) (x := IntKind.wrap .i64 ((v.length : Int) - 1)) (by rw [wrapB] <;> omega)
      obtain ⟨b1, b2, b3⟩ := ix (l := v) (i := v.length - 2) (by omega) (by omega) (x := IntKind.wrap .i64 ((v.length : Int) - 2)) (by rw [wrapB] <;> omega)
      rw [if_pos c1, if_pos a1, if_pos a2, a3, Option.bind_some, if_pos b1, if_pos b2, b3, Option.bind_some]
      have m1 := mulB ha (at_in hs (v.length - 1))
      have m2 := mulB hb (at_in hs (v.length - 2))
      rw [wrapB (x := a * at0 v (v.length - 1)) (by omega) (by omega), wrapB (x := b * at0 v (v.length - 2)) (by omega) (by omega), wrapB (x := a * at0 v (v.length - 1) + b * at0 v (v.length - 2)) (by omega) (by omega), within_eq, Option.bind_some]
      generalize hx : a * at0 v (v.length - 1) + b * at0 v (v.length - 2) = x at *
      by_cases c2 : -100 ≤ x ∧ x ≤ 100
      · rw [decide_eq_true c2, if_pos rfl, if_pos (by omega)]
        obtain ⟨m', rfl⟩ : ∃ m', m = m' + 1 := ⟨m - 1, by omega⟩
        refine own_run fu p0 ha hb p3 p4 hc m' n (v ++ [x]) (by simp; omega) (by omega) (by simp; omega) (fun y hy => ?_) (fun k hk => ?_)
        · rcases List.mem_append.1 hy with hy | hy
          · exact hs y hy
          · rw [List.mem_singleton.1 hy]; exact c2
        · rw [List.length_append, List.length_singleton] at hk
          by_cases e : k + 2 = v.length
          · rw [e, at0_last, at0_app (by omega), at0_app (by omega), ← hx, show k + 1 = v.length - 1 by omega, show k = v.length - 2 by omega]
          · rw [at0_app (by omega), at0_app (by omega), at0_app (by omega)]; exact hr k (by omega)
      · rw [decide_eq_false c2, if_neg Bool.false_ne_true]
        exact ⟨v, rfl, h2, by omega, hs, hr⟩
    · rw [if_neg c1]
      exact ⟨v, rfl, h2, by omega, hs, hr⟩
theorem mis_in {l : List Int} (hs : smallL l) {a b : Int} (ha : -3 ≤ a ∧ a ≤ 3) (hb : -3 ≤ b ∧ b ≤ 3) (k : Nat) : (-300 ≤ a * at0 l (k + 1) ∧ a * at0 l (k + 1) ≤ 300) ∧ (-300 ≤ b * at0 l k ∧ b * at0 l k ≤ 300) := by
  have m1 := mulB ha (at_in hs (k + 1))
  have m2 := mulB hb (at_in hs k)
  omega
theorem sqs_in {l : List Int} (hs : smallL l) {a b : Int} (ha : -3 ≤ a ∧ a ≤ 3) (hb : -3 ≤ b ∧ b ≤ 3) : ∀ k : Nat, -(490000 * (k : Int)) ≤ sqs l a b k ∧ sqs l a b k ≤ 490000 * (k : Int)
  | 0 => by unfold sqs; omega
  | k + 1 => by
    have := sqs_in hs ha hb k
    have m := mis_in hs ha hb k
    have h := at_in hs (k + 2)
    have := mulB (m := 700) (n := 700) (x := at0 l (k + 2) - a * at0 l (k + 1) - b * at0 l k) (y := at0 l (k + 2) - a * at0 l (k + 1) - b * at0 l k) (by omega) (by omega)
    unfold sqs
    omega
theorem sq_run (fu : Nat) {l : List Int} (hs : smallL l) (hl : l.length ≤ 22) {a b : Int} (ha : -3 ≤ a ∧ a ≤ 3) (hb : -3 ≤ b ∧ b ≤ 3) (p3 p4 p5 p6 p7 p8 p9 p10 : Int) {N : Nat} (hN : N + 2 = l.length) : ∀ (m n k : Nat), k + m = N → m < n → l2_WinchEquations_L2 fu l a b p3 p4 p5 p6 p7 p8 p9 p10 n (sqs l a b k) ((k : Int) + 2) = some (sqs l a b N)
  | _, 0, _, _, hn => by omega
  | 0, n + 1, k, h, _ => by
    have : k = N := by omega
    subst this
    rw [l2_WinchEquations_L2, if_neg (by omega)]
  | m + 1, n + 1, k, h, hn => by
    obtain ⟨c1, c2, c3⟩ := ix (l := l) (i := k + 2) (by omega) hl (x := (k : Int) + 2) (by omega)
    obtain ⟨a1, a2, a3⟩ := ix (i := k + 1) (by omega) hl (x := IntKind.wrap .i64 ((k : Int) + 2 - 1)) (by rw [wrapB] <;> omega)
    obtain ⟨b1, b2, b3⟩ := ix (i := k) (by omega) hl (x := IntKind.wrap .i64 ((k : Int) + 2 - 2)) (by rw [wrapB] <;> omega)
    have mi := mis_in hs ha hb k
    have hh := at_in hs (k + 2)
    have ms := mulB (m := 700) (n := 700) (x := at0 l (k + 2) - a * at0 l (k + 1) - b * at0 l k) (y := at0 l (k + 2) - a * at0 l (k + 1) - b * at0 l k) (by omega) (by omega)
    have q1 := sqs_in hs ha hb k
    rw [l2_WinchEquations_L2, if_pos c2, if_pos c1, c3, Option.bind_some, if_pos a1, if_pos a2, a3, Option.bind_some, if_pos b1, if_pos b2, b3, Option.bind_some]
    rw [wrapB (x := a * at0 l (k + 1)) (by omega) (by omega), wrapB (x := b * at0 l k) (by omega) (by omega), wrapB (x := at0 l (k + 2) - a * at0 l (k + 1)) (by omega) (by omega), wrapB (x := at0 l (k + 2) - a * at0 l (k + 1) - b * at0 l k) (by omega) (by omega), wrapB (x := (at0 l (k + 2) - a * at0 l (k + 1) - b * at0 l k) * _) (by omega) (by omega), wrapB (x := sqs l a b k + _) (by omega) (by omega), show IntKind.wrap .i64 ((k : Int) + 2 + 1) = ((k + 1 : Nat) : Int) + 2 by rw [wrapB] <;> omega]
    exact sq_run fu hs hl ha hb p3 p4 p5 p6 p7 p8 p9 p10 hN m n (k + 1) (by omega) (by omega)
theorem low_val (fu : Nat) (hf : 18446744073709551616 ≤ fu) (x d : Int) (hd : 1 ≤ d ∧ d ≤ 1000000000000) (hx : -1000000000000000000 ≤ x ∧ x ≤ 1000000000000000000) : u_Lowest fu x d = some (Int.tdiv x (Nat.gcd x.natAbs d.natAbs : Int), Int.tdiv d (Nat.gcd x.natAbs d.natAbs : Int)) := by
  have h0 : 0 < Nat.gcd x.natAbs d.natAbs := Nat.gcd_pos_of_pos_right _ (by omega)
  have h1 := Nat.gcd_le_right x.natAbs (show 0 < d.natAbs by omega)
  have hg : gcdL [x, d] ≤ 9223372036854775807 := by rw [gcdL2]; omega
  unfold u_Lowest
  rw [divisor_eq fu _ (by simp; omega) (by simp) (by simp; omega) hg, Option.bind_some, if_neg (by rw [gcdL2]; omega), gcdL2]
  have t1 := tdiv_in h0 hx
  have t2 := tdiv_in h0 (M := 1000000000000) (x := d) (by omega)
  rw [wrapB (by omega) (by omega), wrapB (by omega) (by omega)]
theorem res_val {fu : Nat} (hf : 18446744073709551616 ≤ fu) {l : List Int} (hl : l.length ≤ 22) (h : smpE l = 0) (hd : dT l (l.length - 2) ≠ 0) : ∃ g : Nat, 0 < g ∧ (g : Int) ∣ rs l (prd l (l.length - 2)).1 (prd l (l.length - 2)).2.1 (prd l (l.length - 2)).2.2 (l.length - 2) ∧ (g : Int) ∣ (prd l (l.length - 2)).2.2 ∧ w_ResidualOf fu l = some (Int.tdiv (rs l (prd l (l.length - 2)).1 (prd l (l.length - 2)).2.1 (prd l (l.length - 2)).2.2 (l.length - 2)) (g : Int), Int.tdiv (prd l (l.length - 2)).2.2 (g : Int), 0) := by
  obtain ⟨h1, h2, hs⟩ := smpE_ok h
  have hN : l.length - 2 ≤ 20 := by omega
  obtain ⟨_, _, pa, pb, pd⟩ := prd_ok hs hN hd
  generalize hA : (prd l (l.length - 2)).1 = A at *
  generalize hB : (prd l (l.length - 2)).2.1 = B at *
  generalize hD : (prd l (l.length - 2)).2.2 = D at *
  have r1 := rs_in hs pa pb (D := D) ⟨by omega, by omega⟩ hN
  have e1 := low_val fu hf (rs l A B D (l.length - 2)) D ⟨by omega, by omega⟩ (by unfold rs; omega)
  refine ⟨Nat.gcd (rs l A B D (l.length - 2)).natAbs D.natAbs, Nat.gcd_pos_of_pos_right _ (by omega), Int.ofNat_dvd_left.2 (Nat.gcd_dvd_left _ _), Int.ofNat_dvd_left.2 (Nat.gcd_dvd_right _ _), ?_⟩
  unfold w_ResidualOf
  rw [w_pred hf hl, Option.bind_some, if_pos h, if_neg hd, if_pos rfl, hA, hB, hD]
  unfold w_rows_1_2
  rw [show IntKind.wrap .i64 ((l.length : Int) - 2) = ((l.length - 2 : Nat) : Int) by rw [wrapB] <;> omega]
  have := rows2 fu hs hl pa pb (D := D) ⟨by omega, by omega⟩ (N := l.length - 2) (by omega) (l.length - 2) fu 0 (by omega) (by omega)
  rw [show rs l A B D 0 = 0 by unfold rs sm; simp, show ((0 : Nat) : Int) = 0 from rfl] at this
  rw [this]
  simp only [Option.bind_some]
  rw [e1, Option.bind_some]
theorem cmp_ok {fu : Nat} (hf : 10 ≤ fu) {n d q : Int} (hn : 0 ≤ n ∧ n ≤ 1000000000000000000) (hd : 1 ≤ d ∧ d ≤ 1000000000000) (hq : -10000000 ≤ q ∧ q ≤ 10000000) (h : n ≤ q * d) : ∃ r, b_Compare fu n d q 1 = some r ∧ r ≤ 0 := by
  obtain ⟨k, rfl⟩ : ∃ k, fu = k + 1 := ⟨fu - 1, by omega⟩
  have f1 : b_Floor n d = some (Int.tdiv n d) := by
    have z := Int.tmod_nonneg d hn.1
    obtain ⟨D, rfl⟩ := Int.eq_ofNat_of_zero_le (show 0 ≤ d by omega)
    have t := tdiv_in (g := D) (by omega) (M := 1000000000000000000) (x := n) (by omega)
    unfold b_Floor
    rw [if_neg (by omega), if_neg (by omega), wrapB (by omega) (by omega)]
  have f2 : b_Floor q 1 = some q := by
    unfold b_Floor
    rw [if_neg (by omega), Int.tmod_one, if_neg (by omega), Int.tdiv_one, wrapB (by omega) (by omega)]
  have e1 : Int.tdiv n d = n / d := Int.tdiv_eq_ediv_of_nonneg hn.1
  have e2 : n / d ≤ q := by
    have := Int.ediv_le_ediv (show 0 < d by omega) h
    rwa [Int.mul_ediv_cancel _ (by omega)] at this
  unfold b_Compare
  rw [b_Compare_L1, f1, Option.bind_some, f2, Option.bind_some, e1]
  by_cases c : n / d < q
  · rw [if_pos c]; exact ⟨_, rfl, by omega⟩
  · have e3 : n / d = q := by omega
    have e4 : q * d ≤ n := by rw [← e3]; exact Int.ediv_mul_le n (by omega)
    rw [if_neg c, if_neg (by omega), e3, show q * d = n by omega, wrapB (x := n) (by omega) (by omega), show n - n = 0 by omega, Int.mul_one, wrapB (x := q) (by omega) (by omega), show q - q = 0 by omega, wrapB (by omega) (by omega), if_pos rfl, if_pos rfl]
    exact ⟨_, rfl, by omega⟩
theorem l3_ok {fu : Nat} (hf : 18446744073709551616 ≤ fu) {l : List Int} (hl : l.length ≤ 22) (h : smpE l = 0) (hd : dT l (l.length - 2) ≠ 0) : l2_WinchEquations_L3 fu l (prd l (l.length - 2)).1 (prd l (l.length - 2)).2.1 (prd l (l.length - 2)).2.2 fu 0 = some (.inr ()) := by
  obtain ⟨h1, h2, hs⟩ := smpE_ok h
  have hN : l.length - 2 ≤ 20 := by omega
  obtain ⟨_, _, pa, pb, pd⟩ := prd_ok hs hN hd
  have k1 := prf_more hs hN hd
  have k2 := prf_less hs hN hd
  have cp : b_CopyInts l = some l := by unfold b_CopyInts; rw [if_pos (by omega)]
  generalize hA : (prd l (l.length - 2)).1 = A at *
  generalize hB : (prd l (l.length - 2)).2.1 = B at *
  generalize hD : (prd l (l.length - 2)).2.2 = D at *
  have hL : ∀ n, l2_WinchEquations_L3 fu l A B D (n + 3) 0 = some (.inr ()) := fun n => by
    have third : l2_WinchEquations_L3 fu l A B D (n + 1) 2 = some (.inr ()) := by rw [l2_WinchEquations_L3, if_neg (by omega)]
    have second : l2_WinchEquations_L3 fu l A B D (n + 2) 1 = some (.inr ()) := by
      rw [l2_WinchEquations_L3, if_pos (by omega), if_neg (by omega), wrapB (x := B - 1) (by omega) (by omega), rPred_eq fu hf, Option.bind_some, show IntKind.wrap .i64 ((1 : Int) + 1) = 2 by rw [wrapB] <;> omega, third]
      by_cases c : predE A (B - 1) D = 0
      · rw [if_pos c, cp, Option.bind_some, w_chkp hf hl, Option.bind_some, show firstE [smpE l, predE A (B - 1) D] = 0 by rw [h, c]; rfl, if_pos rfl, k2, if_pos rfl]
      · rw [if_neg c]
    rw [l2_WinchEquations_L3, if_pos (by omega), if_pos rfl, wrapB (x := A + 1) (by omega) (by omega), rPred_eq fu hf, Option.bind_some, show IntKind.wrap .i64 ((0 : Int) + 1) = 1 by rw [wrapB] <;> omega, second]
    by_cases c : predE (A + 1) B D = 0
    · rw [if_pos c, cp, Option.bind_some, w_chkp hf hl, Option.bind_some, show firstE [smpE l, predE (A + 1) B D] = 0 by rw [h, c]; rfl, if_pos rfl, k1, if_pos rfl]
    · rw [if_neg c]
  obtain ⟨k, e⟩ : ∃ k, fu = k + 3 := ⟨fu - 3, by omega⟩
  have := hL k
  rw [← e] at this
  exact this
end Go.Proofs.Ythffbfkcmbgghaa
