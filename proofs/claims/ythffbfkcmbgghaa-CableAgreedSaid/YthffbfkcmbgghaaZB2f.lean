/-
  'CableReadings': sets of readings, and the lifted law is true.
-/
import Derived.Test.YthffbfkcmbgghaaZB2d
set_option linter.all false
namespace Go.Proofs.Ythffbfkcmbgghaa
open Go Go.RowKit
def seE (L : Int) : List Int → Int
  | [i] => idE L i
  | [i, k] => if idE L i = 0 then (if idE L k = 0 then (if k ≤ i then 9 else 0) else idE L k) else idE L i
  | _ => 10
theorem seE2 (L i k : Int) : seE L [i, k] = if idE L i = 0 then (if idE L k = 0 then (if k ≤ i then 9 else 0) else idE L k) else idE L i := rfl
theorem p_se1 {fu : Nat} (hf : 1000 ≤ fu) (e L la : Int) : u_SetErrors_1 fu e L true la = some (idE L e, false, e) := by
  unfold u_SetErrors_1 u_RisingErrors_1
  rw [x_index, Option.bind_some, if_pos rfl, Option.bind_some, x_first fu _ (by simp <;> omega) (by simp), Option.bind_some, firstE2]
  by_cases c : idE L e = 0
  · rw [if_pos c, c]
  · rw [if_neg c]
theorem p_se2 {fu : Nat} (hf : 1000 ≤ fu) (e L la : Int) : u_SetErrors_1 fu e L false la = some (if idE L e = 0 then (if e ≤ la then 9 else 0) else idE L e, false, e) := by
  unfold u_SetErrors_1 u_RisingErrors_1
  rw [x_index, Option.bind_some, if_neg (by simp)]
  by_cases c : la < e
  · rw [if_pos c, Option.bind_some, x_first fu _ (by simp <;> omega) (by simp), Option.bind_some, firstE2, if_neg (show ¬ e ≤ la by omega)]
  · rw [if_neg c, Option.bind_some, x_first fu _ (by simp <;> omega) (by simp), Option.bind_some, firstE2, if_pos (show e ≤ la by omega)]
theorem w01 : IntKind.wrap .i64 ((0 : Int) + 1) = 1 := by rw [wrapB] <;> omega
theorem w12 : IntKind.wrap .i64 ((1 : Int) + 1) = 2 := by rw [wrapB] <;> omega
theorem p_s1 {fu : Nat} (hf : 1000 ≤ fu) (i L : Int) : ∃ r, u_FirstBad_int_SetErrors_1 fu [i] L true 0 = some r ∧ r.2.1 = idE L i := by
  obtain ⟨n, hn⟩ : ∃ n, fu = n + 3 := ⟨fu - 3, by omega⟩
  unfold u_FirstBad_int_SetErrors_1
  rw [show u_FirstBad_int_SetErrors_1_L1 fu [i] L ((([i] : List Int).length : Nat) : Int) fu true 0 0 = u_FirstBad_int_SetErrors_1_L1 fu [i] L ((([i] : List Int).length : Nat) : Int) (n + 3) true 0 0 by rw [← hn], u_FirstBad_int_SetErrors_1_L1, if_pos (by simp), if_pos (by omega), if_pos (by simp), show ([i] : List Int)[0 + ((0 : Int)).toNat]? = some i from rfl, Option.bind_some, p_se1 hf, Option.bind_some]
  by_cases c : idE L i = 0
  · rw [if_pos c, w01, u_FirstBad_int_SetErrors_1_L1, if_neg (by simp)]; exact ⟨_, rfl, c.symm⟩
  · rw [if_neg c]; exact ⟨_, rfl, rfl⟩
theorem p_s2 {fu : Nat} (hf : 1000 ≤ fu) (i k L : Int) : ∃ r, u_FirstBad_int_SetErrors_1 fu [i, k] L true 0 = some r ∧ r.2.1 = seE L [i, k] := by
  obtain ⟨n, hn⟩ : ∃ n, fu = n + 3 := ⟨fu - 3, by omega⟩
  unfold u_FirstBad_int_SetErrors_1
  rw [show u_FirstBad_int_SetErrors_1_L1 fu [i, k] L ((([i, k] : List Int).length : Nat) : Int) fu true 0 0 = u_FirstBad_int_SetErrors_1_L1 fu [i, k] L ((([i, k] : List Int).length : Nat) : Int) (n + 3) true 0 0 by rw [← hn], u_FirstBad_int_SetErrors_1_L1, if_pos (by simp), if_pos (by omega), if_pos (by simp), show ([i, k] : List Int)[0 + ((0 : Int)).toNat]? = some i from rfl, Option.bind_some, p_se1 hf, Option.bind_some]
  unfold seE
  by_cases c : idE L i = 0
  · rw [if_pos c, w01, u_FirstBad_int_SetErrors_1_L1, if_pos (by simp), if_pos (by omega), if_pos (by simp), show ([i, k] : List Int)[0 + ((1 : Int)).toNat]? = some k from rfl, Option.bind_some, p_se2 hf, Option.bind_some]
    simp only [if_pos c]
    by_cases d : idE L k = 0
    · simp only [if_pos d]
      by_cases e : k ≤ i
      · simp only [if_pos e]; exact ⟨_, rfl, rfl⟩
      · simp only [if_neg e, if_true]
        rw [w12, u_FirstBad_int_SetErrors_1_L1, if_neg (by simp)]; exact ⟨_, rfl, rfl⟩
    · simp only [if_neg d]; exact ⟨_, rfl, rfl⟩
  · simp only [if_neg c]; exact ⟨_, rfl, rfl⟩
theorem p_set {fu : Nat} (hf : 1000 ≤ fu) (x : List Lk) (s : List Int) : c_setError fu x s = some (seE (x.length : Int) s) := by
  unfold c_setError
  match s with
  | [] => rw [if_neg (by simp), if_neg (by simp)]; rfl
  | [i] =>
    obtain ⟨r, e1, e2⟩ := p_s1 hf i (x.length : Int)
    rw [if_pos (by simp), e1, Option.bind_some, e2]; rfl
  | [i, k] =>
    obtain ⟨r, e1, e2⟩ := p_s2 hf i k (x.length : Int)
    rw [if_neg (by simp), if_pos (by simp), e1, Option.bind_some, e2]
  | a :: c :: d :: r =>
    rw [if_neg (by simp; omega), if_neg (by simp; omega)]; rfl
def far (X : Int) (l : List Lk) (b : List Rg) (x : List Lk) : List Int → Int
  | [i] => one X l b x i.toNat
  | [i, k] => two l b x i.toNat k.toNat
  | _ => 0
theorem far1 (X : Int) (l : List Lk) (b : List Rg) (x : List Lk) (j : Nat) : far X l b x [(j : Int)] = one X l b x j := by
  show one X l b x (j : Int).toNat = _
  rw [Int.toNat_natCast]
theorem far2 (X : Int) (l : List Lk) (b : List Rg) (x : List Lk) (j q : Nat) : far X l b x [(j : Int), (q : Int)] = two l b x j q := by
  show two l b x (j : Int).toNat (q : Int).toNat = _
  rw [Int.toNat_natCast, Int.toNat_natCast]
def ans (e d : Int) : Int × Int := if e = 0 then (if d ≤ 0 then (0, 19) else (d, 0)) else (0, e)
theorem idE_ok {L i : Int} (h : idE L i = 0) : 0 ≤ i ∧ i ≤ L - 1 := by
  unfold idE at h
  by_cases c : 0 ≤ i ∧ i ≤ L - 1
  · exact c
  · rw [if_neg c] at h; omega
theorem fin_d (d : Int) : (if ps d = 0 then some ((0 : Int), (19 : Int)) else some (ps d, 0)) = some (if d ≤ 0 then (0, 19) else (d, 0)) := by
  unfold ps
  by_cases c : 0 < d
  · simp only [if_pos c]; rw [if_neg (by omega), if_neg (by omega)]
  · simp only [if_neg c, if_true]; rw [if_pos (by omega)]
theorem p_chk {fu : Nat} (hf : 1000 ≤ fu) {X Z : Int} {l : List Lk} {b : List Rg} {x : List Lk} (v : VX X l b x) (he : c_readingsError fu X Z l b x = some 0) (s : List Int) : c_CheckContradiction fu X Z l b x s = some (ans (seE (x.length : Int) s) (far X l b x s)) := by
  unfold c_CheckContradiction ans
  rw [he, Option.bind_some, if_pos rfl, p_set hf, Option.bind_some]
  by_cases h0 : seE (x.length : Int) s = 0
  · rw [if_pos h0, if_pos h0]
    match s, h0 with
    | [i], h0 =>
      obtain ⟨i1, i2⟩ := idE_ok (show idE (x.length : Int) i = 0 from h0)
      obtain ⟨j, rfl⟩ := Int.eq_ofNat_of_zero_le i1
      obtain ⟨e, k, e1, e2, e3⟩ := v.at (show j < x.length by omega)
      obtain ⟨h1, h2, h3⟩ := at_nat e1
      rw [if_pos (by simp), show ([(j : Int)] : List Int)[0 + ((0 : Int)).toNat]? = some (j : Int) from rfl, Option.bind_some, if_pos h1, if_pos h2, h3, Option.bind_some, p_load hf v.vb e3, Option.bind_some, fin_d]
      rw [far1]
      unfold one
      rw [e2]
    | [i, k], h0 =>
      rw [seE2] at h0
      by_cases c : idE (x.length : Int) i = 0
      · rw [if_pos c] at h0
        by_cases d : idE (x.length : Int) k = 0
        · obtain ⟨i1, i2⟩ := idE_ok c
          obtain ⟨k1, k2⟩ := idE_ok d
          obtain ⟨j, rfl⟩ := Int.eq_ofNat_of_zero_le i1
          obtain ⟨q, rfl⟩ := Int.eq_ofNat_of_zero_le k1
          obtain ⟨e, m, e1, e2, e3⟩ := v.at (show j < x.length by omega)
          obtain ⟨f, n, f1, f2, f3⟩ := v.at (show q < x.length by omega)
          obtain ⟨h1, h2, h3⟩ := at_nat e1
          obtain ⟨g1, g2, g3⟩ := at_nat f1
          rw [if_neg (by simp), if_pos (by simp), show ([(j : Int), (q : Int)] : List Int)[0 + ((0 : Int)).toNat]? = some (j : Int) from rfl, Option.bind_some, if_pos h1, if_pos h2, h3, Option.bind_some, if_pos (by simp), show ([(j : Int), (q : Int)] : List Int)[0 + ((1 : Int)).toNat]? = some (q : Int) from rfl, Option.bind_some, if_pos g1, if_pos g2, g3, Option.bind_some, p_each hf v.vb e3 f3, Option.bind_some, fin_d]
          rw [far2]
          unfold two
          rw [e2, f2]
        · rw [if_neg d] at h0; exact absurd h0 d
      · rw [if_neg c] at h0; exact absurd h0 c
  · rw [if_neg h0, if_neg h0]
theorem mkVX {X Z : Int} {l : List Lk} {b : List Rg} {x : List Lk} (h1 : linE X Z l = 0) (h2 : boxE l b = 0) (h3 : rdE l x = 0) : VX X l b x := by
  unfold linE at h1
  by_cases c : (-10000 ≤ X ∧ X ≤ 10000) ∧ (-10000 ≤ Z ∧ Z ≤ 10000)
  · rw [if_pos c] at h1
    by_cases c0 : (l.length : Int) = 0
    · rw [if_pos c0] at h1; omega
    · rw [if_neg c0] at h1
      by_cases c1 : (10 : Int) < (l.length : Int)
      · rw [if_pos c1] at h1; omega
      · rw [if_neg c1] at h1
        unfold boxE at h2
        by_cases d : (b.length : Int) = (l.length : Int)
        · rw [if_pos d] at h2
          unfold rdE at h3
          by_cases e : (12 : Int) < (x.length : Int)
          · rw [if_pos e] at h3; omega
          · rw [if_neg e] at h3
            refine ⟨⟨c.1, by omega, by omega, fun e he => ?_, fstF_ok h2⟩, by omega, fstF_ok h3⟩
            have := fstF_ok h1 e he
            unfold fL at this
            by_cases k : okL e
            · exact k
            · rw [if_neg k] at this; omega
        · rw [if_neg d] at h2; omega
  · rw [if_neg c] at h1; omega
end Go.Proofs.Ythffbfkcmbgghaa
