/-
  Rays: the program's cells and the document's.
-/
import Derived.Test.YthffbfkcmbgghaaGreatZW4t
import Derived.Test.YthffbfkcmbgghaaGreatZR4a
import Derived.Test.YthffbfkcmbgghaaGreatZW2s
set_option linter.all false
namespace Go.Proofs.YthffbfkcmbgghaaGreat
open Go Go.RowKit
def fstF {α : Type} (f : α → Int) : List α → Int
  | [] => 0
  | e :: r => if f e = 0 then fstF f r else f e
theorem fb_run {α τ : Type} (l : List α) (L : Nat → Nat → Option τ) (pr : τ → Int) (f : α → Int)
    (hend : ∀ n, ∃ o, L (n + 1) l.length = some o ∧ pr o = 0)
    (hstep : ∀ n i e, l[i]? = some e → (f e = 0 ∧ L (n + 1) i = L n (i + 1)) ∨ (f e ≠ 0 ∧ ∃ o, L (n + 1) i = some o ∧ pr o = f e)) :
    ∀ n i, i ≤ l.length → l.length - i < n → ∃ o, L n i = some o ∧ pr o = fstF f (l.drop i)
  | 0, i, _, h => by omega
  | n + 1, i, hi, h => by
    rcases Nat.lt_or_ge i l.length with h1 | h1
    · have he : l[i]? = some l[i] := List.getElem?_eq_getElem h1
      rw [List.drop_eq_getElem_cons h1, fstF]
      rcases hstep n i _ he with ⟨c, e⟩ | ⟨c, o, e, p⟩
      · rw [e, if_pos c]; exact fb_run l L pr f hend hstep n (i + 1) (by omega) (by omega)
      · rw [if_neg c]; exact ⟨o, e, p⟩
    · have : i = l.length := by omega
      subst this
      rw [List.drop_of_length_le (Nat.le_refl _)]
      exact hend n
theorem z_limit (a lo hi : Int) : u_LimitError a lo hi = some (limE a lo hi) := by
  unfold u_LimitError limE
  by_cases h1 : a < lo
  · rw [if_pos h1, if_pos (.inl h1)]
  · rw [if_neg h1]
    by_cases h2 : hi < a
    · rw [if_pos h2, if_pos (.inr h2)]
    · rw [if_neg h2, if_neg (by omega)]
theorem z_within (n lo hi : Int) : b_Within n lo hi = some (decide (lo ≤ n ∧ n ≤ hi)) := by
  unfold b_Within
  by_cases h1 : lo ≤ n
  · by_cases h2 : n ≤ hi
    · simp [h1, h2]
    · simp [h1, h2]
  · simp [h1]
theorem z_uwithin (n m : Int) (h : -1000000 ≤ m ∧ m ≤ 1000000) : u_Within n m = some (decide (-m ≤ n ∧ n ≤ m)) := by
  unfold u_Within
  rw [wrapB (by omega) (by omega), show (0 : Int) - m = -m by omega]
  by_cases h1 : -m ≤ n
  · by_cases h2 : n ≤ m
    · simp [h1, h2]
    · simp [h1, h2]
  · simp [h1]
def inG (x : Int) : Prop := 0 ≤ x ∧ x ≤ 11
instance (x : Int) : Decidable (inG x) := by unfold inG; infer_instance
def ryE (a b c d : Int) : Int := if inG a ∧ inG b ∧ inG c ∧ inG d then 0 else 2
theorem z_limits {fu : Nat} (hf : 1000 ≤ fu) (a b c d : Int) : u_LimitsError fu 0 11 [a, b, c, d] = some (ryE a b c d) := by
  obtain ⟨o, e1, e2⟩ := fb_run [a, b, c, d] (fun n i => u_FirstBad_int_LimitsError_1_L1 fu [a, b, c, d] 0 11 (([a, b, c, d] : List Int).length : Int) n (i : Int)) (Sum.elim (fun q => q.2) (fun _ => 0)) (fun x => limE x 0 11)
    (fun n => ⟨.inr (), by rw [u_FirstBad_int_LimitsError_1_L1, if_neg (by omega)], rfl⟩)
    (fun n i e he => by
      obtain ⟨h1, h2, h3⟩ := idx he
      have hi : i < 4 := by have := (List.getElem?_eq_some_iff.1 he).1; simpa using this
      have one : ∀ e, u_LimitsError_1 e 0 11 = some (limE e 0 11) := fun e => by unfold u_LimitsError_1; rw [z_limit]; rfl
      rw [u_FirstBad_int_LimitsError_1_L1, if_pos h1, if_pos h2, if_pos h1, h3, Option.bind_some, one, Option.bind_some]
      by_cases q : limE e 0 11 = 0
      · rw [if_pos q, wrapS (by omega)]; exact .inl ⟨q, rfl⟩
      · rw [if_neg q]; exact .inr ⟨q, _, rfl, rfl⟩) fu 0 (by omega) (by simp; omega)
  rw [show ((0 : Nat) : Int) = 0 from rfl] at e1
  rw [List.drop_zero] at e2
  have key : fstF (fun x => limE x 0 11) [a, b, c, d] = ryE a b c d := by
    unfold ryE inG
    simp only [fstF, limE_zero]
    by_cases qa : 0 ≤ a ∧ a ≤ 11
    · by_cases qb : 0 ≤ b ∧ b ≤ 11
      · by_cases qc : 0 ≤ c ∧ c ≤ 11
        · by_cases qd : 0 ≤ d ∧ d ≤ 11
          · rw [if_pos qa, if_pos qb, if_pos qc, if_pos qd, if_pos ⟨qa, qb, qc, qd⟩]
          · rw [if_pos qa, if_pos qb, if_pos qc, if_neg qd, if_neg (fun h => qd h.2.2.2), limE_two qd]
        · rw [if_pos qa, if_pos qb, if_neg qc, if_neg (fun h => qc h.2.2.1), limE_two qc]
      · rw [if_pos qa, if_neg qb, if_neg (fun h => qb h.2.1), limE_two qb]
    · rw [if_neg qa, if_neg (fun h => qa h.1), limE_two qa]
  unfold u_LimitsError u_FirstBad_int_LimitsError_1
  rw [e1, ← key, ← e2]
  cases o <;> rfl
def crB (fx fy tx ty : Int) (x y : Int) : Bool := decide (crs fx fy tx ty x y)
set_option maxHeartbeats 4000000 in
theorem z_crosses {fx fy tx ty x y : Int} (h1 : inG fx) (h2 : inG fy) (h3 : inG tx) (h4 : inG ty) (hx : inG x) (hy : inG y) (b : Bool) : s_crosses fx fy tx ty b x y = some (crB fx fy tx ty x y) := by
  unfold inG at *
  have m1 := mulB (m := 11) (n := 11) (x := tx - fx) (y := y - fy) (by omega) (by omega)
  have m2 := mulB (m := 11) (n := 11) (x := ty - fy) (y := x - fx) (by omega) (by omega)
  have w1 : IntKind.wrap .i64 (tx - fx) = tx - fx := by rw [wrapB] <;> omega
  have w2 : IntKind.wrap .i64 (ty - fy) = ty - fy := by rw [wrapB] <;> omega
  have w3 : IntKind.wrap .i64 (0 - (tx - fx)) = fx - tx := by rw [wrapB] <;> omega
  have w4 : IntKind.wrap .i64 (0 - (ty - fy)) = fy - ty := by rw [wrapB] <;> omega
  have w5 : IntKind.wrap .i64 (y - fy) = y - fy := by rw [wrapB] <;> omega
  have w6 : IntKind.wrap .i64 (x - fx) = x - fx := by rw [wrapB] <;> omega
  have w7 : IntKind.wrap .i64 ((tx - fx) * (y - fy)) = (tx - fx) * (y - fy) := by rw [wrapB] <;> omega
  have w8 : IntKind.wrap .i64 ((ty - fy) * (x - fx)) = (ty - fy) * (x - fx) := by rw [wrapB] <;> omega
  have w9 : IntKind.wrap .i64 ((tx - fx) * (y - fy) - (ty - fy) * (x - fx)) = asd fx fy tx ty x y := by unfold asd; rw [wrapB] <;> omega
  have ha : -242 ≤ asd fx fy tx ty x y ∧ asd fx fy tx ty x y ≤ 242 := by unfold asd; omega
  have w10 : IntKind.wrap .i64 (2 * asd fx fy tx ty x y) = 2 * asd fx fy tx ty x y := by rw [wrapB] <;> omega
  have v : ∀ p q : Int, -100 ≤ p → p ≤ 100 → -100 ≤ q → q ≤ 100 → IntKind.wrap .i64 (IntKind.wrap .i64 (p + q) - 1) = p + q - 1 := fun p q a1 a2 a3 a4 => by
    rw [wrapB (x := p + q) (by omega) (by omega), wrapB] <;> omega
  have v1 := v (fx - tx) (fy - ty) (by omega) (by omega) (by omega) (by omega)
  have v2 := v (fx - tx) (ty - fy) (by omega) (by omega) (by omega) (by omega)
  have v3 := v (tx - fx) (fy - ty) (by omega) (by omega) (by omega) (by omega)
  have v4 := v (tx - fx) (ty - fy) (by omega) (by omega) (by omega) (by omega)
  have hw : wid fx fy tx ty = max (tx - fx) (fx - tx) + max (ty - fy) (fy - ty) := rfl
  unfold s_crosses crB
  simp only [w1, w2, w3, w4, w5, w6, w7, w8, w9, w10, v1, v2, v3, v4]
  rw [z_uwithin _ _ (by omega), z_uwithin _ _ (by omega), z_uwithin _ _ (by omega), z_uwithin _ _ (by omega)]
  simp only [Option.bind_some, decide_eq_true_eq]
  clear m1 m2 w1 w2 w3 w4 w5 w6 w7 w8 w9 w10 v v1 v2 v3 v4
  (repeat' split) <;> first
    | exact congrArg some (decide_eq_true (p := crs fx fy tx ty x y) (by unfold crs; omega)).symm
    | exact congrArg some (decide_eq_false (p := crs fx fy tx ty x y) (by unfold crs; omega)).symm
def cellsR (fx fy tx ty : Int) : List (Int × Int) := gridP (crB fx fy tx ty) (max fx tx - min fx tx + 1).toNat (min fx tx) (max fy ty - min fy ty + 1).toNat (min fy ty)
theorem row_run {fu : Nat} {fx fy tx ty y : Int} (h1 : inG fx) (h2 : inG fy) (h3 : inG tx) (h4 : inG ty) (hy : inG y) (b : Bool) : ∀ (m n : Nat) (x : Int) (acc : List (Int × Int)), x + m = max fx tx + 1 → 0 ≤ x → acc.length + m ≤ 60000 → m < n → s_crossed_1_2_L1 fu fx fy tx ty b y n acc x = some (acc ++ rowP (crB fx fy tx ty) y m x)
  | _, 0, _, _, _, _, _, h => by omega
  | 0, n + 1, x, acc, hx, h0, ha, hn => by
    rw [s_crossed_1_2_L1]
    unfold rowP
    rw [List.append_nil]
    by_cases c : fx < tx
    · rw [if_pos c, if_neg (by omega)]
    · rw [if_neg c, if_neg (by omega)]
  | m + 1, n + 1, x, acc, hx, h0, ha, hn => by
    have gx : inG x := by unfold inG at *; omega
    have w : IntKind.wrap .i64 (x + 1) = x + 1 := by unfold inG at gx; rw [wrapB] <;> omega
    have i1 := row_run (fu := fu) h1 h2 h3 h4 hy b m n (x + 1) (acc ++ [(x, y)]) (by omega) (by omega) (by simp; omega) (by omega)
    have i2 := row_run (fu := fu) h1 h2 h3 h4 hy b m n (x + 1) acc (by omega) (by omega) (by omega) (by omega)
    have hacc : (acc.length : Int) < 65536 := by omega
    rw [s_crossed_1_2_L1, rowP_s, z_crosses h1 h2 h3 h4 gx hy, w, i1, i2, Option.bind_some]
    by_cases c : fx < tx
    · rw [if_pos c, if_pos (show x ≤ tx by omega)]
      cases crB fx fy tx ty x y with
      | true => rw [if_pos rfl, if_pos hacc, if_pos rfl]; simp
      | false => rw [if_neg Bool.false_ne_true, if_neg Bool.false_ne_true]
    · rw [if_neg c, if_pos (show x ≤ fx by omega)]
      cases crB fx fy tx ty x y with
      | true => rw [if_pos rfl, if_pos hacc, if_pos rfl]; simp
      | false => rw [if_neg Bool.false_ne_true, if_neg Bool.false_ne_true]
theorem grid_run {fu : Nat} (hf : 1000 ≤ fu) {fx fy tx ty : Int} (h1 : inG fx) (h2 : inG fy) (h3 : inG tx) (h4 : inG ty) (b : Bool) : ∀ (m n : Nat) (y : Int) (acc : List (Int × Int)), y + m = max fy ty + 1 → 0 ≤ y → acc.length + m * 12 ≤ 50000 → m < n → s_crossed_1_2_L2 fu n acc fx fy tx ty b y = some (acc ++ gridP (crB fx fy tx ty) (max fx tx - min fx tx + 1).toNat (min fx tx) m y, fx, fy, tx, ty, b)
  | _, 0, _, _, _, _, _, h => by omega
  | 0, n + 1, y, acc, hy, h0, ha, hn => by
    rw [s_crossed_1_2_L2]
    unfold gridP
    rw [List.append_nil]
    by_cases c : fy < ty
    · rw [if_pos c, if_neg (by omega)]
    · rw [if_neg c, if_neg (by omega)]
  | m + 1, n + 1, y, acc, hy, h0, ha, hn => by
    have gy : inG y := by unfold inG at *; omega
    have w : IntKind.wrap .i64 (y + 1) = y + 1 := by unfold inG at gy; rw [wrapB] <;> omega
    have hw : (max fx tx - min fx tx + 1).toNat ≤ 12 := by unfold inG at *; omega
    have row := row_run (fu := fu) (y := y) h1 h2 h3 h4 gy b (max fx tx - min fx tx + 1).toNat fu (min fx tx) acc (by omega) (by unfold inG at *; omega) (by omega) (by omega)
    have len := rowP_len (crB fx fy tx ty) y (max fx tx - min fx tx + 1).toNat (min fx tx)
    have ih := grid_run hf h1 h2 h3 h4 b m n (y + 1) (acc ++ rowP (crB fx fy tx ty) y (max fx tx - min fx tx + 1).toNat (min fx tx)) (by omega) (by omega) (by rw [List.length_append]; omega) (by omega)
    rw [s_crossed_1_2_L2, w, gridP_s, ← List.append_assoc, ← ih]
    by_cases c2 : tx < fx
    · rw [show min fx tx = tx by omega] at row ⊢
      by_cases c : fy < ty
      · rw [if_pos c, if_pos (by omega), if_pos c2, row, Option.bind_some]
      · rw [if_neg c, if_pos (by omega), if_pos c2, row, Option.bind_some]
    · rw [show min fx tx = fx by omega] at row ⊢
      by_cases c : fy < ty
      · rw [if_pos c, if_pos (by omega), if_neg c2, row, Option.bind_some]
      · rw [if_neg c, if_pos (by omega), if_neg c2, row, Option.bind_some]
theorem p_crossed {fu : Nat} (hf : 1000 ≤ fu) (fx fy tx ty : Int) (b : Bool) : s_CrossedBy fu fx fy tx ty b = some (if ryE fx fy tx ty = 0 then (cellsR fx fy tx ty, 0) else ([], ryE fx fy tx ty)) := by
  unfold s_CrossedBy
  rw [z_limits hf, Option.bind_some]
  by_cases h : ryE fx fy tx ty = 0
  · rw [if_pos h, if_pos h]
    have hg : inG fx ∧ inG fy ∧ inG tx ∧ inG ty := by
      unfold ryE at h
      split at h
      · assumption
      · omega
    obtain ⟨h1, h2, h3, h4⟩ := hg
    have hh : (max fy ty - min fy ty + 1).toNat ≤ 12 := by unfold inG at *; omega
    have g := grid_run hf h1 h2 h3 h4 b (max fy ty - min fy ty + 1).toNat fu (min fy ty) [] (by omega) (by unfold inG at *; omega) (by simp; omega) (by omega)
    unfold slices_Collect_SonarCell_crossed_1 s_crossed_1_2 cellsR
    by_cases c : ty < fy
    · rw [show min fy ty = ty by omega] at g ⊢
      rw [if_pos c, g]; rfl
    · rw [show min fy ty = fy by omega] at g ⊢
      rw [if_neg c, g]; rfl
  · rw [if_neg h, if_neg h]
end Go.Proofs.YthffbfkcmbgghaaGreat
