/-
  Rays: the document's cells.
-/
import Derived.Test.YthffbfkcmbgghaaGreatZR4b
set_option linter.all false
namespace Go.Proofs.YthffbfkcmbgghaaGreat
open Go Go.RowKit
def cornE (p5 p6 p7 p8 p9 p10 k : Int) : Int := IntKind.wrap .i64 ((IntKind.wrap .i64 ((IntKind.wrap .i64 (p9 - p7)) * (IntKind.wrap .i64 ((IntKind.wrap .i64 ((IntKind.wrap .i64 ((2 : Int) * p6)) + (IntKind.wrap .i64 ((2 : Int) * (IntKind.wrap .i64 (Int.tdiv k (2 : Int))))))) - p8)))) - (IntKind.wrap .i64 ((IntKind.wrap .i64 (p10 - p8)) * (IntKind.wrap .i64 ((IntKind.wrap .i64 ((IntKind.wrap .i64 ((2 : Int) * p5)) + (IntKind.wrap .i64 ((2 : Int) * (Int.tmod k (2 : Int)))))) - p7)))))
theorem corn_step (fu : Nat) (p0 p1 p2 p3 : Int) (p4 : Bool) (p5 p6 p7 p8 p9 p10 : Int) (n : Nat) (a b : Bool) {k : Int} (hk : 0 ≤ k ∧ k < 4) : r4_Crosses_L1 fu p0 p1 p2 p3 p4 p5 p6 p7 p8 p9 p10 (n + 1) a b k = r4_Crosses_L1 fu p0 p1 p2 p3 p4 p5 p6 p7 p8 p9 p10 n (a || decide (0 < cornE p5 p6 p7 p8 p9 p10 k)) (b || decide (cornE p5 p6 p7 p8 p9 p10 k < 0)) (k + 1) := by
  have w : IntKind.wrap .i64 (k + 1) = k + 1 := by rw [wrapB] <;> omega
  rw [r4_Crosses_L1, if_pos hk.2, w]
  unfold cornE
  generalize IntKind.wrap .i64 ((IntKind.wrap .i64 ((IntKind.wrap .i64 (p9 - p7)) * (IntKind.wrap .i64 ((IntKind.wrap .i64 ((IntKind.wrap .i64 ((2 : Int) * p6)) + (IntKind.wrap .i64 ((2 : Int) * (IntKind.wrap .i64 (Int.tdiv k (2 : Int))))))) - p8)))) - (IntKind.wrap .i64 ((IntKind.wrap .i64 (p10 - p8)) * (IntKind.wrap .i64 ((IntKind.wrap .i64 ((IntKind.wrap .i64 ((2 : Int) * p5)) + (IntKind.wrap .i64 ((2 : Int) * (Int.tmod k (2 : Int)))))) - p7))))) = E
  cases a <;> cases b <;> by_cases e1 : 0 < E <;> by_cases e2 : E < 0 <;> first
    | (exfalso; omega)
    | simp [e1, e2]
theorem corn_val {fx fy tx ty x y : Int} (h1 : inG fx) (h2 : inG fy) (h3 : inG tx) (h4 : inG ty) (hx : inG x) (hy : inG y) {k i j : Int} (hi : Int.tmod k 2 = i) (hj : Int.tdiv k 2 = j) (bi : 0 ≤ i ∧ i ≤ 1) (bj : 0 ≤ j ∧ j ≤ 1) : cornE x y (2 * fx + 1) (2 * fy + 1) (2 * tx + 1) (2 * ty + 1) k = sid fx fy tx ty (2 * x + 2 * i) (2 * y + 2 * j) := by
  unfold inG at *
  have m1 := mulB (m := 22) (n := 30) (x := 2 * tx + 1 - (2 * fx + 1)) (y := 2 * y + 2 * j - (2 * fy + 1)) (by omega) (by omega)
  have m2 := mulB (m := 22) (n := 30) (x := 2 * ty + 1 - (2 * fy + 1)) (y := 2 * x + 2 * i - (2 * fx + 1)) (by omega) (by omega)
  unfold cornE sid
  rw [hi, hj, wrapB (x := j) (by omega) (by omega), wrapB (x := 2 * j) (by omega) (by omega), wrapB (x := 2 * i) (by omega) (by omega), wrapB (x := 2 * x) (by omega) (by omega), wrapB (x := 2 * y) (by omega) (by omega), wrapB (x := 2 * x + 2 * i) (by omega) (by omega), wrapB (x := 2 * y + 2 * j) (by omega) (by omega), wrapB (x := 2 * tx + 1 - (2 * fx + 1)) (by omega) (by omega), wrapB (x := 2 * ty + 1 - (2 * fy + 1)) (by omega) (by omega), wrapB (x := 2 * x + 2 * i - (2 * fx + 1)) (by omega) (by omega), wrapB (x := 2 * y + 2 * j - (2 * fy + 1)) (by omega) (by omega), wrapB (x := (2 * tx + 1 - (2 * fx + 1)) * _) (by omega) (by omega), wrapB (x := (2 * ty + 1 - (2 * fy + 1)) * _) (by omega) (by omega), wrapB (by omega) (by omega)]
theorem corn_all {fu : Nat} (hf : 1000 ≤ fu) {fx fy tx ty x y : Int} (h1 : inG fx) (h2 : inG fy) (h3 : inG tx) (h4 : inG ty) (hx : inG x) (hy : inG y) (p0 p1 p2 p3 : Int) (p4 : Bool) : r4_Crosses_L1 fu p0 p1 p2 p3 p4 x y (2 * fx + 1) (2 * fy + 1) (2 * tx + 1) (2 * ty + 1) fu false false 0 = some
    (decide (0 < sid fx fy tx ty (2 * x) (2 * y) ∨ 0 < sid fx fy tx ty (2 * x + 2) (2 * y) ∨ 0 < sid fx fy tx ty (2 * x) (2 * y + 2) ∨ 0 < sid fx fy tx ty (2 * x + 2) (2 * y + 2)),
     decide (sid fx fy tx ty (2 * x) (2 * y) < 0 ∨ sid fx fy tx ty (2 * x + 2) (2 * y) < 0 ∨ sid fx fy tx ty (2 * x) (2 * y + 2) < 0 ∨ sid fx fy tx ty (2 * x + 2) (2 * y + 2) < 0)) := by
  obtain ⟨q, e⟩ : ∃ q, fu = q + 5 := ⟨fu - 5, by omega⟩
  have c0 := corn_val h1 h2 h3 h4 hx hy (k := 0) (i := 0) (j := 0) rfl rfl (by omega) (by omega)
  have c1 := corn_val h1 h2 h3 h4 hx hy (k := 1) (i := 1) (j := 0) rfl rfl (by omega) (by omega)
  have c2 := corn_val h1 h2 h3 h4 hx hy (k := 2) (i := 0) (j := 1) rfl rfl (by omega) (by omega)
  have c3 := corn_val h1 h2 h3 h4 hx hy (k := 3) (i := 1) (j := 1) rfl rfl (by omega) (by omega)
  simp only [Int.mul_zero, Int.add_zero, Int.mul_one] at c0 c1 c2 c3
  have main : r4_Crosses_L1 fu p0 p1 p2 p3 p4 x y (2 * fx + 1) (2 * fy + 1) (2 * tx + 1) (2 * ty + 1) (q + 5) false false 0 = some
      (((((false || decide (0 < sid fx fy tx ty (2 * x) (2 * y))) || decide (0 < sid fx fy tx ty (2 * x + 2) (2 * y))) || decide (0 < sid fx fy tx ty (2 * x) (2 * y + 2))) || decide (0 < sid fx fy tx ty (2 * x + 2) (2 * y + 2))),
       ((((false || decide (sid fx fy tx ty (2 * x) (2 * y) < 0)) || decide (sid fx fy tx ty (2 * x + 2) (2 * y) < 0)) || decide (sid fx fy tx ty (2 * x) (2 * y + 2) < 0)) || decide (sid fx fy tx ty (2 * x + 2) (2 * y + 2) < 0))) := by
    rw [corn_step fu p0 p1 p2 p3 p4 _ _ _ _ _ _ (q + 4) false false (k := 0) (by omega), c0, show (0 : Int) + 1 = 1 from rfl, corn_step _ _ _ _ _ _ _ _ _ _ _ _ (q + 3) _ _ (k := 1) (by omega), c1, show (1 : Int) + 1 = 2 from rfl, corn_step _ _ _ _ _ _ _ _ _ _ _ _ (q + 2) _ _ (k := 2) (by omega), c2, show (2 : Int) + 1 = 3 from rfl, corn_step _ _ _ _ _ _ _ _ _ _ _ _ (q + 1) _ _ (k := 3) (by omega), c3, show (3 : Int) + 1 = 4 from rfl, r4_Crosses_L1, if_neg (by omega)]
  rw [← e] at main
  rw [main]
  simp only [Bool.false_or, Bool.decide_or, Bool.or_assoc]
def crG (fx fy tx ty : Int) (x y : Int) : Bool := decide (inBox fx fy tx ty x y ∧ crs fx fy tx ty x y)
abbrev crG' := crG
set_option maxHeartbeats 8000000 in
theorem z_rcrosses {fu : Nat} (hf : 1000 ≤ fu) {fx fy tx ty x y : Int} (h1 : inG fx) (h2 : inG fy) (h3 : inG tx) (h4 : inG ty) (hx : inG x) (hy : inG y) (b : Bool) : r4_Crosses fu fx fy tx ty b x y = some (crG fx fy tx ty x y) := by
  have key : inBox fx fy tx ty x y → (crs fx fy tx ty x y ↔ _) := crs_corners fx fy tx ty x y
  have ca := corn_all hf h1 h2 h3 h4 hx hy fx fy tx ty b
  unfold inG at *
  have o : ∀ z : Int, 0 ≤ z → z ≤ 11 → IntKind.wrap .i64 (IntKind.wrap .i64 (2 * z) + 1) = 2 * z + 1 ∧ IntKind.wrap .i64 (2 * z) = 2 * z ∧ IntKind.wrap .i64 (IntKind.wrap .i64 (2 * z) + 2) = 2 * z + 2 := fun z a1 a2 => by
    rw [wrapB (x := 2 * z) (by omega) (by omega), wrapB (x := 2 * z + 1) (by omega) (by omega), wrapB (x := 2 * z + 2) (by omega) (by omega)]
    exact ⟨rfl, rfl, rfl⟩
  have f1 := o fx h1.1 h1.2
  have f2 := o fy h2.1 h2.2
  have f3 := o tx h3.1 h3.2
  have f4 := o ty h4.1 h4.2
  have f5 := o x hx.1 hx.2
  have f6 := o y hy.1 hy.2
  unfold r4_Crosses
  simp only [f1.1, f2.1, f3.1, f4.1, f5.2.1, f6.2.1]
  have g5 : IntKind.wrap .i64 (2 * x + 2) = 2 * x + 2 := by rw [wrapB] <;> omega
  have g6 : IntKind.wrap .i64 (2 * y + 2) = 2 * y + 2 := by rw [wrapB] <;> omega
  simp only [g5, g6, ca, Option.bind_some, decide_eq_true_eq]
  clear f1 f2 f3 f4 f5 f6 g5 g6 o ca
  have kt : ∀ {p : Prop} [Decidable p], p → some true = some (decide p) := fun h => by rw [decide_eq_true h]
  have kf : ∀ {p : Prop} [Decidable p], ¬ p → some false = some (decide p) := fun h => by rw [decide_eq_false h]
  unfold inBox at key
  generalize sid fx fy tx ty (2 * x) (2 * y) = s0 at *
  generalize sid fx fy tx ty (2 * x + 2) (2 * y) = s1 at *
  generalize sid fx fy tx ty (2 * x) (2 * y + 2) = s2 at *
  generalize sid fx fy tx ty (2 * x + 2) (2 * y + 2) = s3 at *
  by_cases hb : (min fx tx ≤ x ∧ x ≤ max fx tx) ∧ (min fy ty ≤ y ∧ y ≤ max fy ty)
  · have key := key hb
    have hd : crG' fx fy tx ty x y = decide ((fx = tx ∧ fy = ty) ∨ (0 < s0 ∨ 0 < s1 ∨ 0 < s2 ∨ 0 < s3) ∧ (s0 < 0 ∨ s1 < 0 ∨ s2 < 0 ∨ s3 < 0)) := by
      show decide (inBox fx fy tx ty x y ∧ crs fx fy tx ty x y) = _
      by_cases hc : crs fx fy tx ty x y
      · rw [decide_eq_true (p := inBox fx fy tx ty x y ∧ crs fx fy tx ty x y) ⟨hb, hc⟩, decide_eq_true (key.1 hc)]
      · rw [decide_eq_false (p := inBox fx fy tx ty x y ∧ crs fx fy tx ty x y) (fun h => hc h.2), decide_eq_false (fun h => hc (key.2 h))]
    show _ = some (crG' fx fy tx ty x y)
    rw [hd]
    clear key hd
    have e : ∀ {α : Type} (u v : α), (if fx = tx then (if fy = ty then u else v) else v) = if fx = tx ∧ fy = ty then u else v := fun u v => by
      by_cases q1 : fx = tx
      · by_cases q2 : fy = ty
        · rw [if_pos q1, if_pos q2, if_pos ⟨q1, q2⟩]
        · rw [if_pos q1, if_neg q2, if_neg (fun h => q2 h.2)]
      · rw [if_neg q1, if_neg (fun h => q1 h.1)]
    simp only [e]
    have inner : (if fx = tx ∧ fy = ty then some true else if 0 < s0 ∨ 0 < s1 ∨ 0 < s2 ∨ 0 < s3 then (if s0 < 0 ∨ s1 < 0 ∨ s2 < 0 ∨ s3 < 0 then some true else some false) else some false) = some (decide ((fx = tx ∧ fy = ty) ∨ (0 < s0 ∨ 0 < s1 ∨ 0 < s2 ∨ 0 < s3) ∧ (s0 < 0 ∨ s1 < 0 ∨ s2 < 0 ∨ s3 < 0))) := by
      by_cases q1 : fx = tx ∧ fy = ty
      · rw [if_pos q1, decide_eq_true (.inl q1)]
      · rw [if_neg q1]
        by_cases q2 : 0 < s0 ∨ 0 < s1 ∨ 0 < s2 ∨ 0 < s3
        · rw [if_pos q2]
          by_cases q3 : s0 < 0 ∨ s1 < 0 ∨ s2 < 0 ∨ s3 < 0
          · rw [if_pos q3, decide_eq_true (.inr ⟨q2, q3⟩)]
          · rw [if_neg q3, decide_eq_false (fun h => h.elim q1 (fun h => q3 h.2))]
        · rw [if_neg q2, decide_eq_false (fun h => h.elim q1 (fun h => q2 h.1))]
    simp only [inner]
    clear e inner
    by_cases c1 : 2 * fx + 1 < 2 * tx + 1
    · rw [if_pos c1, if_neg (by omega), if_neg (by omega)]
      by_cases c3 : 2 * fy + 1 < 2 * ty + 1
      · rw [if_pos c3, if_neg (by omega), if_neg (by omega)]
      · rw [if_neg c3, if_neg (by omega)]
        by_cases c4 : 2 * ty + 1 < 2 * fy + 1
        · rw [if_pos c4, if_neg (by omega)]
        · rw [if_neg c4, if_neg (by omega)]
    · rw [if_neg c1, if_neg (by omega)]
      by_cases c2 : 2 * tx + 1 < 2 * fx + 1
      · rw [if_pos c2, if_neg (by omega)]
        by_cases c3 : 2 * fy + 1 < 2 * ty + 1
        · rw [if_pos c3, if_neg (by omega), if_neg (by omega)]
        · rw [if_neg c3, if_neg (by omega)]
          by_cases c4 : 2 * ty + 1 < 2 * fy + 1
          · rw [if_pos c4, if_neg (by omega)]
          · rw [if_neg c4, if_neg (by omega)]
      · rw [if_neg c2, if_neg (by omega)]
        by_cases c3 : 2 * fy + 1 < 2 * ty + 1
        · rw [if_pos c3, if_neg (by omega), if_neg (by omega)]
        · rw [if_neg c3, if_neg (by omega)]
          by_cases c4 : 2 * ty + 1 < 2 * fy + 1
          · rw [if_pos c4, if_neg (by omega)]
          · rw [if_neg c4, if_neg (by omega)]
  · rw [show crG fx fy tx ty x y = false from decide_eq_false (p := inBox fx fy tx ty x y ∧ crs fx fy tx ty x y) (fun h => hb h.1)]
    clear key
    by_cases c1 : 2 * fx + 1 < 2 * tx + 1
    · rw [if_pos c1]
      by_cases d1 : 2 * tx + 1 ≤ 2 * x
      · rw [if_pos d1]
      · rw [if_neg d1]
        by_cases d2 : 2 * x + 2 ≤ 2 * fx + 1
        · rw [if_pos d2]
        · rw [if_neg d2]
          by_cases c3 : 2 * fy + 1 < 2 * ty + 1
          · rw [if_pos c3]
            by_cases d3 : 2 * ty + 1 ≤ 2 * y
            · rw [if_pos d3]
            · rw [if_neg d3, if_pos (by omega)]
          · rw [if_neg c3]
            by_cases d3 : 2 * fy + 1 ≤ 2 * y
            · rw [if_pos d3]
            · rw [if_neg d3]
              by_cases c4 : 2 * ty + 1 < 2 * fy + 1
              · rw [if_pos c4, if_pos (by omega)]
              · rw [if_neg c4, if_pos (by omega)]
    · rw [if_neg c1]
      by_cases d1 : 2 * fx + 1 ≤ 2 * x
      · rw [if_pos d1]
      · rw [if_neg d1]
        by_cases c2 : 2 * tx + 1 < 2 * fx + 1
        · rw [if_pos c2]
          by_cases d2 : 2 * x + 2 ≤ 2 * tx + 1
          · rw [if_pos d2]
          · rw [if_neg d2]
            by_cases c3 : 2 * fy + 1 < 2 * ty + 1
            · rw [if_pos c3]
              by_cases d3 : 2 * ty + 1 ≤ 2 * y
              · rw [if_pos d3]
              · rw [if_neg d3, if_pos (by omega)]
            · rw [if_neg c3]
              by_cases d3 : 2 * fy + 1 ≤ 2 * y
              · rw [if_pos d3]
              · rw [if_neg d3]
                by_cases c4 : 2 * ty + 1 < 2 * fy + 1
                · rw [if_pos c4, if_pos (by omega)]
                · rw [if_neg c4, if_pos (by omega)]
        · rw [if_neg c2]
          by_cases d2 : 2 * x + 2 ≤ 2 * fx + 1
          · rw [if_pos d2]
          · rw [if_neg d2]
            by_cases c3 : 2 * fy + 1 < 2 * ty + 1
            · rw [if_pos c3]
              by_cases d3 : 2 * ty + 1 ≤ 2 * y
              · rw [if_pos d3]
              · rw [if_neg d3, if_pos (by omega)]
            · rw [if_neg c3]
              by_cases d3 : 2 * fy + 1 ≤ 2 * y
              · rw [if_pos d3]
              · rw [if_neg d3]
                by_cases c4 : 2 * ty + 1 < 2 * fy + 1
                · rw [if_pos c4, if_pos (by omega)]
                · rw [if_neg c4, if_pos (by omega)]
end Go.Proofs.YthffbfkcmbgghaaGreat
