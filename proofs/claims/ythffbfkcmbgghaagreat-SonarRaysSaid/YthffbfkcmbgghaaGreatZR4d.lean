/-
  'SonarRays': the lifted law is true.
-/
import Derived.Test.YthffbfkcmbgghaaGreatZR4c
import Derived.Test.YthffbfkcmbgghaaGreatZR4l
set_option linter.all false
namespace Go.Proofs.YthffbfkcmbgghaaGreat
open Go Go.RowKit
theorem rrow_run {fu : Nat} (hf : 1000 ≤ fu) {fx fy tx ty y : Int} (h1 : inG fx) (h2 : inG fy) (h3 : inG tx) (h4 : inG ty) (hy : inG y) (b : Bool) (p1 : Int) : ∀ (m n : Nat) (x : Int) (acc : List (Int × Int)), x + m = 12 → 0 ≤ x → acc.length + m ≤ 60000 → m < n → r4_Crossed_L1 fu 12 p1 fx fy tx ty b y n acc x = some (acc ++ rowP (crG fx fy tx ty) y m x)
  | _, 0, _, _, _, _, _, h => by omega
  | 0, n + 1, x, acc, hx, h0, ha, hn => by
    rw [r4_Crossed_L1, if_neg (by omega)]
    unfold rowP
    rw [List.append_nil]
  | m + 1, n + 1, x, acc, hx, h0, ha, hn => by
    have gx : inG x := by unfold inG at *; omega
    have w : IntKind.wrap .i64 (x + 1) = x + 1 := by unfold inG at gx; rw [wrapB] <;> omega
    have i1 := rrow_run hf h1 h2 h3 h4 hy b p1 m n (x + 1) (acc ++ [(x, y)]) (by omega) (by omega) (by simp; omega) (by omega)
    have i2 := rrow_run hf h1 h2 h3 h4 hy b p1 m n (x + 1) acc (by omega) (by omega) (by omega) (by omega)
    have hacc : (acc.length : Int) < 65536 := by omega
    rw [r4_Crossed_L1, rowP_s, if_pos (by omega), z_rcrosses hf h1 h2 h3 h4 gx hy, w, i1, i2, Option.bind_some]
    cases crG fx fy tx ty x y with
    | true => rw [if_pos rfl, if_pos hacc, if_pos rfl]; simp
    | false => rw [if_neg Bool.false_ne_true, if_neg Bool.false_ne_true]
theorem rgrid_run {fu : Nat} (hf : 1000 ≤ fu) {fx fy tx ty : Int} (h1 : inG fx) (h2 : inG fy) (h3 : inG tx) (h4 : inG ty) (b : Bool) : ∀ (m n : Nat) (y : Int) (acc : List (Int × Int)), y + m = 12 → 0 ≤ y → acc.length + m * 12 ≤ 50000 → m < n → r4_Crossed_L2 fu 12 12 fx fy tx ty b n acc y = some (acc ++ gridP (crG fx fy tx ty) 12 0 m y)
  | _, 0, _, _, _, _, _, h => by omega
  | 0, n + 1, y, acc, hy, h0, ha, hn => by
    rw [r4_Crossed_L2, if_neg (by omega)]
    unfold gridP
    rw [List.append_nil]
  | m + 1, n + 1, y, acc, hy, h0, ha, hn => by
    have gy : inG y := by unfold inG at *; omega
    have w : IntKind.wrap .i64 (y + 1) = y + 1 := by unfold inG at gy; rw [wrapB] <;> omega
    have row := rrow_run hf (y := y) h1 h2 h3 h4 gy b 12 12 fu 0 acc (by omega) (by omega) (by omega) (by omega)
    have len := rowP_len (crG fx fy tx ty) y 12 0
    have ih := rgrid_run hf h1 h2 h3 h4 b m n (y + 1) (acc ++ rowP (crG fx fy tx ty) y 12 0) (by omega) (by omega) (by rw [List.length_append]; omega) (by omega)
    rw [r4_Crossed_L2, if_pos (by omega), row, Option.bind_some, w, ih, gridP_s, List.append_assoc]
theorem cells_eq {fx fy tx ty : Int} (h1 : inG fx) (h2 : inG fy) (h3 : inG tx) (h4 : inG ty) : gridP (crG fx fy tx ty) 12 0 12 0 = cellsR fx fy tx ty := by
  unfold inG at *
  unfold cellsR
  refine gridP_box (by omega) (by omega) (fun a b q1 q2 q3 q4 => ?_) (fun a b q => ?_)
  · have hb : inBox fx fy tx ty a b := by unfold inBox; omega
    unfold crG crB
    by_cases c : crs fx fy tx ty a b
    · rw [decide_eq_true c, decide_eq_true (p := inBox fx fy tx ty a b ∧ crs fx fy tx ty a b) ⟨hb, c⟩]
    · rw [decide_eq_false c, decide_eq_false (p := inBox fx fy tx ty a b ∧ crs fx fy tx ty a b) (fun h => c h.2)]
  · unfold crG
    refine decide_eq_false fun h => q ?_
    have := h.1
    unfold inBox at this
    omega
theorem r_crossed {fu : Nat} (hf : 1000 ≤ fu) {fx fy tx ty : Int} (h1 : inG fx) (h2 : inG fy) (h3 : inG tx) (h4 : inG ty) (b : Bool) : r4_Crossed fu fx fy tx ty b 12 12 = some (cellsR fx fy tx ty) := by
  have g := rgrid_run hf h1 h2 h3 h4 b 12 fu 0 [] (by omega) (by omega) (by simp) (by omega)
  unfold r4_Crossed
  rw [g, Option.bind_some, List.nil_append, cells_eq h1 h2 h3 h4]
theorem side_err (fx fy tx ty : Int) (b : Bool) : r4_SideErr fx fy tx ty b = some (ryE fx fy tx ty) := by
  have w : IntKind.wrap .i64 ((12 : Int) - 1) = 11 := by rw [wrapB] <;> omega
  have ic : ∀ x y : Int, r4_isCell x y 12 12 = some (decide (inG x ∧ inG y)) := fun x y => by
    unfold r4_isCell
    rw [w, z_within, Option.bind_some, z_within, Option.bind_some]
    unfold inG
    by_cases c1 : 0 ≤ x ∧ x ≤ 11
    · rw [decide_eq_true c1, if_pos rfl]
      by_cases c2 : 0 ≤ y ∧ y ≤ 11
      · rw [decide_eq_true c2, if_pos rfl, decide_eq_true (p := (0 ≤ x ∧ x ≤ 11) ∧ (0 ≤ y ∧ y ≤ 11)) ⟨c1, c2⟩]
      · rw [decide_eq_false c2, if_neg Bool.false_ne_true, decide_eq_false (p := (0 ≤ x ∧ x ≤ 11) ∧ (0 ≤ y ∧ y ≤ 11)) (fun h => c2 h.2)]
    · rw [decide_eq_false c1, if_neg Bool.false_ne_true, decide_eq_false (p := (0 ≤ x ∧ x ≤ 11) ∧ (0 ≤ y ∧ y ≤ 11)) (fun h => c1 h.1)]
  unfold r4_SideErr r4_RayErr ryE
  rw [ic, Option.bind_some, ic, Option.bind_some]
  by_cases c1 : inG fx ∧ inG fy
  · rw [decide_eq_true c1, if_pos rfl]
    by_cases c2 : inG tx ∧ inG ty
    · rw [decide_eq_true c2, if_pos rfl, Option.bind_some, if_pos rfl, if_pos ⟨c1.1, c1.2, c2.1, c2.2⟩]
    · rw [decide_eq_false c2, if_neg Bool.false_ne_true, Option.bind_some, if_neg (by omega), if_neg (fun h => c2 ⟨h.2.2.1, h.2.2.2⟩)]
  · rw [decide_eq_false c1, if_neg Bool.false_ne_true, Option.bind_some, if_neg (by omega), if_neg (fun h => c1 ⟨h.1, h.2.1⟩)]
theorem same_run (fu : Nat) {l : List (Int × Int)} (hl : l.length < 1000) : ∀ (m n i : Nat), i + m = l.length → m < n → r4_SameCells_L1 fu l l n (i : Int) = some (.inr ())
  | _, 0, _, _, h => by omega
  | 0, n + 1, i, hi, _ => by rw [r4_SameCells_L1, if_neg (by omega)]
  | m + 1, n + 1, i, hi, hn => by
    obtain ⟨h1, h2, h3⟩ := idx (List.getElem?_eq_getElem (show i < l.length by omega))
    rw [r4_SameCells_L1, if_pos h1, if_pos h2, h3, Option.bind_some, if_pos h1, Option.bind_some, if_pos rfl, if_pos rfl, wrapS (by omega)]
    exact same_run fu hl m n (i + 1) (by omega) (by omega)
theorem same_cells {fu : Nat} (hf : 1000 ≤ fu) {l : List (Int × Int)} (hl : l.length ≤ 144) : r4_SameCells fu l l = some true := by
  have := same_run fu (l := l) (by omega) l.length fu 0 (by omega) (by omega)
  rw [show ((0 : Nat) : Int) = 0 from rfl] at this
  unfold r4_SameCells
  rw [if_pos rfl, this]; rfl
theorem ends_run (fu : Nat) (fx fy tx ty : Int) (h : Bool) {l : List (Int × Int)} (hl : l.length < 1000) : ∀ (m n i : Nat) (a b : Bool), i + m = l.length → m < n → ∃ A B, l4_SonarRays_L1 fu fx fy tx ty h l n a b (i : Int) = some (l, A, B) ∧ ((a = true ∨ (fx, fy) ∈ l.drop i) → A = true) ∧ ((b = true ∨ (tx, ty) ∈ l.drop i) → B = true)
  | _, 0, _, _, _, _, h => by omega
  | 0, n + 1, i, a, b, hi, _ => by
    rw [l4_SonarRays_L1, if_neg (by omega)]
    refine ⟨a, b, rfl, fun q => ?_, fun q => ?_⟩
    · rcases q with q | q
      · exact q
      · rw [List.drop_of_length_le (by omega)] at q; cases q
    · rcases q with q | q
      · exact q
      · rw [List.drop_of_length_le (by omega)] at q; cases q
  | m + 1, n + 1, i, a, b, hi, hn => by
    have hlt : i < l.length := by omega
    obtain ⟨h1, h2, h3⟩ := idx (List.getElem?_eq_getElem hlt)
    obtain ⟨A, B, e1, e2, e3⟩ := ends_run fu fx fy tx ty h hl m n (i + 1) (a || decide (l[i] = (fx, fy))) (b || decide (l[i] = (tx, ty))) (by omega) (by omega)
    refine ⟨A, B, ?_, fun q => e2 ?_, fun q => e3 ?_⟩
    · rw [← e1]
      generalize hE : l[i] = e at *
      obtain ⟨ex, ey⟩ := e
      rw [l4_SonarRays_L1, if_pos h1, wrapS (by omega)]
      simp only [if_pos h2, h3, Option.bind_some, Prod.mk.injEq]
      clear e1 e2 e3
      rcases Classical.propComplete (ex = fx) with r1 | r1 <;> rcases Classical.propComplete (ey = fy) with r2 | r2 <;> rcases Classical.propComplete (ex = tx) with r3 | r3 <;> rcases Classical.propComplete (ey = ty) with r4 | r4 <;> cases a <;> cases b <;>
        simp only [r1, r2, r3, r4, if_true, if_false, and_true, and_false, and_self, decide_true, decide_false, Bool.or_true, Bool.or_false, Bool.true_or, Bool.false_or, Bool.false_eq_true]
    · rw [List.drop_eq_getElem_cons hlt] at q
      rcases q with q | q
      · left; rw [q]; rfl
      · rcases List.mem_cons.1 q with q | q
        · left; rw [decide_eq_true q.symm, Bool.or_true]
        · right; exact q
    · rw [List.drop_eq_getElem_cons hlt] at q
      rcases q with q | q
      · left; rw [q]; rfl
      · rcases List.mem_cons.1 q with q | q
        · left; rw [decide_eq_true q.symm, Bool.or_true]
        · right; exact q
theorem next_run (fu : Nat) {l : List (Int × Int)} (hl : l.length < 1000) (hs : ∀ c ∈ l, inG c.1) : ∀ (m n i : Nat), i + m = l.length → m < n → l4_SonarRays_L2 fu l (l.map fun c => (c.1 + 1, c.2)) n (i : Int) = some (.inr ())
  | _, 0, _, _, h => by omega
  | 0, n + 1, i, hi, _ => by rw [l4_SonarRays_L2, if_neg (by omega)]
  | m + 1, n + 1, i, hi, hn => by
    have hlt : i < l.length := by omega
    obtain ⟨h1, h2, h3⟩ := idx (List.getElem?_eq_getElem hlt)
    have g := hs _ (List.getElem_mem hlt)
    unfold inG at g
    have e : (l.map fun c => (c.1 + 1, c.2))[0 + ((i : Int)).toNat]? = some ((l[i]).1 + 1, (l[i]).2) := by rw [List.getElem?_map, h3]; rfl
    rw [l4_SonarRays_L2, if_pos h1, if_pos h2, if_pos (by rw [List.length_map]; exact h1), e, Option.bind_some, h3, Option.bind_some, wrapB (x := (l[i]).1 + 1) (by omega) (by omega), if_pos rfl, if_pos rfl, wrapS (by omega)]
    exact next_run fu hl hs m n (i + 1) (by omega) (by omega)
theorem ryE_ok {a b c d : Int} (h : ryE a b c d = 0) : inG a ∧ inG b ∧ inG c ∧ inG d := by
  unfold ryE at h
  split at h
  · assumption
  · omega
theorem cells_back {fx fy tx ty : Int} : cellsR tx ty fx fy = cellsR fx fy tx ty := by
  unfold cellsR
  rw [show max tx fx = max fx tx by omega, show min tx fx = min fx tx by omega, show max ty fy = max fy ty by omega, show min ty fy = min fy ty by omega]
  refine gridP_congr fun a b q1 q2 q3 q4 => ?_
  have hb : inBox fx fy tx ty a b := by unfold inBox; omega
  unfold crB
  by_cases c : crs fx fy tx ty a b
  · rw [decide_eq_true c, decide_eq_true ((crs_back fx fy tx ty a b hb).2 c)]
  · rw [decide_eq_false c, decide_eq_false (fun h => c ((crs_back fx fy tx ty a b hb).1 h))]
theorem cells_next {fx fy tx ty : Int} : cellsR (fx + 1) fy (tx + 1) ty = (cellsR fx fy tx ty).map fun c => (c.1 + 1, c.2) := by
  unfold cellsR
  rw [show max (fx + 1) (tx + 1) = max fx tx + 1 by omega, show min (fx + 1) (tx + 1) = min fx tx + 1 by omega, show max fx tx + 1 - (min fx tx + 1) + 1 = max fx tx - min fx tx + 1 by omega]
  refine gridP_next fun a b => ?_
  unfold crB
  by_cases c : crs fx fy tx ty a b
  · rw [decide_eq_true c, decide_eq_true ((crs_next fx fy tx ty a b).2 c)]
  · rw [decide_eq_false c, decide_eq_false (fun h => c ((crs_next fx fy tx ty a b).1 h))]
theorem cells_mem {fx fy tx ty : Int} {c : Int × Int} : c ∈ cellsR fx fy tx ty ↔ (min fy ty ≤ c.2 ∧ c.2 ≤ max fy ty) ∧ (min fx tx ≤ c.1 ∧ c.1 ≤ max fx tx) ∧ crs fx fy tx ty c.1 c.2 := by
  unfold cellsR
  rw [gridP_mem]
  unfold crB
  rw [decide_eq_true_eq]
  constructor
  · rintro ⟨h1, h2, h3⟩; exact ⟨by omega, by omega, h3⟩
  · rintro ⟨h1, h2, h3⟩; exact ⟨by omega, by omega, h3⟩
theorem cells_len {fx fy tx ty : Int} (h1 : inG fx) (h2 : inG fy) (h3 : inG tx) (h4 : inG ty) : (cellsR fx fy tx ty).length ≤ 144 := by
  rw [← cells_eq h1 h2 h3 h4]
  exact gridP_len _ 12 0 12 0
theorem l4_SonarRays_true (fx fy tx ty : Int) (b : Bool) : ∃ fu, l4_SonarRays fu fx fy tx ty b = some true := by
  obtain ⟨fu, hf⟩ : ∃ fu : Nat, 1000 ≤ fu := ⟨1000, Nat.le_refl _⟩
  refine ⟨fu, ?_⟩
  unfold l4_SonarRays
  rw [show l4_awake = some true from rfl, Option.bind_some, if_pos rfl, p_crossed hf, Option.bind_some, side_err, Option.bind_some]
  by_cases h : ryE fx fy tx ty = 0
  · obtain ⟨h1, h2, h3, h4⟩ := ryE_ok h
    have hb : ryE tx ty fx fy = 0 := by unfold ryE; rw [if_pos ⟨h3, h4, h1, h2⟩]
    have hl := cells_len h1 h2 h3 h4
    have hfm : (fx, fy) ∈ cellsR fx fy tx ty := cells_mem.2 ⟨by dsimp only; omega, by dsimp only; omega, crs_begin fx fy tx ty⟩
    have htm : (tx, ty) ∈ cellsR fx fy tx ty := cells_mem.2 ⟨by dsimp only; omega, by dsimp only; omega, crs_end fx fy tx ty⟩
    have hne : ¬ ((cellsR fx fy tx ty).length : Int) = 0 := by
      have := List.length_pos_of_mem hfm; omega
    have hgs : ∀ c ∈ cellsR fx fy tx ty, inG c.1 := fun c hc => by
      obtain ⟨_, q, _⟩ := cells_mem.1 hc
      unfold inG at *; omega
    have w1 : IntKind.wrap .i64 (fx + 1) = fx + 1 := by unfold inG at h1; rw [wrapB] <;> omega
    have w2 : IntKind.wrap .i64 (tx + 1) = tx + 1 := by unfold inG at h3; rw [wrapB] <;> omega
    obtain ⟨A, B, e1, e2, e3⟩ := ends_run fu fx fy tx ty b (l := cellsR fx fy tx ty) (by omega) (cellsR fx fy tx ty).length fu 0 false false (by omega) (by omega)
    rw [List.drop_zero] at e2 e3
    have hA := e2 (.inr hfm)
    have hB := e3 (.inr htm)
    subst hA; subst hB
    rw [show ((0 : Nat) : Int) = 0 from rfl] at e1
    have tail : (Option.bind (l4_SonarRays_L1 fu fx fy tx ty b (cellsR fx fy tx ty) fu false false (0 : Int)) fun o16 => if o16.2.1 = true then (if o16.2.2 = true then (Option.bind (r4_SideErr (IntKind.wrap .i64 (fx + (1 : Int))) fy (IntKind.wrap .i64 (tx + (1 : Int))) ty false) fun r19 => if r19 = (0 : Int) then (Option.bind (s_CrossedBy fu (IntKind.wrap .i64 (fx + (1 : Int))) fy (IntKind.wrap .i64 (tx + (1 : Int))) ty false) fun r21 => if r21.2 = (0 : Int) then (if (r21.1.length : Int) = (o16.1.length : Int) then (Option.bind (l4_SonarRays_L2 fu o16.1 r21.1 fu (0 : Int)) fun o24 => (match o24 with | .inl y25 => none | .inr y26 => (some true))) else none) else none) else (some true)) else none) else none) = some true := by
      rw [e1, Option.bind_some]
      simp only [if_true]
      rw [w1, w2, side_err, Option.bind_some]
      by_cases q : ryE (fx + 1) fy (tx + 1) ty = 0
      · rw [if_pos q, p_crossed hf, if_pos q, Option.bind_some]
        simp only [if_true]
        rw [cells_next, if_pos (by rw [List.length_map])]
        have nr := next_run fu (l := cellsR fx fy tx ty) (by omega) hgs (cellsR fx fy tx ty).length fu 0 (by omega) (by omega)
        rw [show ((0 : Nat) : Int) = 0 from rfl] at nr
        rw [nr]; rfl
      · rw [if_neg q]
    rw [if_pos h, if_pos h]
    simp only [if_true]
    rw [r_crossed hf h1 h2 h3 h4, Option.bind_some, same_cells hf hl, Option.bind_some, if_pos rfl]
    cases b with
    | true =>
      rw [if_pos rfl, p_crossed hf, if_pos hb, Option.bind_some]
      simp only [if_true]
      rw [cells_back, same_cells hf hl, Option.bind_some, if_pos rfl, if_neg hne]
      exact tail
    | false =>
      rw [if_neg Bool.false_ne_true, p_crossed hf, if_pos hb, Option.bind_some]
      simp only [if_true]
      rw [cells_back, same_cells hf hl, Option.bind_some, if_pos rfl, if_neg hne]
      exact tail
  · rw [if_neg h, if_neg h]
    simp
end Go.Proofs.YthffbfkcmbgghaaGreat
