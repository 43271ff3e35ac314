/-
  'CableReadings': lines, boxes, readings and their errors: the program's functions and the reference's say the same.
-/
import Derived.Test.YthffbfkcmbgghaaZIa
import Derived.Test.YthffbfkcmbgghaaZB2e
set_option linter.all false
namespace Go.Proofs.Ythffbfkcmbgghaa
open Go Go.RowKit
theorem x_limit (a lo hi : Int) : u_LimitError a lo hi = some (limE a lo hi) := by
  unfold u_LimitError limE
  by_cases h1 : a < lo
  · rw [if_pos h1, if_pos (.inl h1)]
  · rw [if_neg h1]
    by_cases h2 : hi < a
    · rw [if_pos h2, if_pos (.inr h2)]
    · rw [if_neg h2, if_neg (by omega)]
theorem x_within (n lo hi : Int) : b_Within n lo hi = some (decide (lo ≤ n ∧ n ≤ hi)) := by
  unfold b_Within
  by_cases h1 : lo ≤ n
  · by_cases h2 : n ≤ hi
    · simp [h1, h2]
    · simp [h1, h2]
  · simp [h1]
theorem x_uwithin (n m : Int) (h : 0 ≤ m ∧ m ≤ 1000000) : u_Within n m = some (decide (-m ≤ n ∧ n ≤ m)) := by
  unfold u_Within
  rw [wrapB (by omega) (by omega)]
  by_cases h1 : 0 - m ≤ n
  · by_cases h2 : n ≤ m
    · rw [if_pos h1, if_pos h2, decide_eq_true (by omega)]
    · rw [if_pos h1, if_neg h2, decide_eq_false (by omega)]
  · rw [if_neg h1, decide_eq_false (by omega)]
theorem x_runF_first : ∀ (l : List Int) (i : Nat), runF (fun _ (e : Int) (_ : Unit) => if e = 0 then (.inr () : Int ⊕ Unit) else .inl e) l i () = if firstE l = 0 then .inr () else .inl (firstE l)
  | [], _ => rfl
  | a :: r, i => by
    unfold runF firstE
    by_cases ha : a = 0
    · simp only [ha, if_true]; exact x_runF_first r (i + 1)
    · simp only [ha, if_false]
theorem x_first (fu : Nat) (l : List Int) (h : l.length < fu) (hl : l.length < 4611686018427387904) : u_FirstError fu l = some (firstE l) := by
  have := loop_run l (fun n i _ => u_FirstError_L1 fu l (l.length : Int) n (i : Int)) (fun _ (e : Int) (_ : Unit) => if e = 0 then (.inr () : Int ⊕ Unit) else .inl e) id
    (fun n s => by rw [u_FirstError_L1, if_neg (by omega)]; rfl)
    (fun n i e s he => by
      obtain ⟨h1, h2, h3⟩ := idx he
      rw [u_FirstError_L1, if_pos h1, if_pos h2, if_pos h1, h3, Option.bind_some]
      by_cases h0 : e = 0
      · simp only [h0, if_true]; rw [wrapS (by omega)]
      · simp only [h0, if_false]; rfl) fu 0 () (by omega) (by omega)
  unfold u_FirstError
  rw [show ((0 : Nat) : Int) = 0 from rfl] at this
  rw [this, List.drop_zero, x_runF_first, Option.bind_some]
  by_cases h0 : firstE l = 0
  · simp [h0]
  · simp [h0]
def fstF {α : Type} (f : α → Int) : List α → Int
  | [] => 0
  | e :: r => if f e = 0 then fstF f r else f e
theorem fb_run {α τ : Type} (l : List α) (L : Nat → Nat → Option τ) (pr : τ → Int) (f : α → Int)
    (hend : ∀ n, ∃ o, L (n + 1) l.length = some o ∧ pr o = 0)
    (hstep : ∀ n i e, l[i]? = some e → (f e = 0 ∧ L (n + 1) i = L n (i + 1)) ∨ (f e ≠ 0 ∧ ∃ o, L (n + 1) i = some o ∧ pr o = f e)) :
    ∀ n i, i ≤ l.length → l.length - i < n → ∃ o, L n i = some o ∧ pr o = fstF f (l.drop i)
  | 0, i, _, h => by omega
  | n + 1, i, hi, h => by
    rcases Nat.lt_or_ge i l.length with h1 | h1
    · have he : l[i]? = some l[i] := List.getElem?_eq_getElem h1
      rw [List.drop_eq_getElem_cons h1, fstF]
      rcases hstep n i _ he with ⟨c, e⟩ | ⟨c, o, e, p⟩
      · rw [e, if_pos c]; exact fb_run l L pr f hend hstep n (i + 1) (by omega) (by omega)
      · rw [if_neg c]; exact ⟨o, e, p⟩
    · have : i = l.length := by omega
      subst this
      rw [List.drop_of_length_le (Nat.le_refl _)]
      exact hend n
theorem fstF_ok {α : Type} {f : α → Int} : ∀ {l : List α}, fstF f l = 0 → ∀ e ∈ l, f e = 0
  | [], _, e, he => by cases he
  | a :: r, h, e, he => by
    unfold fstF at h
    by_cases c : f a = 0
    · rw [if_pos c] at h
      rcases List.mem_cons.1 he with rfl | he
      · exact c
      · exact fstF_ok h e he
    · rw [if_neg c] at h; exact absurd h c
theorem x_size1 {fu : Nat} (hf : 10 ≤ fu) (m : Int) (h : 0 ≤ m ∧ m ≤ 1000000) (a : Int) : u_SizeError fu m [a] = some (if -m ≤ a ∧ a ≤ m then 0 else 2) := by
  obtain ⟨k, rfl⟩ : ∃ k, fu = k + 2 := ⟨fu - 2, by omega⟩
  unfold u_SizeError
  rw [u_SizeError_L1, if_pos (by simp), if_pos (by omega), if_pos (by simp)]
  simp only [Int.toNat_zero, Nat.add_zero, List.getElem?_cons_zero, Option.bind_some, x_uwithin _ _ h]
  rw [u_SizeError_L1]
  by_cases c : -m ≤ a ∧ a ≤ m
  · rw [decide_eq_true c, if_pos rfl, if_neg (by simp [IntKind.wrap_i64]), if_pos c]; rfl
  · rw [decide_eq_false c, if_neg (by simp), if_neg c]; rfl
theorem x_size2 {fu : Nat} (hf : 10 ≤ fu) (m : Int) (h : 0 ≤ m ∧ m ≤ 1000000) (a b : Int) : u_SizeError fu m [a, b] = some (if (-m ≤ a ∧ a ≤ m) ∧ (-m ≤ b ∧ b ≤ m) then 0 else 2) := by
  obtain ⟨k, rfl⟩ : ∃ k, fu = k + 3 := ⟨fu - 3, by omega⟩
  have w : IntKind.wrap .i64 ((0 : Int) + 1) = 1 := by rw [wrapB] <;> omega
  have w2 : IntKind.wrap .i64 ((1 : Int) + 1) = 2 := by rw [wrapB] <;> omega
  unfold u_SizeError
  rw [u_SizeError_L1, if_pos (by simp), if_pos (by omega), if_pos (by simp)]
  simp only [Int.toNat_zero, Nat.add_zero, List.getElem?_cons_zero, Option.bind_some, x_uwithin _ _ h, w]
  by_cases c : -m ≤ a ∧ a ≤ m
  · rw [decide_eq_true c, if_pos rfl, u_SizeError_L1, if_pos (by simp), if_pos (by omega), if_pos (by simp), show (0 + (1 : Int).toNat) = 1 from rfl, List.getElem?_cons_succ, List.getElem?_cons_zero, Option.bind_some, x_uwithin _ _ h, Option.bind_some, w2]
    by_cases d : -m ≤ b ∧ b ≤ m
    · rw [decide_eq_true d, if_pos rfl, u_SizeError_L1, if_neg (by simp), if_pos ⟨c, d⟩]; rfl
    · rw [decide_eq_false d, if_neg (by simp), if_neg (by omega)]; rfl
  · rw [decide_eq_false c, if_neg (by simp), if_neg (by omega)]; rfl
/-! ### Lines -/
abbrev Lk := Int × Int × Int
abbrev Rg := Int × Int
def okL (e : Lk) : Prop := (1 ≤ e.1 ∧ e.1 ≤ 1000) ∧ (-1000 ≤ e.2.1 ∧ e.2.1 ≤ 1000) ∧ (0 ≤ e.2.2 ∧ e.2.2 ≤ 20)
instance (e : Lk) : Decidable (okL e) := by unfold okL; exact inferInstance
def fL (e : Lk) : Int := if okL e then 0 else 2
theorem q_link {fu : Nat} (hf : 10 ≤ fu) (e : Lk) : c_CheckLine_1 fu e.1 e.2.1 e.2.2 = some (fL e) := by
  unfold c_CheckLine_1
  rw [x_limit, Option.bind_some, x_size1 hf _ (by omega), Option.bind_some, x_limit, Option.bind_some, x_first fu _ (by simp <;> omega) (by simp), Option.bind_some]
  unfold fL okL
  by_cases c1 : 1 ≤ e.1 ∧ e.1 ≤ 1000
  · by_cases c2 : -1000 ≤ e.2.1 ∧ e.2.1 ≤ 1000
    · by_cases c3 : 0 ≤ e.2.2 ∧ e.2.2 ≤ 20
      · simp [firstE, limE_zero.2 c1, limE_zero.2 c3, c1, c2, c3]
      · simp [firstE, limE_zero.2 c1, limE_two c3, c2, c3]
    · simp [firstE, limE_zero.2 c1, c2]
  · simp [firstE, limE_two c1, c1]
def linE (X Z : Int) (l : List Lk) : Int :=
  if (-10000 ≤ X ∧ X ≤ 10000) ∧ (-10000 ≤ Z ∧ Z ≤ 10000) then (if (l.length : Int) = 0 then 10 else if (10 : Int) < (l.length : Int) then 8 else fstF fL l) else 2
theorem q_line {fu : Nat} (hf : 1000 ≤ fu) (X Z : Int) (l : List Lk) (hl : l.length < 100) : ∃ r, c_CheckLine fu X Z l = some r ∧ r.2 = linE X Z l := by
  unfold c_CheckLine u_CheckList_CableLink_CheckLine_1 u_FirstBad_CableLink_CheckLine_1 linE
  rw [x_size2 (by omega) _ (by omega), Option.bind_some]
  by_cases c : (-10000 ≤ X ∧ X ≤ 10000) ∧ (-10000 ≤ Z ∧ Z ≤ 10000)
  · rw [if_pos c, if_pos rfl, if_pos c]
    by_cases h0 : (l.length : Int) = 0
    · rw [if_pos (by omega), if_pos h0]; exact ⟨_, rfl, rfl⟩
    · rw [if_neg (by omega), if_neg h0]
      by_cases h5 : (10 : Int) < (l.length : Int)
      · rw [if_pos h5, if_pos h5]; exact ⟨_, rfl, rfl⟩
      · rw [if_neg h5, if_neg h5]
        obtain ⟨o, e1, e2⟩ := fb_run l (fun n i => u_FirstBad_CableLink_CheckLine_1_L1 fu l (l.length : Int) n (i : Int)) (Sum.elim (·.2) (fun _ => 0)) fL
          (fun n => ⟨.inr (), by rw [u_FirstBad_CableLink_CheckLine_1_L1, if_neg (by omega)], rfl⟩)
          (fun n i e he => by
            obtain ⟨h1, h2, h3⟩ := idx he
            rw [u_FirstBad_CableLink_CheckLine_1_L1, if_pos h1, if_pos h2, if_pos h1, h3, Option.bind_some, q_link (by omega), Option.bind_some]
            by_cases h0 : fL e = 0
            · rw [if_pos h0, wrapS (by omega)]; exact .inl ⟨h0, rfl⟩
            · rw [if_neg h0]; exact .inr ⟨h0, _, rfl, rfl⟩) fu 0 (by omega) (by omega)
        rw [show ((0 : Nat) : Int) = 0 from rfl] at e1
        rw [List.drop_zero] at e2
        rw [e1, ← e2]
        cases o <;> exact ⟨_, rfl, rfl⟩
  · rw [if_neg c, if_neg (by omega), if_neg c]; exact ⟨_, rfl, rfl⟩
theorem q_rline {fu : Nat} (hf : 1000 ≤ fu) (X Z : Int) (l : List Lk) (hl : l.length < 100) : r1_LineErr fu X Z l = some (linE X Z l) := by
  unfold r1_LineErr r1_CheckLine linE
  simp only [x_within, Option.bind_some, decide_eq_true_eq]
  by_cases c1 : -10000 ≤ X ∧ X ≤ 10000
  · by_cases c2 : -10000 ≤ Z ∧ Z ≤ 10000
    · rw [if_pos c1, if_pos c2, if_pos (And.intro c1 c2)]
      by_cases h0 : (l.length : Int) = 0
      · rw [if_pos h0, if_pos h0]; rfl
      · rw [if_neg h0, if_neg h0]
        by_cases h5 : (10 : Int) < (l.length : Int)
        · rw [if_pos h5, if_pos h5]; rfl
        · rw [if_neg h5, if_neg h5]
          obtain ⟨o, e1, e2⟩ := fb_run l (fun n i => r1_CheckLine_L1 fu l X Z n (i : Int)) (Sum.elim (fun _ => 2) (fun _ => 0)) fL
            (fun n => ⟨.inr (), by rw [r1_CheckLine_L1, if_neg (by omega)], rfl⟩)
            (fun n i e he => by
              obtain ⟨h1, h2, h3⟩ := idx he
              rw [r1_CheckLine_L1, if_pos h1, if_pos h2, h3, Option.bind_some, wrapS (by omega)]
              simp only [x_within, Option.bind_some, decide_eq_true_eq]
              unfold fL okL
              by_cases c1 : 1 ≤ e.1 ∧ e.1 ≤ 1000 <;> by_cases c2 : -1000 ≤ e.2.1 ∧ e.2.1 ≤ 1000 <;> by_cases c3 : 0 ≤ e.2.2 ∧ e.2.2 ≤ 20 <;> simp only [c1, c2, c3, if_true, if_false, and_self, and_true, and_false, true_and, false_and] <;> first | exact .inl ⟨rfl, rfl⟩ | exact .inl trivial | exact .inr ⟨by omega, _, rfl, rfl⟩) fu 0 (by omega) (by omega)
          rw [show ((0 : Nat) : Int) = 0 from rfl] at e1
          rw [List.drop_zero] at e2
          rw [e1, ← e2]
          cases o <;> rfl
    · rw [if_pos c1, if_neg c2, if_neg (by omega)]; rfl
  · rw [if_neg c1, if_neg (by omega)]; rfl
/-! ### Boxes -/
def rgE (m : Int) (r : Rg) : Int := if (-m ≤ r.1 ∧ r.1 ≤ m) ∧ (-m ≤ r.2 ∧ r.2 ≤ m) then (if r.2 < r.1 then 9 else 0) else 2
theorem q_range {fu : Nat} (hf : 10 ≤ fu) (m : Int) (h : 0 ≤ m ∧ m ≤ 1000000) (r : Rg) : u_RangeError fu r.1 r.2 m = some (rgE m r) := by
  unfold u_RangeError u_OrderError rgE
  rw [x_size2 hf _ h, Option.bind_some]
  by_cases c1 : (-m ≤ r.1 ∧ r.1 ≤ m) ∧ (-m ≤ r.2 ∧ r.2 ≤ m) <;> by_cases c2 : r.2 < r.1 <;> simp only [c1, c2, if_true, if_false, and_self] <;> rw [Option.bind_some, x_first fu _ (by simp <;> omega) (by simp)] <;> rfl
def boxE (l : List Lk) (b : List Rg) : Int := if (b.length : Int) = (l.length : Int) then fstF (rgE 50) b else 10
theorem q_box {fu : Nat} (hf : 1000 ≤ fu) (X Z : Int) (l : List Lk) (hl : l.length < 100) (b : List Rg) (hb : b.length < 100) : c_boxError fu X Z l b = some (if linE X Z l = 0 then boxE l b else linE X Z l) := by
  obtain ⟨r, e1, e2⟩ := q_line hf X Z l hl
  unfold c_boxError c_CheckBox u_FirstBad_Range_CheckBox_1 boxE
  rw [e1, Option.bind_some, ← e2]
  by_cases h0 : r.2 = 0
  · rw [if_pos h0, if_pos h0]
    by_cases h1 : (b.length : Int) = (l.length : Int)
    · rw [if_pos h1, if_pos h1]
      obtain ⟨o, e1, e2⟩ := fb_run b (fun n i => u_FirstBad_Range_CheckBox_1_L1 fu b (b.length : Int) n (i : Int)) (Sum.elim (·.2) (fun _ => 0)) (rgE 50)
        (fun n => ⟨.inr (), by rw [u_FirstBad_Range_CheckBox_1_L1, if_neg (by omega)], rfl⟩)
        (fun n i e he => by
          obtain ⟨h1, h2, h3⟩ := idx he
          rw [u_FirstBad_Range_CheckBox_1_L1, if_pos h1, if_pos h2, if_pos h1, h3, Option.bind_some]
          unfold c_CheckBox_1
          rw [q_range (by omega) _ (by omega), Option.bind_some, Option.bind_some]
          by_cases h0 : rgE 50 e = 0
          · rw [if_pos h0, wrapS (by omega)]; exact .inl ⟨h0, rfl⟩
          · rw [if_neg h0]; exact .inr ⟨h0, _, rfl, rfl⟩) fu 0 (by omega) (by omega)
      rw [show ((0 : Nat) : Int) = 0 from rfl] at e1
      rw [List.drop_zero] at e2
      rw [e1, ← e2]
      cases o <;> rfl
    · rw [if_neg h1, if_neg h1]; rfl
  · rw [if_neg h0, if_neg h0]; rfl
theorem q_rbox {fu : Nat} (hf : 1000 ≤ fu) (X Z : Int) (l : List Lk) (b : List Rg) (hb : b.length < 100) : r1_BoxErr fu X Z l b = some (boxE l b) := by
  unfold r1_BoxErr r1_CheckBox boxE
  by_cases h1 : (b.length : Int) = (l.length : Int)
  · rw [if_pos h1, if_pos h1]
    obtain ⟨o, e1, e2⟩ := fb_run b (fun n i => r1_CheckBox_L1 fu l b n (i : Int)) (Sum.elim (·.2) (fun _ => 0)) (rgE 50)
      (fun n => ⟨.inr (), by rw [r1_CheckBox_L1, if_neg (by omega)], rfl⟩)
      (fun n i e he => by
        obtain ⟨h1, h2, h3⟩ := idx he
        rw [r1_CheckBox_L1, if_pos h1, if_pos h2, h3, Option.bind_some, wrapS (by omega)]
        unfold r1_isCurrent
        simp only [x_within, Option.bind_some, decide_eq_true_eq]
        unfold rgE
        by_cases c1 : -50 ≤ e.1 ∧ e.1 ≤ 50 <;> by_cases c2 : -50 ≤ e.2 ∧ e.2 ≤ 50 <;> by_cases c3 : e.2 < e.1 <;> simp only [c1, c2, c3, if_true, if_false, and_self, and_true, and_false, true_and, false_and, Option.bind_some, Bool.false_eq_true] <;> first | exact .inl ⟨rfl, rfl⟩ | exact .inl trivial | exact .inr ⟨by omega, _, rfl, rfl⟩) fu 0 (by omega) (by omega)
    rw [show ((0 : Nat) : Int) = 0 from rfl] at e1
    rw [List.drop_zero] at e2
    rw [e1, ← e2]
    cases o <;> rfl
  · rw [if_neg h1, if_neg h1]; rfl
/-! ### Readings -/
def idE (L : Int) (i : Int) : Int := if 0 ≤ i ∧ i ≤ L - 1 then 0 else 6
theorem x_index (i L : Int) : u_IndexError i L = some (idE L i) := by
  unfold u_IndexError idE
  by_cases h1 : i < 0
  · rw [if_pos h1, if_neg (by omega)]
  · rw [if_neg h1]
    by_cases h2 : L ≤ i
    · rw [if_pos h2, if_neg (by omega)]
    · rw [if_neg h2, if_pos (by omega)]
def rdF (L : Int) (e : Lk) : Int := if idE L e.1 = 0 then rgE 20000 e.2 else idE L e.1
def rdE (l : List Lk) (x : List Lk) : Int := if (12 : Int) < (x.length : Int) then 8 else fstF (rdF (l.length : Int)) x
theorem firstE2 (a b : Int) : firstE [a, b] = if a = 0 then b else a := by
  unfold firstE firstE firstE
  by_cases h : a = 0
  · rw [if_pos h, if_pos h]; split <;> omega
  · rw [if_neg h, if_neg h]
theorem q_rd {fu : Nat} (hf : 1000 ≤ fu) (X Z : Int) (l : List Lk) (hl : l.length < 100) (b : List Rg) (hb : b.length < 100) (x : List Lk) (hx : x.length < 100) : c_readingsError fu X Z l b x = some (if linE X Z l = 0 then (if boxE l b = 0 then rdE l x else boxE l b) else linE X Z l) := by
  unfold c_readingsError u_FirstBad_CableReading_readingsError_1 rdE
  rw [q_box hf X Z l hl b hb, Option.bind_some]
  by_cases h0 : linE X Z l = 0
  · rw [if_pos h0, if_pos h0]
    by_cases h1 : boxE l b = 0
    · rw [if_pos h1, if_pos h1]
      by_cases h2 : (12 : Int) < (x.length : Int)
      · rw [if_pos h2, if_pos h2]
      · rw [if_neg h2, if_neg h2]
        obtain ⟨o, e1, e2⟩ := fb_run x (fun n i => u_FirstBad_CableReading_readingsError_1_L1 fu x l X Z (x.length : Int) n (i : Int)) (Sum.elim (·.2) (fun _ => 0)) (rdF (l.length : Int))
          (fun n => ⟨.inr (), by rw [u_FirstBad_CableReading_readingsError_1_L1, if_neg (by omega)], rfl⟩)
          (fun n i e he => by
            obtain ⟨h1, h2, h3⟩ := idx he
            rw [u_FirstBad_CableReading_readingsError_1_L1, if_pos h1, if_pos h2, if_pos h1, h3, Option.bind_some]
            unfold c_readingsError_1
            rw [x_index, Option.bind_some, q_range (by omega) _ (by omega) e.2, Option.bind_some, x_first fu _ (by simp <;> omega) (by simp), Option.bind_some, Option.bind_some, firstE2]
            rw [show (if idE (l.length : Int) e.1 = 0 then rgE 20000 e.2 else idE (l.length : Int) e.1) = rdF (l.length : Int) e from rfl]
            by_cases h0 : rdF (l.length : Int) e = 0
            · rw [if_pos h0, wrapS (by omega)]; exact .inl ⟨h0, rfl⟩
            · rw [if_neg h0]; exact .inr ⟨h0, _, rfl, rfl⟩) fu 0 (by omega) (by omega)
        rw [show ((0 : Nat) : Int) = 0 from rfl] at e1
        rw [List.drop_zero] at e2
        rw [e1, ← e2]
        cases o <;> rfl
    · rw [if_neg h1, if_neg h1]
  · simp only [if_neg h0]
theorem q_rrd {fu : Nat} (hf : 1000 ≤ fu) (X Z : Int) (l : List Lk) (hl : l.length < 100) (x : List Lk) (hx : x.length < 100) : r1_ReadingsErr fu X Z l x = some (rdE l x) := by
  unfold r1_ReadingsErr rdE
  by_cases h2 : (12 : Int) < (x.length : Int)
  · rw [if_pos h2, if_pos h2]
  · rw [if_neg h2, if_neg h2]
    obtain ⟨o, e1, e2⟩ := fb_run x (fun n i => r1_ReadingsErr_L1 fu l x X Z n (i : Int)) (Sum.elim id (fun _ => 0)) (rdF (l.length : Int))
      (fun n => ⟨.inr (), by rw [r1_ReadingsErr_L1, if_neg (by omega)], rfl⟩)
      (fun n i e he => by
        obtain ⟨h1, h2, h3⟩ := idx he
        rw [r1_ReadingsErr_L1, if_pos h1, if_pos h2, h3, Option.bind_some, wrapS (by omega), wrapB (x := (l.length : Int) - 1) (by omega) (by omega)]
        simp only [x_within, Option.bind_some, decide_eq_true_eq]
        unfold rdF idE rgE
        by_cases c0 : 0 ≤ e.1 ∧ e.1 ≤ (l.length : Int) - 1 <;> by_cases c1 : -20000 ≤ e.2.1 ∧ e.2.1 ≤ 20000 <;> by_cases c2 : -20000 ≤ e.2.2 ∧ e.2.2 ≤ 20000 <;> by_cases c3 : e.2.2 < e.2.1 <;> simp only [c0, c1, c2, c3, if_true, if_false, and_self, and_true, and_false, true_and, false_and] <;> first | exact .inl ⟨rfl, rfl⟩ | exact .inl trivial | exact .inr ⟨by omega, _, rfl, rfl⟩) fu 0 (by omega) (by omega)
    rw [show ((0 : Nat) : Int) = 0 from rfl] at e1
    rw [List.drop_zero] at e2
    rw [e1, ← e2]
    cases o <;> rfl
end Go.Proofs.Ythffbfkcmbgghaa
