/-
  Nets and boxes: the program's functions and the reference's say the same.
-/
import Derived.Test.YtaafodbiigdbaaaGreatZIa
import Derived.Test.YtaafodbiigdbaaaGreatZN5e
set_option linter.all false
namespace Go.Proofs.YtaafodbiigdbaaaGreat
open Go Go.RowKit
theorem x_limit (a lo hi : Int) : u_LimitError a lo hi = some (limE a lo hi) := by
  unfold u_LimitError limE
  by_cases h1 : a < lo
  · rw [if_pos h1, if_pos (.inl h1)]
  · rw [if_neg h1]
    by_cases h2 : hi < a
    · rw [if_pos h2, if_pos (.inr h2)]
    · rw [if_neg h2, if_neg (by omega)]
theorem x_within (n lo hi : Int) : b_Within n lo hi = some (decide (lo ≤ n ∧ n ≤ hi)) := by
  unfold b_Within
  by_cases h1 : lo ≤ n
  · by_cases h2 : n ≤ hi
    · simp [h1, h2]
    · simp [h1, h2]
  · simp [h1]
theorem x_runF_first : ∀ (l : List Int) (i : Nat), runF (fun _ (e : Int) (_ : Unit) => if e = 0 then (.inr () : Int ⊕ Unit) else .inl e) l i () = if firstE l = 0 then .inr () else .inl (firstE l)
  | [], _ => rfl
  | a :: r, i => by
    unfold runF firstE
    by_cases ha : a = 0
    · simp only [ha, if_true]; exact x_runF_first r (i + 1)
    · simp only [ha, if_false]
theorem x_first (fu : Nat) (l : List Int) (h : l.length < fu) (hl : l.length < 4611686018427387904) : u_FirstError fu l = some (firstE l) := by
  have := loop_run l (fun n i _ => u_FirstError_L1 fu l (l.length : Int) n (i : Int)) (fun _ (e : Int) (_ : Unit) => if e = 0 then (.inr () : Int ⊕ Unit) else .inl e) id
    (fun n s => by rw [u_FirstError_L1, if_neg (by omega)]; rfl)
    (fun n i e s he => by
      obtain ⟨h1, h2, h3⟩ := idx he
      rw [u_FirstError_L1, if_pos h1, if_pos h2, if_pos h1, h3, Option.bind_some]
      by_cases h0 : e = 0
      · simp only [h0, if_true]; rw [wrapS (by omega)]
      · simp only [h0, if_false]; rfl) fu 0 () (by omega) (by omega)
  unfold u_FirstError
  rw [show ((0 : Nat) : Int) = 0 from rfl] at this
  rw [this, List.drop_zero, x_runF_first, Option.bind_some]
  by_cases h0 : firstE l = 0
  · simp [h0]
  · simp [h0]
/-! ### Names -/
theorem strOf_zero : Cm.strOf 0 = ByteArray.empty := by
  unfold Cm.strOf
  rw [show Cm.zigI 0 = 0 from rfl, Cm.decN]; rfl
theorem sln_nn (s : Int) : 0 ≤ Cm.sln s := by unfold Cm.sln; omega
theorem sln_zero : Cm.sln 0 = 0 := by unfold Cm.sln; rw [strOf_zero]; rfl
theorem sln_pos {s : Int} (h : s ≠ 0) : 0 < Cm.sln s := by
  rcases Int.lt_or_le 0 (Cm.sln s) with c | c
  · exact c
  · exfalso
    apply h
    apply Cm.strOf_inj
    rw [strOf_zero]
    have h0 : (Cm.strOf s).size = 0 := by unfold Cm.sln at c; omega
    generalize Cm.strOf s = b at h0
    obtain ⟨b⟩ := b
    have : b.size = 0 := h0
    rw [Array.eq_empty_of_size_eq_zero this]; rfl
def let1 (c : Int) : Bool := decide ((97 ≤ c ∧ c ≤ 122) ∨ (65 ≤ c ∧ c ≤ 90))
def dig1 (c : Int) : Bool := decide (48 ≤ c ∧ c ≤ 57)
def oth1 (c : Int) : Bool := dig1 c || decide (c = 45)
theorem x_letter (c : Int) : u_isLetter c = some (let1 c) := by
  unfold u_isLetter let1
  by_cases h1 : 97 ≤ c <;> by_cases h2 : c ≤ 122 <;> by_cases h3 : 65 ≤ c <;> by_cases h4 : c ≤ 90 <;> simp [h1, h2, h3, h4]
theorem x_digit (c : Int) : u_isDigit c = some (dig1 c) := by
  unfold u_isDigit dig1
  by_cases h1 : 48 ≤ c <;> by_cases h2 : c ≤ 57 <;> simp [h1, h2]
def al (s : Int) : Nat → Nat → Bool
  | 0, _ => true
  | m + 1, i => (let1 (Cm.sat s (i : Int)) || (decide (i ≠ 0) && oth1 (Cm.sat s (i : Int)))) && al s m (i + 1)
def al' (s : Int) : Nat → Nat → Bool
  | 0, _ => true
  | m + 1, i => (let1 (Cm.sat s (i : Int)) || oth1 (Cm.sat s (i : Int))) && al' s m (i + 1)
theorem al_al' (s : Int) : ∀ m i, i ≠ 0 → al' s m i = al s m i
  | 0, _, _ => rfl
  | m + 1, i, h => by
    unfold al al'
    rw [al_al' s m (i + 1) (by omega)]
    simp [h]
def nm (s : Int) : Bool := decide (1 ≤ Cm.sln s ∧ Cm.sln s ≤ 12) && al s (Cm.sln s).toNat 0
theorem x_nameL (fu : Nat) (s : Int) {L : Nat} (hL : Cm.sln s = (L : Int)) (h12 : L ≤ 12) : ∀ n i, i ≤ L → L - i < n → u_isName_L1 fu s (L : Int) n ((i : Nat) : Int) = some (if al' s (L - i) i then .inr () else .inl ())
  | 0, i, _, h => by omega
  | n + 1, i, hi, h => by
    rw [u_isName_L1]
    rcases Nat.lt_or_ge i L with h1 | h1
    · have ih := x_nameL fu s hL h12 n (i + 1) (by omega) (by omega)
      rw [if_pos (by omega), if_pos (by omega), if_pos (by omega), x_letter, Option.bind_some, wrapS (by omega), ih, show L - i = (L - (i + 1)) + 1 by omega, al']
      cases hl : let1 (Cm.sat s (i : Int)) with
      | true => simp
      | false =>
        rw [if_neg (by decide), x_digit, Option.bind_some]
        unfold oth1
        cases hd : dig1 (Cm.sat s (i : Int)) with
        | true => simp
        | false =>
          by_cases h5 : Cm.sat s (i : Int) = 45
          · simp [h5]
          · simp [h5]
    · rw [if_neg (by omega), show L - i = 0 by omega]; rfl
theorem x_name (fu : Nat) (hf : 100 ≤ fu) (s : Int) : u_isName fu s = some (nm s) := by
  unfold u_isName nm
  by_cases h0 : s = 0
  · subst h0
    rw [if_pos rfl, sln_zero]; rfl
  · have hp := sln_pos h0
    rw [if_neg h0]
    by_cases h12 : 12 < Cm.sln s
    · rw [if_pos h12, decide_eq_false (by omega)]; rfl
    · obtain ⟨L, hL⟩ := Int.eq_ofNat_of_zero_le (sln_nn s)
      have e := x_nameL fu s hL (by omega) fu 0 (by omega) (by omega)
      rw [show ((0 : Nat) : Int) = 0 from rfl, Nat.sub_zero] at e
      rw [if_neg h12, if_pos hp, x_letter, Option.bind_some, hL, decide_eq_true (by omega), Int.toNat_natCast, e]
      obtain ⟨m, rfl⟩ : ∃ m, L = m + 1 := ⟨L - 1, by omega⟩
      rw [al, al', al_al' s m 1 (by omega), show ((0 : Nat) : Int) = 0 from rfl]
      cases let1 (Cm.sat s 0) with
      | false => simp
      | true =>
        simp only [Bool.true_or, Bool.true_and, if_true]
        cases al s m 1 <;> rfl
theorem x_refNameL (fu : Nat) (s : Int) {L : Nat} (hL : Cm.sln s = (L : Int)) (h12 : L ≤ 12) : ∀ n i, i ≤ L → L - i < n → b_IsName_L1 fu s n ((i : Nat) : Int) = some (if al s (L - i) i then .inr () else .inl ())
  | 0, i, _, h => by omega
  | n + 1, i, hi, h => by
    rw [b_IsName_L1]
    rcases Nat.lt_or_ge i L with h1 | h1
    · have ih := x_refNameL fu s hL h12 n (i + 1) (by omega) (by omega)
      rw [if_pos (by omega), if_pos (by omega), wrapS (by omega), ih, show L - i = (L - (i + 1)) + 1 by omega, al]
      generalize Cm.sat s (i : Int) = c
      generalize al s (L - (i + 1)) (i + 1) = r
      unfold let1 oth1 dig1
      by_cases a1 : 97 ≤ c <;> by_cases a2 : c ≤ 122 <;> by_cases a3 : 65 ≤ c <;> by_cases a4 : c ≤ 90 <;> simp only [a1, a2, a3, a4, if_true, if_false, and_self, and_true, true_and, and_false, false_and, or_true, true_or, or_false, false_or, decide_true, decide_false, Bool.true_or, Bool.false_or, Bool.true_and, Bool.false_and] <;>
        (by_cases a5 : i = 0
         · subst a5; simp
         · have a5' : ¬ ((i : Nat) : Int) = 0 := by omega
           rw [if_neg a5']
           by_cases a6 : c = 45
           · subst a6; simp [a5]
           · rw [if_neg a6]
             by_cases a7 : c < 48
             · rw [if_pos a7]
               have : ¬ 48 ≤ c := by omega
               simp [a5, a6, this]
             · rw [if_neg a7]
               by_cases a8 : 57 < c
               · rw [if_pos a8]
                 have : ¬ c ≤ 57 := by omega
                 simp [a5, a6, this]
               · rw [if_neg a8]
                 have b1 : 48 ≤ c := by omega
                 have b2 : c ≤ 57 := by omega
                 simp [a5, a6, b1, b2])
    · rw [if_neg (by omega), show L - i = 0 by omega]; rfl
theorem x_refName (fu : Nat) (hf : 100 ≤ fu) (s : Int) : b_IsName fu s = some (nm s) := by
  unfold b_IsName nm
  by_cases h0 : Cm.sln s < 1
  · rw [if_pos h0, decide_eq_false (by omega)]; rfl
  · rw [if_neg h0]
    by_cases h12 : 12 < Cm.sln s
    · rw [if_pos h12, decide_eq_false (by omega)]; rfl
    · obtain ⟨L, hL⟩ := Int.eq_ofNat_of_zero_le (sln_nn s)
      have e := x_refNameL fu s hL (by omega) fu 0 (by omega) (by omega)
      rw [show ((0 : Nat) : Int) = 0 from rfl, Nat.sub_zero] at e
      rw [if_neg h12, e, Option.bind_some, hL, decide_eq_true (by omega), Int.toNat_natCast]
      cases al s L 0 <;> rfl
/-! ### Errors of lists -/
theorem x_index (fu : Nat) (l : List Int) (s : Int) (hl : l.length < 1000) : ∀ n i, i ≤ l.length → l.length - i < n → ∃ x, slices_Index_string_string_L1 fu l s (l.length : Int) n ((i : Nat) : Int) = some x ∧ (if s ∈ l.drop i then ∃ j : Nat, x = .inl (j : Int) else x = .inr ())
  | 0, i, _, h => by omega
  | n + 1, i, hi, h => by
    rw [slices_Index_string_string_L1]
    rcases Nat.lt_or_ge i l.length with h1 | h1
    · obtain ⟨a1, a2, a3⟩ := idx (List.getElem?_eq_getElem h1)
      rw [if_pos a1, if_pos a2, if_pos a1, a3, Option.bind_some, List.drop_eq_getElem_cons h1]
      by_cases c : s = l[i]
      · rw [if_pos c]
        refine ⟨_, rfl, ?_⟩
        rw [if_pos (by rw [c]; exact List.mem_cons_self)]
        exact ⟨i, rfl⟩
      · rw [if_neg c, wrapS (by omega)]
        obtain ⟨x, e1, e2⟩ := x_index fu l s hl n (i + 1) (by omega) (by omega)
        refine ⟨x, e1, ?_⟩
        simp only [List.mem_cons, c, false_or]
        exact e2
    · rw [if_neg (by omega), List.drop_of_length_le h1]
      exact ⟨_, rfl, by simp⟩
theorem x_contains (fu : Nat) (l : List Int) (s : Int) (hl : l.length < 1000) (hf : l.length < fu) : slices_Contains_string_string fu l s = some (decide (s ∈ l)) := by
  unfold slices_Contains_string_string slices_Index_string_string
  obtain ⟨x, e1, e2⟩ := x_index fu l s hl fu 0 (by omega) (by omega)
  rw [show ((0 : Nat) : Int) = 0 from rfl] at e1
  rw [List.drop_zero] at e2
  rw [e1, Option.bind_some]
  by_cases c : s ∈ l
  · rw [if_pos c] at e2
    obtain ⟨j, rfl⟩ := e2
    rw [decide_eq_true c]
    simp only [Option.bind_some]
    rw [if_pos (by omega)]
  · rw [if_neg c] at e2
    subst e2
    rw [decide_eq_false c]; rfl
theorem n_cons {α : Type} {l pre r : List α} {a : α} (h : l = pre ++ a :: r) : ((pre.length : Nat) : Int) < (l.length : Int) ∧ (0 : Int) ≤ ((pre.length : Nat) : Int) ∧ l[0 + (((pre.length : Nat) : Int)).toNat]? = some a ∧ pre.length < l.length := by
  subst h
  rw [Int.toNat_natCast, Nat.zero_add]
  simp
  omega
def okS (m : Int) (l : List Int) : Bool := l.all fun x => decide (-m ≤ x ∧ x ≤ m)
theorem n_size_L1 (fu : Nat) (l : List Int) (m : Int) (hm : 0 ≤ m ∧ m ≤ 1000000) (hl : l.length < 4611686018427387904) : ∀ (r pre : List Int) (n : Nat), l = pre ++ r → r.length < n → u_SizeError_L1 fu l m (l.length : Int) n ((pre.length : Nat) : Int) = some (if okS m r = true then .inr () else .inl ())
  | _, _, 0, _, h => by omega
  | [], pre, n + 1, h, _ => by
    subst h
    rw [u_SizeError_L1, if_neg (by simp)]
    rfl
  | a :: r, pre, n + 1, h, hn => by
    obtain ⟨h1, h2, h3, h4⟩ := n_cons h
    rw [List.length_cons] at hn
    have ih := n_size_L1 fu l m hm hl r (pre ++ [a]) n (by simp [h]) (by omega)
    rw [show (pre ++ [a]).length = pre.length + 1 by simp] at ih
    rw [u_SizeError_L1, if_pos h1, if_pos h2, if_pos h1, h3, Option.bind_some]
    unfold u_Within
    rw [wrapB (by omega) (by omega), wrapS (by omega), ih]
    have hc : okS m (a :: r) = (decide (-m ≤ a ∧ a ≤ m) && okS m r) := rfl
    rw [hc]
    by_cases c1 : 0 - m ≤ a
    · by_cases c2 : a ≤ m
      · rw [if_pos c1, if_pos c2, decide_eq_true ⟨by omega, c2⟩, Bool.true_and, Option.bind_some, if_pos rfl]
      · rw [if_pos c1, if_neg c2, decide_eq_false (by omega)]; rfl
    · rw [if_neg c1, decide_eq_false (by omega)]; rfl
theorem n_size (fu : Nat) (l : List Int) (m : Int) (hm : 0 ≤ m ∧ m ≤ 1000000) (h : l.length < fu) (hl : l.length < 4611686018427387904) : u_SizeError fu m l = some (if okS m l = true then 0 else 2) := by
  have e := n_size_L1 fu l m hm hl l [] fu rfl h
  rw [List.length_nil, show ((0 : Nat) : Int) = 0 from rfl] at e
  unfold u_SizeError
  rw [e, Option.bind_some]
  cases okS m l <;> rfl
def allE (lo hi : Int) : List Int → Int
  | [] => 0
  | a :: r => if limE a lo hi = 0 then allE lo hi r else limE a lo hi
theorem n_lims_L1 (fu : Nat) (l : List Int) (lo hi : Int) (hl : l.length < 4611686018427387904) : ∀ (r pre : List Int) (n : Nat), l = pre ++ r → r.length < n → (u_FirstBad_int_LimitsError_1_L1 fu l lo hi (l.length : Int) n ((pre.length : Nat) : Int)).map (fun o => match o with | .inl y => y.2 | .inr _ => 0) = some (allE lo hi r)
  | _, _, 0, _, h => by omega
  | [], pre, n + 1, h, _ => by
    subst h
    rw [u_FirstBad_int_LimitsError_1_L1, if_neg (by simp)]
    rfl
  | a :: r, pre, n + 1, h, hn => by
    obtain ⟨h1, h2, h3, h4⟩ := n_cons h
    rw [u_FirstBad_int_LimitsError_1_L1, if_pos h1, if_pos h2, if_pos h1, h3, Option.bind_some]
    unfold u_LimitsError_1
    rw [x_limit, Option.bind_some, Option.bind_some]
    rw [List.length_cons] at hn
    by_cases ha : limE a lo hi = 0
    · rw [if_pos ha, wrapS (by omega), show pre.length + 1 = (pre ++ [a]).length by simp, n_lims_L1 fu l lo hi hl r (pre ++ [a]) n (by simp [h]) (by omega)]
      simp only [allE, ha, if_true]
    · rw [if_neg ha]
      simp only [allE, ha, if_false, Option.map_some]
theorem n_limits (fu : Nat) (l : List Int) (lo hi : Int) (h : l.length < fu) (hl : l.length < 4611686018427387904) : u_LimitsError fu lo hi l = some (allE lo hi l) := by
  have := n_lims_L1 fu l lo hi hl l [] fu rfl h
  rw [List.length_nil, show ((0 : Nat) : Int) = 0 from rfl] at this
  obtain ⟨o, h1, h2⟩ := Option.map_eq_some_iff.1 this
  unfold u_LimitsError u_FirstBad_int_LimitsError_1
  rw [h1]
  cases o <;> simp_all
def ordE (a b c d e f : Int) : Int := if b < a ∨ d < c ∨ f < e then 9 else 0
theorem n_order {fu : Nat} (hf : 8 ≤ fu) (a b c d e f : Int) : x_box_orderError fu a b c d e f = some (ordE a b c d e f) := by
  obtain ⟨g, rfl⟩ : ∃ g, fu = g + 4 := ⟨fu - 4, by omega⟩
  unfold x_box_orderError u_FirstBad_Range_OrderError ordE
  simp only [u_FirstBad_Range_OrderError_L1, u_OrderError, List.length_cons, List.length_nil]
  rw [show IntKind.wrap .i64 ((0 : Int) + 1) = 1 from wrapB (by omega) (by omega), show IntKind.wrap .i64 ((1 : Int) + 1) = 2 from wrapB (by omega) (by omega), show IntKind.wrap .i64 ((2 : Int) + 1) = 3 from wrapB (by omega) (by omega)]
  by_cases h1 : b < a <;> by_cases h2 : d < c <;> by_cases h3 : f < e <;> simp [h1, h2, h3]
/-! ### Nets -/
def worE (a b c d e f : Int) : Int := if ¬ (okS 10000 [a, b, c, d] = true) ∨ ¬ allE 0 10000 [e, f] = 0 then 2 else ordE a b c d e f
theorem n_world {fu : Nat} (hf : 8 ≤ fu) (a b c d e f : Int) : x_worldError fu a b c d e f = some (worE a b c d e f) := by
  unfold x_worldError x_boxOf worE
  rw [n_size _ _ _ (by omega) (by simp; omega) (by simp), n_limits _ _ _ _ (by simp; omega) (by simp), Option.bind_some, Option.bind_some, Option.bind_some, n_order hf, Option.bind_some, x_first _ _ (by simp; omega) (by simp), Option.bind_some]
  congr 1
  have hl : allE 0 10000 [e, f] = 0 ∨ allE 0 10000 [e, f] = 2 := by
    simp only [allE, limE]; (repeat' split) <;> omega
  rcases hl with hl | hl <;> cases hs : okS 10000 [a, b, c, d] <;> simp [firstE, hl] <;> (intro h; exact h.symm)
abbrev Bn := Int × Int × Int × Int
def bnE (names : List Int) (e : Bn) : Int := if nm e.1 then (if e.1 ∈ names then 5 else if okS 10000 [e.2.1, e.2.2.1, e.2.2.2] = true then 0 else 2) else 4
theorem n_beacon (fu : Nat) (hf : 1000 ≤ fu) (names : List Int) (hn : names.length < 100) (e : Bn) : ∃ q, x_CheckNet_1_2 fu e.1 e.2.1 e.2.2.1 e.2.2.2 names 5 = some (bnE names e, q) ∧ (bnE names e = 0 → q = names ++ [e.1]) := by
  unfold x_CheckNet_1_2 u_NameErrors_1_2 u_NameError bnE
  rw [x_name fu (by omega), n_size _ _ _ (by omega) (by simp; omega) (by simp), Option.bind_some]
  cases h1 : nm e.1 with
  | false =>
    simp only [Bool.false_eq_true, if_false, Option.bind_some]
    rw [if_neg (by omega), Option.bind_some, x_first _ _ (by simp; omega) (by simp), Option.bind_some]
    exact ⟨_, by simp [firstE]; rfl, fun h => by omega⟩
  | true =>
    simp only [if_true, Option.bind_some]
    rw [x_contains fu names e.1 (by omega) (by omega), Option.bind_some]
    by_cases h2 : e.1 ∈ names
    · simp only [h2, decide_true, if_true, Option.bind_some]
      rw [x_first _ _ (by simp; omega) (by simp), Option.bind_some]
      exact ⟨_, by simp [firstE]; rfl, fun h => by omega⟩
    · simp only [h2, decide_false, Bool.false_eq_true, if_false]
      rw [if_pos (by omega), Option.bind_some, x_first _ _ (by simp; omega) (by simp), Option.bind_some]
      cases h3 : okS 10000 [e.2.1, e.2.2.1, e.2.2.2] <;> exact ⟨_, by simp [firstE], fun _ => rfl⟩
def runB : List Bn → List Bn → Int × Int
  | _, [] => (0, 0)
  | pre, e :: r => if bnE (pre.map (·.1)) e = 0 then runB (pre ++ [e]) r else (((pre.length : Nat) : Int), bnE (pre.map (·.1)) e)
theorem n_fb (fu : Nat) (hf : 1000 ≤ fu) (l : List Bn) (hl : l.length < 50) : ∀ (r pre : List Bn) (n : Nat), l = pre ++ r → r.length < n →
    ∃ o, u_FirstBad_FixBeacon_CheckNet_1_L1 fu l 5 (l.length : Int) n (pre.map (·.1)) ((pre.length : Nat) : Int) = some o ∧ (match o with | .inl y => runB pre r = (y.2.1, y.2.2) | .inr _ => runB pre r = (0, 0))
  | _, _, 0, _, h => by omega
  | [], pre, n + 1, h, _ => by
    subst h
    rw [u_FirstBad_FixBeacon_CheckNet_1_L1, if_neg (by simp)]
    exact ⟨_, rfl, rfl⟩
  | e :: r, pre, n + 1, h, hn => by
    obtain ⟨g1, g2, g3, g4⟩ := n_cons h
    rw [List.length_cons] at hn
    obtain ⟨q, e1, e2⟩ := n_beacon fu hf (pre.map (·.1)) (by rw [List.length_map]; omega) e
    rw [u_FirstBad_FixBeacon_CheckNet_1_L1, if_pos g1, if_pos g2, if_pos g1, g3, Option.bind_some, e1, Option.bind_some]
    unfold runB
    by_cases he : bnE (pre.map (·.1)) e = 0
    · simp only [he, if_true]
      rw [wrapS (by omega), e2 he, show pre.map (·.1) ++ [e.1] = (pre ++ [e]).map (·.1) by simp, show pre.length + 1 = (pre ++ [e]).length by simp]
      exact n_fb fu hf l hl r (pre ++ [e]) n (by simp [h]) (by omega)
    · simp only [if_neg he]
      exact ⟨_, rfl, rfl⟩
def netV (a b c d e f : Int) (l : List Bn) : Int × Int := if worE a b c d e f = 0 then (if (6 : Int) < (l.length : Int) then (0, 8) else runB [] l) else (0, worE a b c d e f)
theorem n_net (fu : Nat) (hf : 1000 ≤ fu) (a b c d e f : Int) (l : List Bn) (hl : l.length < 50) : x_CheckNet fu a b c d e f l = some (netV a b c d e f l) := by
  unfold x_CheckNet netV
  rw [n_world (by omega), Option.bind_some]
  by_cases h : worE a b c d e f = 0
  · rw [if_pos h, if_pos h]
    unfold u_CheckList_FixBeacon_CheckNet_1
    rw [if_neg (show ¬ (l.length : Int) < 0 by omega)]
    by_cases c1 : (6 : Int) < (l.length : Int)
    · rw [if_pos c1, if_pos c1, Option.bind_some]
    · rw [if_neg c1, if_neg c1]
      obtain ⟨o, e1, e2⟩ := n_fb fu hf l hl l [] fu rfl (by omega)
      rw [List.length_nil, show ((0 : Nat) : Int) = 0 from rfl, List.map_nil] at e1
      unfold u_FirstBad_FixBeacon_CheckNet_1
      rw [e1]
      cases o with
      | inl y => simp only at e2; simp only [Option.bind_some, e2]
      | inr y => simp only at e2; simp only [Option.bind_some, e2]
  · rw [if_neg h, if_neg h]
/-! ### The reference -/
theorem r_world (fu : Nat) (hf : 8 ≤ fu) (l : List Bn) (p1 p2 p3 p4 p5 p6 a b c d e f : Int) : r5_CheckNet_L1 fu l p1 p2 p3 p4 p5 p6 a b c d e f fu 0 = some (if okS 10000 [a, b, c, d] = true ∧ allE 0 10000 [e, f] = 0 then .inr () else .inl ()) := by
  obtain ⟨g, rfl⟩ : ∃ g, fu = g + 4 := ⟨fu - 4, by omega⟩
  simp only [r5_CheckNet_L1, x_within, Option.bind_some, decide_eq_true_eq]
  rw [show IntKind.wrap .i64 ((0 : Int) + 1) = 1 from wrapB (by omega) (by omega), show IntKind.wrap .i64 ((1 : Int) + 1) = 2 from wrapB (by omega) (by omega), show IntKind.wrap .i64 ((2 : Int) + 1) = 3 from wrapB (by omega) (by omega)]
  have e1 : okS 10000 [a, b, c, d] = true ↔ ((-10000 ≤ a ∧ a ≤ 10000) ∧ (-10000 ≤ b ∧ b ≤ 10000) ∧ (-10000 ≤ c ∧ c ≤ 10000) ∧ (-10000 ≤ d ∧ d ≤ 10000)) := by simp [okS]
  have e2 : allE 0 10000 [e, f] = 0 ↔ ((0 ≤ e ∧ e ≤ 10000) ∧ (0 ≤ f ∧ f ≤ 10000)) := by
    simp only [allE, limE]; (repeat' split) <;> omega
  simp only [e1, e2]
  by_cases h1 : -10000 ≤ a ∧ a ≤ 10000 <;> by_cases h2 : -10000 ≤ b ∧ b ≤ 10000 <;> by_cases h3 : -10000 ≤ c ∧ c ≤ 10000 <;> by_cases h4 : -10000 ≤ d ∧ d ≤ 10000 <;> by_cases h5 : 0 ≤ e ∧ e ≤ 10000 <;> by_cases h6 : 0 ≤ f ∧ f ≤ 10000 <;> simp [h1, h2, h3, h4, h5, h6]
theorem r_empty (a b c d e f : Int) : r5_IsEmpty a b c d e f = some (decide (b < a ∨ d < c ∨ f < e)) := by
  unfold r5_IsEmpty r5_Sides
  rw [Option.bind_some]
  by_cases h1 : b < a <;> by_cases h2 : d < c <;> by_cases h3 : f < e <;> simp [h1, h2, h3]
theorem r_twice (fu : Nat) (l pre r : List Bn) (e : Bn) (h : l = pre ++ e :: r) (hl : l.length < 50) (p1 p2 p3 p4 p5 p6 : Int) : ∀ (r2 q : List Bn) (n : Nat), pre = q ++ r2 → r2.length < n →
    r5_CheckNet_L2 fu l p1 p2 p3 p4 p5 p6 ((pre.length : Nat) : Int) n ((q.length : Nat) : Int) = some (if e.1 ∈ r2.map (·.1) then .inl () else .inr ())
  | _, _, 0, _, h => by omega
  | [], q, n + 1, hq, _ => by
    rw [List.append_nil] at hq
    subst hq
    rw [r5_CheckNet_L2, if_neg (by omega)]
    simp
  | k :: r2, q, n + 1, hq, hn => by
    obtain ⟨g1, g2, g3, g4⟩ := n_cons hq
    rw [List.length_cons] at hn
    obtain ⟨q1, q2, q3, q4⟩ := n_cons h
    have hk : l[0 + (((q.length : Nat) : Int)).toNat]? = some k := by
      rw [h, Int.toNat_natCast, Nat.zero_add, List.getElem?_append_left g4]
      rwa [Int.toNat_natCast, Nat.zero_add] at g3
    have rc := r_twice fu l pre r e h hl p1 p2 p3 p4 p5 p6 r2 (q ++ [k]) n (by simp [hq]) (by omega)
    rw [show (q ++ [k]).length = q.length + 1 by simp] at rc
    rw [r5_CheckNet_L2, if_pos g1, if_pos g2, if_pos (by omega), hk, Option.bind_some, if_pos q2, if_pos q1, q3, Option.bind_some, wrapS (by omega)]
    by_cases c1 : k.1 = e.1
    · rw [if_pos c1, if_pos (by rw [List.map_cons, c1]; exact List.mem_cons_self)]
    · rw [if_neg c1, rc]
      by_cases m : e.1 ∈ r2.map (·.1)
      · rw [if_pos m, if_pos (by rw [List.map_cons]; exact List.mem_cons_of_mem _ m)]
      · rw [if_neg m, if_neg (by
          rw [List.map_cons, List.mem_cons]
          rintro (h | h)
          · exact c1 h.symm
          · exact m h)]
theorem r_place (fu : Nat) (hf : 8 ≤ fu) (l : List Bn) (p1 p2 p3 p4 p5 p6 p7 a b c : Int) : r5_CheckNet_L3 fu l p1 p2 p3 p4 p5 p6 p7 a b c fu 0 = some (if okS 10000 [a, b, c] = true then .inr () else .inl ()) := by
  obtain ⟨g, rfl⟩ : ∃ g, fu = g + 4 := ⟨fu - 4, by omega⟩
  simp only [r5_CheckNet_L3, x_within, Option.bind_some, decide_eq_true_eq]
  rw [show IntKind.wrap .i64 ((0 : Int) + 1) = 1 from wrapB (by omega) (by omega), show IntKind.wrap .i64 ((1 : Int) + 1) = 2 from wrapB (by omega) (by omega), show IntKind.wrap .i64 ((2 : Int) + 1) = 3 from wrapB (by omega) (by omega)]
  have e1 : okS 10000 [a, b, c] = true ↔ ((-10000 ≤ a ∧ a ≤ 10000) ∧ (-10000 ≤ b ∧ b ≤ 10000) ∧ (-10000 ≤ c ∧ c ≤ 10000)) := by simp [okS]
  simp only [e1]
  by_cases h1 : -10000 ≤ a ∧ a ≤ 10000 <;> by_cases h2 : -10000 ≤ b ∧ b ≤ 10000 <;> by_cases h3 : -10000 ≤ c ∧ c ≤ 10000 <;> simp [h1, h2, h3]
theorem r_run (fu : Nat) (hf : 1000 ≤ fu) (l : List Bn) (hl : l.length < 50) (p1 p2 p3 p4 p5 p6 : Int) : ∀ (r pre : List Bn) (n : Nat), l = pre ++ r → r.length < n →
    ∃ o, r5_CheckNet_L4 fu l p1 p2 p3 p4 p5 p6 n ((pre.length : Nat) : Int) = some o ∧ (match o with | .inl y => runB pre r = y | .inr _ => runB pre r = (0, 0))
  | _, _, 0, _, h => by omega
  | [], pre, n + 1, h, _ => by
    rw [List.append_nil] at h
    subst h
    rw [r5_CheckNet_L4, if_neg (by omega)]
    exact ⟨_, rfl, rfl⟩
  | e :: r, pre, n + 1, h, hn => by
    obtain ⟨g1, g2, g3, g4⟩ := n_cons h
    rw [List.length_cons] at hn
    have q := r_twice fu l pre r e h hl p1 p2 p3 p4 p5 p6 pre [] fu rfl (by omega)
    rw [List.length_nil, show ((0 : Nat) : Int) = 0 from rfl] at q
    have rc := r_run fu hf l hl p1 p2 p3 p4 p5 p6 r (pre ++ [e]) n (by simp [h]) (by omega)
    rw [show (pre ++ [e]).length = pre.length + 1 by simp] at rc
    rw [r5_CheckNet_L4, if_pos g1, if_pos g2, g3, Option.bind_some, x_refName fu (by omega), Option.bind_some]
    unfold runB bnE
    cases h1 : nm e.1 with
    | false =>
      rw [if_neg (by simp), if_neg (by simp)]
      exact ⟨_, rfl, rfl⟩
    | true =>
      rw [if_pos rfl, q, Option.bind_some]
      by_cases h2 : e.1 ∈ pre.map (·.1)
      · simp only [if_pos h2]
        exact ⟨_, rfl, rfl⟩
      · simp only [if_neg h2]
        rw [if_pos g2, if_pos g1, Option.bind_some]
        unfold r5_Coordinates
        rw [Option.bind_some, r_place fu (by omega), Option.bind_some]
        by_cases h3 : okS 10000 [e.2.1, e.2.2.1, e.2.2.2] = true
        · simp only [if_pos h3, if_true]
          rw [wrapS (by omega)]
          exact rc
        · simp only [if_neg h3]
          exact ⟨_, rfl, rfl⟩
theorem r_net (fu : Nat) (hf : 1000 ≤ fu) (a b c d e f : Int) (l : List Bn) (hl : l.length < 50) : r5_CheckNet fu a b c d e f l = some (netV a b c d e f l) := by
  unfold r5_CheckNet r5_Sides netV worE
  rw [Option.bind_some, r_world fu (by omega), Option.bind_some]
  by_cases h : okS 10000 [a, b, c, d] = true ∧ allE 0 10000 [e, f] = 0
  · simp only [if_pos h]
    rw [r_empty, Option.bind_some, if_neg (show ¬ (¬ okS 10000 [a, b, c, d] = true ∨ ¬ allE 0 10000 [e, f] = 0) by rw [← Classical.not_and_iff_not_or_not]; exact fun g => g h)]
    unfold ordE
    by_cases h2 : b < a ∨ d < c ∨ f < e
    · rw [decide_eq_true h2, if_pos rfl, if_pos h2, if_neg (by omega)]
    · rw [decide_eq_false h2, if_neg (by simp), if_neg h2, if_pos rfl]
      by_cases c1 : (6 : Int) < (l.length : Int)
      · rw [if_pos c1, if_pos c1]
      · rw [if_neg c1, if_neg c1]
        obtain ⟨o, e1, e2⟩ := r_run fu hf l hl a b c d e f l [] fu rfl (by omega)
        rw [List.length_nil, show ((0 : Nat) : Int) = 0 from rfl] at e1
        rw [e1, Option.bind_some]
        cases o with
        | inl y => simp only at e2; simp only [e2]
        | inr y => simp only at e2; simp only [e2]
  · simp only [if_neg h]
    rw [if_pos (Classical.not_and_iff_not_or_not.1 h), if_neg (by omega)]
/-! ### Boxes -/
def boxV (w0 w1 w2 w3 w4 w5 : Int) (l : List Bn) (a b c d e f : Int) : Int :=
  if (netV w0 w1 w2 w3 w4 w5 l).2 = 0 then (if ordE a b c d e f = 0 then (if (w0 ≤ a ∧ b ≤ w1) ∧ (w2 ≤ c ∧ d ≤ w3) ∧ (w4 ≤ e ∧ f ≤ w5) then 0 else 2) else 9) else (netV w0 w1 w2 w3 w4 w5 l).2
def cmn (a b c d : Int) : Int × Int := (if a < c then c else a, if d < b then d else b)
theorem n_common (a b c d : Int) : u_Common a b c d = some (cmn a b c d) := by
  unfold u_Common cmn
  (repeat' split) <;> rfl
theorem r_common (a b c d : Int) : r5_common a b c d = some (cmn a b c d) := by
  unfold r5_common cmn
  (repeat' split) <;> rfl
theorem n_cmn (fu : Nat) (hf : 8 ≤ fu) (a b c d e f w0 w1 w2 w3 w4 w5 : Int) : x_box_common fu a b c d e f w0 w1 w2 w3 w4 w5 = some ((cmn a b w0 w1).1, (cmn a b w0 w1).2, (cmn c d w2 w3).1, (cmn c d w2 w3).2, (cmn e f w4 w5).1, (cmn e f w4 w5).2) := by
  obtain ⟨g, rfl⟩ : ∃ g, fu = g + 4 := ⟨fu - 4, by omega⟩
  unfold x_box_common
  simp only [x_box_common_L1, n_common, Option.bind_some]
  rw [show IntKind.wrap .i64 ((0 : Int) + 1) = 1 from wrapB (by omega) (by omega), show IntKind.wrap .i64 ((1 : Int) + 1) = 2 from wrapB (by omega) (by omega), show IntKind.wrap .i64 ((2 : Int) + 1) = 3 from wrapB (by omega) (by omega)]
  simp
theorem cmn_eq {a b c d : Int} : ((cmn a b c d).1 = a ∧ (cmn a b c d).2 = b) ↔ (c ≤ a ∧ b ≤ d) := by
  unfold cmn
  simp only
  constructor
  · rintro ⟨h1, h2⟩; split at h1 <;> split at h2 <;> omega
  · rintro ⟨h1, h2⟩; rw [if_neg (by omega), if_neg (by omega)]; exact ⟨rfl, rfl⟩
theorem six {α : Type} {p q r s t u : Prop} [Decidable p] [Decidable q] [Decidable r] [Decidable s] [Decidable t] [Decidable u] (x y : α) : (if p then (if q then (if r then (if s then (if t then (if u then x else y) else y) else y) else y) else y) else y) = if (p ∧ q) ∧ (r ∧ s) ∧ (t ∧ u) then x else y := by
  by_cases h1 : p <;> by_cases h2 : q <;> by_cases h3 : r <;> by_cases h4 : s <;> by_cases h5 : t <;> by_cases h6 : u <;> simp [h1, h2, h3, h4, h5, h6]
theorem n_box (fu : Nat) (hf : 1000 ≤ fu) (w0 w1 w2 w3 w4 w5 : Int) (l : List Bn) (hl : l.length < 50) (a b c d e f : Int) : x_CheckBox fu w0 w1 w2 w3 w4 w5 l a b c d e f = some (boxV w0 w1 w2 w3 w4 w5 l a b c d e f) := by
  unfold x_CheckBox x_netError x_boxOf x_box_liesIn boxV
  rw [n_net fu hf _ _ _ _ _ _ _ hl]
  simp only [Option.bind_some]
  rw [n_order (by omega), Option.bind_some, x_first _ _ (by simp; omega) (by simp), Option.bind_some]
  by_cases h1 : (netV w0 w1 w2 w3 w4 w5 l).2 = 0
  · have ho : ordE a b c d e f = 0 ∨ ordE a b c d e f = 9 := by unfold ordE; split <;> simp
    rcases ho with ho | ho
    · simp only [firstE, h1, ho, if_true]
      rw [n_cmn fu (by omega), Option.bind_some]
      simp only
      rw [six]
      have hiff := and_congr (cmn_eq (a := a) (b := b) (c := w0) (d := w1)) (and_congr (cmn_eq (a := c) (b := d) (c := w2) (d := w3)) (cmn_eq (a := e) (b := f) (c := w4) (d := w5)))
      by_cases hq : (w0 ≤ a ∧ b ≤ w1) ∧ (w2 ≤ c ∧ d ≤ w3) ∧ (w4 ≤ e ∧ f ≤ w5)
      · rw [if_pos (hiff.2 hq), if_pos hq, Option.bind_some, if_pos rfl]
      · rw [if_neg (fun h => hq (hiff.1 h)), if_neg hq, Option.bind_some, if_neg (by simp)]
    · simp only [firstE, h1, ho, if_true]
      rw [if_neg (by omega), if_neg (by omega), if_neg (by omega)]
  · simp only [firstE, if_neg h1]
theorem r_box (fu : Nat) (hf : 1000 ≤ fu) (w0 w1 w2 w3 w4 w5 : Int) (l : List Bn) (hl : l.length < 50) (a b c d e f : Int) : r5_BoxErr fu w0 w1 w2 w3 w4 w5 l a b c d e f = some (boxV w0 w1 w2 w3 w4 w5 l a b c d e f) := by
  unfold r5_BoxErr r5_NetErr boxV
  rw [r_net fu hf _ _ _ _ _ _ _ hl]
  simp only [Option.bind_some]
  by_cases h1 : (netV w0 w1 w2 w3 w4 w5 l).2 = 0
  · rw [if_pos h1, if_pos h1, r_empty, Option.bind_some]
    unfold ordE
    by_cases h2 : b < a ∨ d < c ∨ f < e
    · rw [decide_eq_true h2, if_pos rfl, if_pos h2, if_neg (by omega)]
    · rw [decide_eq_false h2, if_neg (by simp), if_neg h2, if_pos rfl]
      unfold r5_Common r5_Sides r5_box
      simp only [Option.bind_some, r_common]
      rw [six]
      have hiff := and_congr (cmn_eq (a := a) (b := b) (c := w0) (d := w1)) (and_congr (cmn_eq (a := c) (b := d) (c := w2) (d := w3)) (cmn_eq (a := e) (b := f) (c := w4) (d := w5)))
      by_cases hq : (w0 ≤ a ∧ b ≤ w1) ∧ (w2 ≤ c ∧ d ≤ w3) ∧ (w4 ≤ e ∧ f ≤ w5)
      · rw [if_pos (hiff.2 hq), if_pos hq]
      · rw [if_neg (fun h => hq (hiff.1 h)), if_neg hq]
  · rw [if_neg h1, if_neg h1]
end Go.Proofs.YtaafodbiigdbaaaGreat
