/-
  Streams of a bus: names, errors; plain mathematics over the lifted functions.
-/
import Derived.Test.YthffbfkcmbgghaaGreatZIa
import Derived.Test.YthffbfkcmbgghaaGreatZK7a
import Derived.Test.YthffbfkcmbgghaaGreatZK7e
import Derived.Test.YthffbfkcmbgghaaGreatZK7b
import Derived.Test.YthffbfkcmbgghaaGreatQNp
set_option linter.all false
namespace Go.Proofs.YthffbfkcmbgghaaGreat
open Go Go.RowKit
abbrev Str := Int × Int × Int × Int
theorem x_limit (a lo hi : Int) : u_LimitError a lo hi = some (limE a lo hi) := by
  unfold u_LimitError limE
  by_cases h1 : a < lo
  · rw [if_pos h1, if_pos (.inl h1)]
  · rw [if_neg h1]
    by_cases h2 : hi < a
    · rw [if_pos h2, if_pos (.inr h2)]
    · rw [if_neg h2, if_neg (by omega)]
theorem x_within (n lo hi : Int) : b_Within n lo hi = some (decide (lo ≤ n ∧ n ≤ hi)) := by
  unfold b_Within
  by_cases h1 : lo ≤ n
  · by_cases h2 : n ≤ hi
    · simp [h1, h2]
    · simp [h1, h2]
  · simp [h1]
theorem x_runF_first : ∀ (l : List Int) (i : Nat), runF (fun _ (e : Int) (_ : Unit) => if e = 0 then (.inr () : Int ⊕ Unit) else .inl e) l i () = if firstE l = 0 then .inr () else .inl (firstE l)
  | [], _ => rfl
  | a :: r, i => by
    unfold runF firstE
    by_cases ha : a = 0
    · simp only [ha, if_true]; exact x_runF_first r (i + 1)
    · simp only [ha, if_false]
theorem x_first (fu : Nat) (l : List Int) (h : l.length < fu) (hl : l.length < 4611686018427387904) : u_FirstError fu l = some (firstE l) := by
  have := loop_run l (fun n i _ => u_FirstError_L1 fu l (l.length : Int) n (i : Int)) (fun _ (e : Int) (_ : Unit) => if e = 0 then (.inr () : Int ⊕ Unit) else .inl e) id
    (fun n s => by rw [u_FirstError_L1, if_neg (by omega)]; rfl)
    (fun n i e s he => by
      obtain ⟨h1, h2, h3⟩ := idx he
      rw [u_FirstError_L1, if_pos h1, if_pos h2, if_pos h1, h3, Option.bind_some]
      by_cases h0 : e = 0
      · simp only [h0, if_true]; rw [wrapS (by omega)]
      · simp only [h0, if_false]; rfl) fu 0 () (by omega) (by omega)
  unfold u_FirstError
  rw [show ((0 : Nat) : Int) = 0 from rfl] at this
  rw [this, List.drop_zero, x_runF_first, Option.bind_some]
  by_cases h0 : firstE l = 0
  · simp [h0]
  · simp [h0]
/-! ### Names -/
theorem strOf_zero : Cm.strOf 0 = ByteArray.empty := by
  unfold Cm.strOf
  rw [show Cm.zigI 0 = 0 from rfl, Cm.decN]; rfl
theorem sln_nn (s : Int) : 0 ≤ Cm.sln s := by unfold Cm.sln; omega
theorem sln_zero : Cm.sln 0 = 0 := by unfold Cm.sln; rw [strOf_zero]; rfl
theorem sln_pos {s : Int} (h : s ≠ 0) : 0 < Cm.sln s := by
  rcases Int.lt_or_le 0 (Cm.sln s) with c | c
  · exact c
  · exfalso
    apply h
    apply Cm.strOf_inj
    rw [strOf_zero]
    have h0 : (Cm.strOf s).size = 0 := by unfold Cm.sln at c; omega
    generalize Cm.strOf s = b at h0
    obtain ⟨b⟩ := b
    have : b.size = 0 := h0
    rw [Array.eq_empty_of_size_eq_zero this]; rfl
def let1 (c : Int) : Bool := decide ((97 ≤ c ∧ c ≤ 122) ∨ (65 ≤ c ∧ c ≤ 90))
def dig1 (c : Int) : Bool := decide (48 ≤ c ∧ c ≤ 57)
def oth1 (c : Int) : Bool := dig1 c || decide (c = 45)
theorem x_letter (c : Int) : u_isLetter c = some (let1 c) := by
  unfold u_isLetter let1
  by_cases h1 : 97 ≤ c <;> by_cases h2 : c ≤ 122 <;> by_cases h3 : 65 ≤ c <;> by_cases h4 : c ≤ 90 <;> simp [h1, h2, h3, h4]
theorem x_digit (c : Int) : u_isDigit c = some (dig1 c) := by
  unfold u_isDigit dig1
  by_cases h1 : 48 ≤ c <;> by_cases h2 : c ≤ 57 <;> simp [h1, h2]
def al (s : Int) : Nat → Nat → Bool
  | 0, _ => true
  | m + 1, i => (let1 (Cm.sat s (i : Int)) || (decide (i ≠ 0) && oth1 (Cm.sat s (i : Int)))) && al s m (i + 1)
def al' (s : Int) : Nat → Nat → Bool
  | 0, _ => true
  | m + 1, i => (let1 (Cm.sat s (i : Int)) || oth1 (Cm.sat s (i : Int))) && al' s m (i + 1)
theorem al_al' (s : Int) : ∀ m i, i ≠ 0 → al' s m i = al s m i
  | 0, _, _ => rfl
  | m + 1, i, h => by
    unfold al al'
    rw [al_al' s m (i + 1) (by omega)]
    simp [h]
def nm (s : Int) : Bool := decide (1 ≤ Cm.sln s ∧ Cm.sln s ≤ 12) && al s (Cm.sln s).toNat 0
theorem x_nameL (fu : Nat) (s : Int) {L : Nat} (hL : Cm.sln s = (L : Int)) (h12 : L ≤ 12) : ∀ n i, i ≤ L → L - i < n → u_isName_L1 fu s (L : Int) n ((i : Nat) : Int) = some (if al' s (L - i) i then .inr () else .inl ())
  | 0, i, _, h => by omega
  | n + 1, i, hi, h => by
    rw [u_isName_L1]
    rcases Nat.lt_or_ge i L with h1 | h1
    · have ih := x_nameL fu s hL h12 n (i + 1) (by omega) (by omega)
      rw [if_pos (by omega), if_pos (by omega), if_pos (by omega), x_letter, Option.bind_some, wrapS (by omega), ih, show L - i = (L - (i + 1)) + 1 by omega, al']
      cases hl : let1 (Cm.sat s (i : Int)) with
      | true => simp
      | false =>
        rw [if_neg (by decide), x_digit, Option.bind_some]
        unfold oth1
        cases hd : dig1 (Cm.sat s (i : Int)) with
        | true => simp
        | false =>
          by_cases h5 : Cm.sat s (i : Int) = 45
          · simp [h5]
          · simp [h5]
    · rw [if_neg (by omega), show L - i = 0 by omega]; rfl
theorem x_name (fu : Nat) (hf : 100 ≤ fu) (s : Int) : u_isName fu s = some (nm s) := by
  unfold u_isName nm
  by_cases h0 : s = 0
  · subst h0
    rw [if_pos rfl, sln_zero]; rfl
  · have hp := sln_pos h0
    rw [if_neg h0]
    by_cases h12 : 12 < Cm.sln s
    · rw [if_pos h12, decide_eq_false (by omega)]; rfl
    · obtain ⟨L, hL⟩ := Int.eq_ofNat_of_zero_le (sln_nn s)
      have e := x_nameL fu s hL (by omega) fu 0 (by omega) (by omega)
      rw [show ((0 : Nat) : Int) = 0 from rfl, Nat.sub_zero] at e
      rw [if_neg h12, if_pos hp, x_letter, Option.bind_some, hL, decide_eq_true (by omega), Int.toNat_natCast, e]
      obtain ⟨m, rfl⟩ : ∃ m, L = m + 1 := ⟨L - 1, by omega⟩
      rw [al, al', al_al' s m 1 (by omega), show ((0 : Nat) : Int) = 0 from rfl]
      cases let1 (Cm.sat s 0) with
      | false => simp
      | true =>
        simp only [Bool.true_or, Bool.true_and, if_true]
        cases al s m 1 <;> rfl
theorem x_refNameL (fu : Nat) (s : Int) {L : Nat} (hL : Cm.sln s = (L : Int)) (h12 : L ≤ 12) : ∀ n i, i ≤ L → L - i < n → b_IsName_L1 fu s n ((i : Nat) : Int) = some (if al s (L - i) i then .inr () else .inl ())
  | 0, i, _, h => by omega
  | n + 1, i, hi, h => by
    rw [b_IsName_L1]
    rcases Nat.lt_or_ge i L with h1 | h1
    · have ih := x_refNameL fu s hL h12 n (i + 1) (by omega) (by omega)
      rw [if_pos (by omega), if_pos (by omega), wrapS (by omega), ih, show L - i = (L - (i + 1)) + 1 by omega, al]
      generalize Cm.sat s (i : Int) = c
      generalize al s (L - (i + 1)) (i + 1) = r
      unfold let1 oth1 dig1
      by_cases a1 : 97 ≤ c <;> by_cases a2 : c ≤ 122 <;> by_cases a3 : 65 ≤ c <;> by_cases a4 : c ≤ 90 <;> simp only [a1, a2, a3, a4, if_true, if_false, and_self, and_true, true_and, and_false, false_and, or_true, true_or, or_false, false_or, decide_true, decide_false, Bool.true_or, Bool.false_or, Bool.true_and, Bool.false_and] <;>
        (by_cases a5 : i = 0
         · subst a5; simp
         · have a5' : ¬ ((i : Nat) : Int) = 0 := by omega
           rw [if_neg a5']
           by_cases a6 : c = 45
           · subst a6; simp [a5]
           · rw [if_neg a6]
             by_cases a7 : c < 48
             · rw [if_pos a7]
               have : ¬ 48 ≤ c := by omega
               simp [a5, a6, this]
             · rw [if_neg a7]
               by_cases a8 : 57 < c
               · rw [if_pos a8]
                 have : ¬ c ≤ 57 := by omega
                 simp [a5, a6, this]
               · rw [if_neg a8]
                 have b1 : 48 ≤ c := by omega
                 have b2 : c ≤ 57 := by omega
                 simp [a5, a6, b1, b2])
    · rw [if_neg (by omega), show L - i = 0 by omega]; rfl
theorem x_refName (fu : Nat) (hf : 100 ≤ fu) (s : Int) : b_IsName fu s = some (nm s) := by
  unfold b_IsName nm
  by_cases h0 : Cm.sln s < 1
  · rw [if_pos h0, decide_eq_false (by omega)]; rfl
  · rw [if_neg h0]
    by_cases h12 : 12 < Cm.sln s
    · rw [if_pos h12, decide_eq_false (by omega)]; rfl
    · obtain ⟨L, hL⟩ := Int.eq_ofNat_of_zero_le (sln_nn s)
      have e := x_refNameL fu s hL (by omega) fu 0 (by omega) (by omega)
      rw [show ((0 : Nat) : Int) = 0 from rfl, Nat.sub_zero] at e
      rw [if_neg h12, e, Option.bind_some, hL, decide_eq_true (by omega), Int.toNat_natCast]
      cases al s L 0 <;> rfl
/-! ### Streams -/
theorem x_index (fu : Nat) (l : List Int) (s : Int) (hl : l.length < 1000) : ∀ n i, i ≤ l.length → l.length - i < n → ∃ x, slices_Index_string_string_L1 fu l s (l.length : Int) n ((i : Nat) : Int) = some x ∧ (if s ∈ l.drop i then ∃ j : Nat, x = .inl (j : Int) else x = .inr ())
  | 0, i, _, h => by omega
  | n + 1, i, hi, h => by
    rw [slices_Index_string_string_L1]
    rcases Nat.lt_or_ge i l.length with h1 | h1
    · obtain ⟨a1, a2, a3⟩ := idx (List.getElem?_eq_getElem h1)
      rw [if_pos a1, if_pos a2, if_pos a1, a3, Option.bind_some, List.drop_eq_getElem_cons h1]
      by_cases c : s = l[i]
      · rw [if_pos c]
        refine ⟨_, rfl, ?_⟩
        rw [if_pos (by rw [c]; exact List.mem_cons_self)]
        exact ⟨i, rfl⟩
      · rw [if_neg c, wrapS (by omega)]
        obtain ⟨x, e1, e2⟩ := x_index fu l s hl n (i + 1) (by omega) (by omega)
        refine ⟨x, e1, ?_⟩
        simp only [List.mem_cons, c, false_or]
        exact e2
    · rw [if_neg (by omega), List.drop_of_length_le h1]
      exact ⟨_, rfl, by simp⟩
theorem x_contains (fu : Nat) (l : List Int) (s : Int) (hl : l.length < 1000) (hf : l.length < fu) : slices_Contains_string_string fu l s = some (decide (s ∈ l)) := by
  unfold slices_Contains_string_string slices_Index_string_string
  obtain ⟨x, e1, e2⟩ := x_index fu l s hl fu 0 (by omega) (by omega)
  rw [show ((0 : Nat) : Int) = 0 from rfl] at e1
  rw [List.drop_zero] at e2
  rw [e1, Option.bind_some]
  by_cases c : s ∈ l
  · rw [if_pos c] at e2
    obtain ⟨j, rfl⟩ := e2
    rw [decide_eq_true c]
    simp only [Option.bind_some]
    rw [if_pos (by omega)]
  · rw [if_neg c] at e2
    subst e2
    rw [decide_eq_false c]; rfl
def numB (e : Str) : Bool := decide (1 ≤ e.2.1 ∧ e.2.1 ≤ 60) && decide (1 ≤ e.2.2.1 ∧ e.2.2.1 ≤ e.2.1) && decide (1 ≤ e.2.2.2 ∧ e.2.2.2 ≤ 20)
def se (names : List Int) (e : Str) : Int := if nm e.1 then (if e.1 ∈ names then 5 else if numB e then 0 else 2) else 4
theorem x_nameErr (fu : Nat) (hf : 1000 ≤ fu) (s : Int) : u_NameError fu s = some (if nm s then 0 else 4) := by
  unfold u_NameError
  rw [x_name fu (by omega), Option.bind_some]
  cases nm s <;> rfl
theorem x_se (fu : Nat) (hf : 1000 ≤ fu) (names : List Int) (hn : names.length < 100) (e : Str) : ∃ q, bus_CheckStreams_1_2 fu e.1 e.2.1 e.2.2.1 e.2.2.2 names 5 = some (se names e, q) ∧ (se names e = 0 → q = names ++ [e.1]) := by
  unfold bus_CheckStreams_1_2 u_NameErrors_1_2 se numB
  rw [x_nameErr fu hf, Option.bind_some]
  cases hnm : nm e.1 with
  | false =>
    refine ⟨names, ?_, fun h => by simp at h⟩
    simp only [Bool.false_eq_true, if_false, Option.bind_some]
    rw [if_neg (by omega), Option.bind_some]
    rw [x_limit, Option.bind_some, x_limit, Option.bind_some, x_limit, Option.bind_some, x_first fu _ (by simp; omega) (by simp), Option.bind_some]; rfl
  | true =>
    simp only [if_true]
    rw [x_contains fu names e.1 (by omega) (by omega), Option.bind_some]
    by_cases hc : e.1 ∈ names
    · refine ⟨names, ?_, fun h => by simp [hc] at h⟩
      simp only [hc, decide_true, if_true, Option.bind_some]
      rw [x_limit, Option.bind_some, x_limit, Option.bind_some, x_limit, Option.bind_some, x_first fu _ (by simp; omega) (by simp), Option.bind_some]; rfl
    · refine ⟨names ++ [e.1], ?_, fun _ => rfl⟩
      simp only [hc, decide_false, if_false, Bool.false_eq_true]
      rw [if_pos (by omega), Option.bind_some, x_limit, Option.bind_some, x_limit, Option.bind_some, x_limit, Option.bind_some, x_first fu _ (by simp; omega) (by simp), Option.bind_some]
      simp only [if_true, firstE]
      congr 2
      by_cases h1 : 1 ≤ e.2.1 ∧ e.2.1 ≤ 60
      · rw [limE_zero.2 h1]
        by_cases h2 : 1 ≤ e.2.2.1 ∧ e.2.2.1 ≤ e.2.1
        · rw [limE_zero.2 h2]
          by_cases h3 : 1 ≤ e.2.2.2 ∧ e.2.2.2 ≤ 20
          · rw [limE_zero.2 h3]; simp [h1, h2, h3]
          · rw [limE_two h3]; simp [h3]
        · rw [limE_two h2]; simp [h2]
      · rw [limE_two h1]; simp [h1]
def ck : List Str → List Int → Int
  | [], _ => 0
  | e :: r, names => if se names e = 0 then ck r (names ++ [e.1]) else se names e
theorem take_succ_map {l : List Str} {i : Nat} (h : i < l.length) : (l.take (i + 1)).map (·.1) = (l.take i).map (·.1) ++ [l[i].1] := by
  rw [List.take_succ, List.getElem?_eq_getElem h, List.map_append]; rfl
theorem x_bad (fu : Nat) (hf : 1000 ≤ fu) (l : List Str) (hl : l.length < 50) : ∀ n i, i ≤ l.length → l.length - i < n → ∃ x, u_FirstBad_BusStream_CheckStreams_1_L1 fu l 5 (l.length : Int) n ((l.take i).map (·.1)) ((i : Nat) : Int) = some x ∧ (match x with | .inl y => y.2.2 | .inr _ => 0) = ck (l.drop i) ((l.take i).map (·.1))
  | 0, i, _, h => by omega
  | n + 1, i, hi, h => by
    rw [u_FirstBad_BusStream_CheckStreams_1_L1]
    rcases Nat.lt_or_ge i l.length with h1 | h1
    · obtain ⟨a1, a2, a3⟩ := idx (List.getElem?_eq_getElem h1)
      obtain ⟨q, e1, e2⟩ := x_se fu hf ((l.take i).map (·.1)) (by rw [List.length_map, List.length_take]; omega) l[i]
      rw [if_pos a1, if_pos a2, if_pos a1, a3, Option.bind_some, e1, Option.bind_some, List.drop_eq_getElem_cons h1, ck]
      by_cases h0 : se ((l.take i).map (·.1)) l[i] = 0
      · simp only [h0, if_true]
        rw [e2 h0, wrapS (by omega), ← take_succ_map h1]
        exact x_bad fu hf l hl n (i + 1) (by omega) (by omega)
      · simp only [if_neg h0]
        exact ⟨_, rfl, rfl⟩
    · rw [if_neg (by omega), List.drop_of_length_le h1]
      exact ⟨_, rfl, rfl⟩
def stE (l : List Str) : Int := if (l.length : Int) < 1 then 10 else if (6 : Int) < (l.length : Int) then 8 else ck l []
theorem x_streams (fu : Nat) (hf : 1000 ≤ fu) (l : List Str) (hl : l.length < 50) : bus_streamsError fu l = some (stE l) := by
  unfold bus_streamsError bus_CheckStreams u_CheckList_BusStream_CheckStreams_1 stE
  by_cases h1 : (l.length : Int) < 1
  · rw [if_pos h1, if_pos h1]; rfl
  · rw [if_neg h1, if_neg h1]
    by_cases h2 : (6 : Int) < (l.length : Int)
    · rw [if_pos h2, if_pos h2]; rfl
    · rw [if_neg h2, if_neg h2]
      unfold u_FirstBad_BusStream_CheckStreams_1
      obtain ⟨x, e, hx⟩ := x_bad fu hf l hl fu 0 (by omega) (by omega)
      rw [show ((0 : Nat) : Int) = 0 from rfl, List.take_zero] at e
      rw [List.drop_zero, List.take_zero] at hx
      rw [show ([] : List Int) = List.map (fun (x : Str) => x.1) [] from rfl, e, ← hx]
      cases x with
      | inl y => rfl
      | inr y => rfl
theorem x_refL1 (fu : Nat) (l : List Str) (s : Int) (p3 p4 p5 : Int) {m : Nat} (hm : m ≤ l.length) (hl : l.length < 1000) : ∀ n i, i ≤ m → m - i < n → r7_CheckStreams_L1 fu l (m : Int) s p3 p4 p5 n ((i : Nat) : Int) = some (if s ∈ (((l.take m).drop i).map (·.1)) then .inl () else .inr ())
  | 0, i, _, h => by omega
  | n + 1, i, hi, h => by
    rw [r7_CheckStreams_L1]
    rcases Nat.lt_or_ge i m with h1 | h1
    · have h2 : i < l.length := by omega
      obtain ⟨a1, a2, a3⟩ := idx (List.getElem?_eq_getElem h2)
      have h3 : i < (l.take m).length := by rw [List.length_take]; omega
      rw [if_pos (by omega), if_pos a2, if_pos a1, a3, Option.bind_some, List.drop_eq_getElem_cons h3, List.map_cons, List.getElem_take]
      by_cases c : l[i].1 = s
      · rw [if_pos c, if_pos (by rw [c]; exact List.mem_cons_self)]
      · rw [if_neg c, wrapS (by omega), x_refL1 fu l s p3 p4 p5 hm hl n (i + 1) (by omega) (by omega)]
        simp only [List.mem_cons, show ¬ s = l[i].1 from fun q => c q.symm, false_or]
    · rw [if_neg (by omega), List.drop_of_length_le (by rw [List.length_take]; omega)]; rfl
theorem x_refL2 (fu : Nat) (hf : 1000 ≤ fu) (l : List Str) (hl : l.length < 50) : ∀ n i, i ≤ l.length → l.length - i < n → ∃ x, r7_CheckStreams_L2 fu l n ((i : Nat) : Int) = some x ∧ (match x with | .inl y => y.2 | .inr _ => 0) = ck (l.drop i) ((l.take i).map (·.1))
  | 0, i, _, h => by omega
  | n + 1, i, hi, h => by
    rw [r7_CheckStreams_L2]
    rcases Nat.lt_or_ge i l.length with h1 | h1
    · obtain ⟨a1, a2, a3⟩ := idx (List.getElem?_eq_getElem h1)
      rw [if_pos a1, if_pos a2, a3, Option.bind_some, x_refName fu (by omega), Option.bind_some, List.drop_eq_getElem_cons h1, ck, se]
      cases hnm : nm l[i].1 with
      | false => exact ⟨_, rfl, by simp⟩
      | true =>
        have e := x_refL1 fu l l[i].1 l[i].2.1 l[i].2.2.1 l[i].2.2.2 (m := i) (by omega) (by omega) fu 0 (by omega) (by omega)
        rw [show ((0 : Nat) : Int) = 0 from rfl, List.drop_zero] at e
        rw [if_pos rfl, e, Option.bind_some]
        by_cases hc : l[i].1 ∈ (l.take i).map (·.1)
        · simp only [hc, if_true]
          exact ⟨_, rfl, by simp⟩
        · simp only [hc, if_false]
          rw [x_within, Option.bind_some]
          unfold numB
          by_cases c1 : 1 ≤ l[i].2.1 ∧ l[i].2.1 ≤ 60
          · rw [if_pos (decide_eq_true c1), x_within, Option.bind_some]
            by_cases c2 : 1 ≤ l[i].2.2.1 ∧ l[i].2.2.1 ≤ l[i].2.1
            · rw [if_pos (decide_eq_true c2), x_within, Option.bind_some]
              by_cases c3 : 1 ≤ l[i].2.2.2 ∧ l[i].2.2.2 ≤ 20
              · rw [if_pos (decide_eq_true c3), wrapS (by omega)]
                obtain ⟨x, q1, q2⟩ := x_refL2 fu hf l hl n (i + 1) (by omega) (by omega)
                rw [take_succ_map h1] at q2
                refine ⟨x, q1, ?_⟩
                rw [q2]; simp [c1, c2, c3]
              · rw [if_neg (by simpa using c3)]
                exact ⟨_, rfl, by simp [c3]⟩
            · rw [if_neg (by simpa using c2)]
              exact ⟨_, rfl, by simp [c2]⟩
          · rw [if_neg (by simpa using c1)]
            exact ⟨_, rfl, by simp [c1]⟩
    · rw [if_neg (by omega), List.drop_of_length_le h1]
      exact ⟨_, rfl, rfl⟩
theorem x_refStreams (fu : Nat) (hf : 1000 ≤ fu) (l : List Str) (hl : l.length < 50) : r7_StreamsErr fu l = some (stE l) := by
  unfold r7_StreamsErr r7_CheckStreams stE
  by_cases h1 : (l.length : Int) = 0
  · rw [if_pos h1, if_pos (by omega)]; rfl
  · rw [if_neg h1, if_neg (show ¬ (l.length : Int) < 1 by omega)]
    by_cases h2 : (6 : Int) < (l.length : Int)
    · rw [if_pos h2, if_pos h2]; rfl
    · rw [if_neg h2, if_neg h2]
      obtain ⟨x, e, hx⟩ := x_refL2 fu hf l hl fu 0 (by omega) (by omega)
      rw [show ((0 : Nat) : Int) = 0 from rfl] at e
      rw [List.drop_zero, List.take_zero] at hx
      rw [e]
      rw [show ([] : List Int) = List.map (fun (x : Str) => x.1) [] from rfl, ← hx]
      cases x with
      | inl y => rfl
      | inr y => rfl
theorem ck_ok : ∀ {l : List Str} {names : List Int}, ck l names = 0 → ∀ e ∈ l, numB e = true
  | [], _, _, e, he => by cases he
  | a :: r, names, h, e, he => by
    unfold ck at h
    by_cases c : se names a = 0
    · rw [if_pos c] at h
      rcases List.mem_cons.1 he with rfl | he
      · unfold se at c
        cases hn : nm e.1 with
        | false => rw [hn] at c; simp at c
        | true =>
          rw [hn, if_pos rfl] at c
          by_cases d : e.1 ∈ names
          · rw [if_pos d] at c; cases c
          · rw [if_neg d] at c
            cases hb : numB e with
            | true => rfl
            | false => rw [hb] at c; simp at c
      · exact ck_ok h e he
    · rw [if_neg c] at h; exact absurd h c
theorem stE_ok {l : List Str} (h : stE l = 0) : l.length ≤ 6 ∧ ∀ e ∈ l, (1 ≤ e.2.1 ∧ e.2.1 ≤ 60) ∧ (1 ≤ e.2.2.1 ∧ e.2.2.1 ≤ e.2.1) ∧ (1 ≤ e.2.2.2 ∧ e.2.2.2 ≤ 20) := by
  unfold stE at h
  by_cases h1 : (l.length : Int) < 1
  · rw [if_pos h1] at h; cases h
  · rw [if_neg h1] at h
    by_cases h2 : (6 : Int) < (l.length : Int)
    · rw [if_pos h2] at h; cases h
    · rw [if_neg h2] at h
      refine ⟨by omega, fun e he => ?_⟩
      have := ck_ok h e he
      unfold numB at this
      simp only [Bool.and_eq_true, decide_eq_true_eq] at this
      exact ⟨this.1.1, this.1.2, this.2⟩
end Go.Proofs.YthffbfkcmbgghaaGreat

namespace Go.Proofs.YthffbfkcmbgghaaGreat
open Go Go.RowKit
set_option maxHeartbeats 1000000
namespace Bs
def rng (x : Int) : Bool := decide (0 ≤ x ∧ x ≤ 400)
theorem t_ticks (x : Int) : bus_ticksError x = some (if rng x then 0 else 2) := by
 unfold bus_ticksError rng
 rw [x_limit, Option.bind_some]
 unfold limE
 by_cases g : 0 ≤ x ∧ x ≤ 400
 ·simp [g]
 ·simp only [decide_eq_true_eq, if_neg g]
  by_cases g1 : x < 0 <;> by_cases g2 : 400 < x <;> simp_all <;> omega
theorem t_bad (fu : Nat) {s : List Int} (hs : s.length < 1000) : ∀ (m i n : Nat), i + m = s.length → m < n → ∃ x, u_FirstBad_int_ticksError_L1 fu s (s.length : Int) n (i : Int) = some x ∧ ((s.drop i).all rng = true → x = .inr ()) ∧ ((s.drop i).all rng = false → ∃ k, x = .inl (k, 2))
 | _, _, 0, _, hn => absurd hn (by omega)
 | 0, i, n + 1, hi, _ => by
  rw [u_FirstBad_int_ticksError_L1, if_neg (by omega)]
  have e : s.drop i = [] := List.drop_eq_nil_of_le (by omega)
  exact ⟨_, rfl, fun _ => rfl, fun g => by rw [e] at g; simp at g⟩
 | m + 1, i, n + 1, hi, hn => by
  have hx := List.getElem?_eq_getElem (show i < s.length by omega)
  have ed : s.drop i = s[i]'(by omega) :: s.drop (i + 1) := List.drop_eq_getElem_cons (by omega)
  generalize (s[i]'(by omega)) = u at hx ed
  have W : IntKind.wrap .i64 ((i : Int) + 1) = ((i + 1 : Nat) : Int) := wrapS (by omega)
  rw [u_FirstBad_int_ticksError_L1, if_pos (idx hx).1, if_pos (idx hx).2.1, if_pos (idx hx).1, (idx hx).2.2, Option.bind_some, t_ticks, Option.bind_some, W, ed, List.all_cons]
  by_cases g : rng u = true
  ·simp only [g, if_true, Bool.true_and]
   exact t_bad fu hs m (i + 1) n (by omega) (by omega)
  ·have g' : rng u = false := by simpa using g
   simp only [g', Bool.false_and]
   refine ⟨.inl ((i : Int), 2), by simp, fun q => by simp at q, fun _ => ⟨_, rfl⟩⟩
theorem t_first (fu : Nat) (hf : 1000 ≤ fu) {s : List Int} (hs : s.length < 900) : ∃ k, u_FirstBad_int_ticksError fu s = some (k, if s.all rng then 0 else 2) := by
 obtain ⟨x, E, h1, h2⟩ := t_bad fu (s := s) (by omega) s.length 0 fu (by omega) (by omega)
 have E' : u_FirstBad_int_ticksError_L1 fu s (s.length : Int) fu (0 : Int) = some x := E
 rw [List.drop_zero] at h1 h2
 unfold u_FirstBad_int_ticksError
 rw [E', Option.bind_some]
 by_cases g : s.all rng = true
 ·rw [h1 g, if_pos g]
  exact ⟨0, rfl⟩
 ·obtain ⟨k, e⟩ := h2 (by simpa using g)
  rw [e, if_neg g]
  exact ⟨k, rfl⟩
theorem t_ref (fu : Nat) (l : List Str) (p2 : Int) {s : List Int} (hs : s.length < 1000) : ∀ (m i n : Nat), i + m = s.length → m < n → r7_StartsErr_L1 fu l s p2 n (i : Int) = some (if (s.drop i).all rng then .inr () else .inl ())
 | _, _, 0, _, hn => absurd hn (by omega)
 | 0, i, n + 1, hi, _ => by
  rw [r7_StartsErr_L1, if_neg (by omega), List.drop_eq_nil_of_le (show s.length ≤ i by omega)]
  rfl
 | m + 1, i, n + 1, hi, hn => by
  have hx := List.getElem?_eq_getElem (show i < s.length by omega)
  have ed : s.drop i = s[i]'(by omega) :: s.drop (i + 1) := List.drop_eq_getElem_cons (by omega)
  generalize (s[i]'(by omega)) = u at hx ed
  have W : IntKind.wrap .i64 ((i : Int) + 1) = ((i + 1 : Nat) : Int) := wrapS (by omega)
  rw [r7_StartsErr_L1, if_pos (idx hx).1, if_pos (idx hx).2.1, (idx hx).2.2, Option.bind_some, x_within, Option.bind_some, W, ed, List.all_cons]
  show (if rng u = true then _ else _) = _
  by_cases g : rng u = true
  ·simp only [g, if_true, Bool.true_and]
   exact t_ref fu l p2 hs m (i + 1) n (by omega) (by omega)
  ·have g' : rng u = false := by simpa using g
   simp only [g', Bool.false_and]
   simp
def stT (l : List Str) (s : List Int) (T : Int) : Int := if s.length = l.length then (if s.all rng && rng T then 0 else 2) else 10
theorem t_refStarts (fu : Nat) (hf : 1000 ≤ fu) (l : List Str) {s : List Int} (hs : s.length < 900) (T : Int) : r7_StartsErr fu l s T = some (stT l s T) := by
 have E : r7_StartsErr_L1 fu l s T fu (0 : Int) = some (if (s.drop 0).all rng then .inr () else .inl ()) := t_ref fu l T (by omega) s.length 0 fu (by omega) (by omega)
 unfold r7_StartsErr stT
 rw [E, Option.bind_some, List.drop_zero, x_within, Option.bind_some]
 by_cases g : s.length = l.length
 ·rw [if_pos (by omega), if_pos g]
  show _ = some (if (s.all rng && rng T) = true then 0 else 2)
  have e : decide (0 ≤ T ∧ T ≤ 400) = rng T := rfl
  rw [e]
  by_cases g1 : s.all rng = true <;> by_cases g2 : rng T = true <;> simp [g1, g2]
 ·rw [if_neg (by omega), if_neg g]
end Bs
end Go.Proofs.YthffbfkcmbgghaaGreat

namespace Go.Proofs.YthffbfkcmbgghaaGreat
open Go Go.RowKit
set_option maxHeartbeats 1000000
namespace Bs
theorem ok_of {l : List Str} {s : List Int} {T : Int} (h1 : stE l = 0) (h2 : stT l s T = 0) : OkS l s ∧ 0 ≤ T ∧ T ≤ 400 := by
 obtain ⟨a, b⟩ := stE_ok h1
 unfold stT at h2
 split at h2
 ·split at h2
  ·rename_i g1 g2
   rw [Bool.and_eq_true] at g2
   have t : 0 ≤ T ∧ T ≤ 400 := by simpa [rng] using g2.2
   refine ⟨⟨g1, a, fun i x hx => ?_, fun i x hx => ?_⟩, t⟩
   ·have := b x (List.mem_of_getElem? hx)
    omega
   ·have := List.all_eq_true.1 g2.1 x (List.mem_of_getElem? hx)
    simpa [rng] using this
  ·omega
 ·omega
theorem p_traffic {fu : Nat} (hf : 5000 ≤ fu) {l : List Str} (hl : l.length < 50) {s : List Int} (hs : s.length < 900) (T : Int) :
  (stE l ≠ 0 ∧ bus_newTraffic fu l s T = some ([], stE l)) ∨ (stE l = 0 ∧ stT l s T ≠ 0 ∧ bus_newTraffic fu l s T = some ([], stT l s T)) ∨
  ∃ h : OkS l s, stE l = 0 ∧ stT l s T = 0 ∧ bus_newTraffic fu l s T = some (snds (sy h) (nmL l) (fun _ => 0), 0) := by
 obtain ⟨k, ef⟩ := t_first fu (by omega) hs
 unfold bus_newTraffic
 rw [x_streams fu (by omega) l hl, Option.bind_some]
 by_cases h1 : stE l = 0
 ·rw [if_pos h1]
  by_cases h2 : s.length = l.length
  ·rw [if_pos (by omega), ef, Option.bind_some, t_ticks, Option.bind_some, x_first fu _ (by simp; omega) (by simp), Option.bind_some]
   by_cases h3 : (s.all rng && rng T) = true
   ·have e : stT l s T = 0 := by unfold stT; rw [if_pos h2, if_pos h3]
    obtain ⟨h, _⟩ := ok_of h1 e
    rw [Bool.and_eq_true] at h3
    have f := p_fill h fu l.length 0 fu (by omega) (by omega)
    rw [List.take_zero, List.nil_append] at f
    have f' : bus_newTraffic_L1 fu l s (l.length : Int) fu (List.replicate ((l.length : Int)).toNat ((0 : Int), (0 : Int), (0 : Int), (0 : Int), (0 : Int), (0 : Int))) (0 : Int) = _ := f
    refine .inr (.inr ⟨h, h1, e, ?_⟩)
    simp only [h3.1, h3.2, if_true, firstE]
    rw [if_pos (by omega), if_pos (by omega), f', Option.bind_some]
   ·have e : stT l s T = 2 := by unfold stT; rw [if_pos h2, if_neg h3]
    refine .inr (.inl ⟨h1, by rw [e]; omega, ?_⟩)
    rw [e]
    by_cases g1 : s.all rng = true
    ·have g2 : rng T = false := by simpa [g1] using h3
     simp [g1, g2, firstE]
    ·simp [g1, firstE]
  ·have e : stT l s T = 10 := by unfold stT; rw [if_neg h2]
   rw [if_neg (by omega)]
   exact .inr (.inl ⟨h1, by rw [e]; omega, by rw [e]⟩)
 ·rw [if_neg h1]
  exact .inl ⟨h1, rfl⟩
end Bs
end Go.Proofs.YthffbfkcmbgghaaGreat
