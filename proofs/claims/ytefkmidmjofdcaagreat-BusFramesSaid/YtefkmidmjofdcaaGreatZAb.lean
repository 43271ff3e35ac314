/-
  Frames of a bus: bytes, messages, remainders; plain mathematics over the lifted functions.
-/
import Derived.Test.YtefkmidmjofdcaaGreatZIa
import Derived.Test.YtefkmidmjofdcaaGreatZAa
set_option linter.all false
namespace Go.Proofs.YtefkmidmjofdcaaGreat
open Go Go.RowKit

theorem a_limit (a lo hi : Int) : u_LimitError a lo hi = some (limE a lo hi) := by
  unfold u_LimitError limE
  by_cases h1 : a < lo
  · rw [if_pos h1, if_pos (.inl h1)]
  · rw [if_neg h1]
    by_cases h2 : hi < a
    · rw [if_pos h2, if_pos (.inr h2)]
    · rw [if_neg h2, if_neg (by omega)]
theorem a_within (n lo hi : Int) : b_Within n lo hi = some (decide (lo ≤ n ∧ n ≤ hi)) := by
  unfold b_Within
  by_cases h1 : lo ≤ n
  · by_cases h2 : n ≤ hi
    · simp [h1, h2]
    · simp [h1, h2]
  · simp [h1]
theorem a_runF_first : ∀ (l : List Int) (i : Nat), runF (fun _ (e : Int) (_ : Unit) => if e = 0 then (.inr () : Int ⊕ Unit) else .inl e) l i () = if firstE l = 0 then .inr () else .inl (firstE l)
  | [], _ => rfl
  | a :: r, i => by
    unfold runF firstE
    by_cases ha : a = 0
    · simp only [ha, if_true]; exact a_runF_first r (i + 1)
    · simp only [ha, if_false]
theorem a_first (fu : Nat) (l : List Int) (h : l.length < fu) (hl : l.length < 4611686018427387904) : u_FirstError fu l = some (firstE l) := by
  have := loop_run l (fun n i _ => u_FirstError_L1 fu l (l.length : Int) n (i : Int)) (fun _ (e : Int) (_ : Unit) => if e = 0 then (.inr () : Int ⊕ Unit) else .inl e) id
    (fun n s => by rw [u_FirstError_L1, if_neg (by omega)]; rfl)
    (fun n i e s he => by
      obtain ⟨h1, h2, h3⟩ := idx he
      rw [u_FirstError_L1, if_pos h1, if_pos h2, if_pos h1, h3, Option.bind_some]
      by_cases h0 : e = 0
      · simp only [h0, if_true]; rw [wrapS (by omega)]
      · simp only [h0, if_false]; rfl) fu 0 () (by omega) (by omega)
  unfold u_FirstError
  rw [show ((0 : Nat) : Int) = 0 from rfl] at this
  rw [this, List.drop_zero, a_runF_first, Option.bind_some]
  by_cases h0 : firstE l = 0
  · simp [h0]
  · simp [h0]
def isB (e : Int) : Bool := decide (0 ≤ e ∧ e ≤ 255)
def byE (l : List Int) : Int := if l.all isB then 0 else 2
theorem a_byte (e : Int) : bus_byteError e = some (if isB e then 0 else 2) := by
  unfold bus_byteError isB
  rw [a_limit, Option.bind_some]
  by_cases h : 0 ≤ e ∧ e ≤ 255
  · rw [if_pos (by simpa using h), limE_zero.2 h]
  · rw [if_neg (by simpa using h), limE_two h]
theorem a_bad (fu : Nat) (l : List Int) (hl : l.length < 1000) : ∀ n i, i ≤ l.length → l.length - i < n → ∃ x, u_FirstBad_int_byteError_L1 fu l (l.length : Int) n (i : Int) = some x ∧ (match x with | .inl y => y.2 | .inr _ => 0) = byE (l.drop i)
  | 0, i, _, h => by omega
  | n + 1, i, hi, h => by
    rcases Nat.lt_or_ge i l.length with h1 | h1
    · have he : l[i]? = some l[i] := List.getElem?_eq_getElem h1
      obtain ⟨a1, a2, a3⟩ := idx he
      rw [u_FirstBad_int_byteError_L1, if_pos a1, if_pos a2, if_pos a1, a3, Option.bind_some, a_byte, Option.bind_some, List.drop_eq_getElem_cons h1]
      unfold byE
      rw [List.all_cons]
      cases hb : isB l[i] with
      | true =>
        rw [if_pos rfl, if_pos rfl, wrapS (by omega), Bool.true_and]
        exact a_bad fu l hl n (i + 1) (by omega) (by omega)
      | false => exact ⟨_, rfl, rfl⟩
    · have : i = l.length := by omega
      subst this
      rw [u_FirstBad_int_byteError_L1, if_neg (by omega), List.drop_of_length_le (Nat.le_refl _)]
      exact ⟨_, rfl, rfl⟩
theorem a_firstBad (fu : Nat) (l : List Int) (hl : l.length < 1000) (hf : l.length < fu) : ∃ i, u_FirstBad_int_byteError fu l = some (i, byE l) := by
  unfold u_FirstBad_int_byteError
  obtain ⟨x, e, hx⟩ := a_bad fu l hl fu 0 (by omega) (by omega)
  rw [show ((0 : Nat) : Int) = 0 from rfl] at e
  rw [e, Option.bind_some]
  rw [List.drop_zero] at hx
  rw [← hx]
  cases x with
  | inl y => exact ⟨_, rfl⟩
  | inr y => exact ⟨_, rfl⟩
theorem a_bytes (fu : Nat) (l : List Int) (hl : l.length < 1000) (hf : l.length < fu) : bus_bytesError fu l = some (byE l) := by
  obtain ⟨i, e⟩ := a_firstBad fu l hl hf
  unfold bus_bytesError
  rw [e]; rfl
theorem byE_cases (l : List Int) : (l.all isB = true ∧ byE l = 0) ∨ (l.all isB = false ∧ byE l = 2) := by
  unfold byE
  cases h : l.all isB
  · exact .inr ⟨rfl, rfl⟩
  · exact .inl ⟨rfl, rfl⟩

/-! ### Messages -/
def msgB (s n k : Int) (d : List Int) : Bool := decide (0 ≤ s ∧ s ≤ 15) && decide (0 ≤ k ∧ k ≤ 3) && isB n && d.all isB
def msgE (s n k : Int) (d : List Int) : Int := if msgB s n k d then 0 else 2
theorem a_check (fu : Nat) (hf : 100 ≤ fu) (s n k a b c d : Int) : bus_CheckMessage fu s n k a b c d = some (msgE s n k [a, b, c, d]) := by
  unfold bus_CheckMessage
  rw [a_limit, Option.bind_some, a_limit, Option.bind_some, a_byte, Option.bind_some, a_bytes fu _ (by simp) (by simp; omega), Option.bind_some, a_first fu _ (by simp; omega) (by simp), Option.bind_some]
  congr 1
  unfold msgE msgB firstE firstE firstE firstE firstE byE
  by_cases h1 : 0 ≤ s ∧ s ≤ 15
  · rw [limE_zero.2 h1, if_pos rfl]
    by_cases h2 : 0 ≤ k ∧ k ≤ 3
    · rw [limE_zero.2 h2, if_pos rfl]
      cases isB n <;> cases [a, b, c, d].all isB <;> simp [h1, h2]
    · rw [limE_two h2]; simp [h2]
  · rw [limE_two h1]; simp [h1]
theorem a_isByte (e : Int) : r7_IsByte e = some (isB e) := by
  unfold r7_IsByte isB
  rw [a_within, Option.bind_some]
  by_cases h : 0 ≤ e ∧ e ≤ 255
  · simp [h]
  · simp [h]
theorem a_msgL (fu : Nat) (s n k a b c d : Int) (m : Nat) (hm : 10 ≤ m) : r7_MessageErr_L1 fu s n k a b c d m 0 = some (if [a, b, c, d].all isB then .inr () else .inl ()) := by
  obtain ⟨m, rfl⟩ : ∃ q, m = q + 5 := ⟨m - 5, by omega⟩
  have w0 : IntKind.wrap .i64 ((0 : Int) + 1) = 1 := by decide +kernel
  have w1 : IntKind.wrap .i64 ((1 : Int) + 1) = 2 := by decide +kernel
  have w2 : IntKind.wrap .i64 ((2 : Int) + 1) = 3 := by decide +kernel
  have w3 : IntKind.wrap .i64 ((3 : Int) + 1) = 4 := by decide +kernel
  rw [r7_MessageErr_L1, if_pos (by decide), if_neg (by decide), if_neg (by decide), if_neg (by decide), if_pos (by decide), a_isByte, Option.bind_some, List.all_cons]
  cases isB a with
  | false => rfl
  | true =>
    rw [if_pos rfl, w0, r7_MessageErr_L1, if_pos (by decide), if_neg (by decide), if_neg (by decide), if_pos (by decide), a_isByte, Option.bind_some, List.all_cons]
    cases isB b with
    | false => rfl
    | true =>
      rw [if_pos rfl, w1, r7_MessageErr_L1, if_pos (by decide), if_neg (by decide), if_pos (by decide), a_isByte, Option.bind_some, List.all_cons]
      cases isB c with
      | false => rfl
      | true =>
        rw [if_pos rfl, w2, r7_MessageErr_L1, if_pos (by decide), if_pos (by decide), a_isByte, Option.bind_some, List.all_cons]
        cases isB d with
        | false => rfl
        | true =>
          rw [if_pos rfl, w3, r7_MessageErr_L1, if_neg (by decide)]
          rfl
theorem a_msgErr (fu : Nat) (hf : 100 ≤ fu) (s n k a b c d : Int) : r7_MessageErr fu s n k a b c d = some (msgE s n k [a, b, c, d]) := by
  unfold r7_MessageErr
  rw [a_within, Option.bind_some, a_within, Option.bind_some, a_isByte, Option.bind_some, a_msgL fu _ _ _ _ _ _ _ fu (by omega)]
  unfold msgE msgB
  by_cases h1 : 0 ≤ s ∧ s ≤ 15
  · by_cases h2 : 0 ≤ k ∧ k ≤ 3
    · cases isB n <;> cases [a, b, c, d].all isB <;> simp [h1, h2]
    · simp [h1, h2]
  · simp [h1]

/-! ### Remainders -/
def stp (v : Int) : Int := if (256 : Int) ≤ IntKind.wrap .i64 (v * 2) then Cm.bitE .xor .i64 (IntKind.wrap .i64 (v * 2)) 263 else IntKind.wrap .i64 (v * 2)
def it : Nat → Int → Int
  | 0, v => v
  | n + 1, v => it n (stp v)
def rm : List Int → Int → Int
  | [], v => v
  | e :: r, v => rm r (it 8 (Cm.bitE .xor .i64 v e))
theorem a_rem1 (fu : Nat) (p0 : List Int) (p2 p3 : Int) : ∀ n k v, k ≤ 8 → 8 - k < n → bus_remainder_L1 fu p0 p2 p3 n v ((k : Nat) : Int) = some (it (8 - k) v)
  | 0, k, v, _, h => by omega
  | n + 1, k, v, hk, h => by
    rw [bus_remainder_L1]
    rcases Nat.lt_or_ge k 8 with h1 | h1
    · rw [if_pos (by omega), wrapS (by omega), a_rem1 fu p0 p2 p3 n (k + 1) _ (by omega) (by omega), a_rem1 fu p0 p2 p3 n (k + 1) _ (by omega) (by omega), show 8 - k = (8 - (k + 1)) + 1 by omega, it, stp]
      split <;> rfl
    · rw [if_neg (by omega), show 8 - k = 0 by omega]; rfl
theorem a_rem2 (fu : Nat) (hf : 100 ≤ fu) (l : List Int) (hl : l.length < 1000) : ∀ n i v, i ≤ l.length → l.length - i < n → bus_remainder_L2 fu l (l.length : Int) n v ((i : Nat) : Int) = some (rm (l.drop i) v)
  | 0, i, v, _, h => by omega
  | n + 1, i, v, hi, h => by
    rw [bus_remainder_L2]
    rcases Nat.lt_or_ge i l.length with h1 | h1
    · obtain ⟨a1, a2, a3⟩ := idx (List.getElem?_eq_getElem h1)
      have e := a_rem1 fu l (l.length : Int) ((i : Nat) : Int) fu 0 (Cm.bitE .xor .i64 v l[i]) (by omega) (by omega)
      rw [show ((0 : Nat) : Int) = 0 from rfl] at e
      rw [if_pos a1, if_pos a2, if_pos a1, a3, Option.bind_some, e, Option.bind_some, wrapS (by omega), a_rem2 fu hf l hl n (i + 1) _ (by omega) (by omega), List.drop_eq_getElem_cons h1, rm]
    · rw [if_neg (by omega), List.drop_of_length_le h1, rm]
theorem a_remainder (fu : Nat) (hf : 1000 ≤ fu) (l : List Int) (hl : l.length < 1000) : bus_remainder fu l = some (rm l 0) := by
  unfold bus_remainder
  have e := a_rem2 fu (by omega) l hl fu 0 0 (by omega) (by omega)
  rw [show ((0 : Nat) : Int) = 0 from rfl, List.drop_zero] at e
  rw [e]; rfl
theorem a_rem3 (fu : Nat) (p0 : List Int) (p2 p3 p4 : Int) : ∀ n k v, k ≤ 8 → 8 - k < n → bus_remainder_2_L2 fu p0 p2 p3 p4 n v ((k : Nat) : Int) = some (it (8 - k) v, p2)
  | 0, k, v, _, h => by omega
  | n + 1, k, v, hk, h => by
    rw [bus_remainder_2_L2]
    rcases Nat.lt_or_ge k 8 with h1 | h1
    · rw [if_pos (by omega), wrapS (by omega), a_rem3 fu p0 p2 p3 p4 n (k + 1) _ (by omega) (by omega), a_rem3 fu p0 p2 p3 p4 n (k + 1) _ (by omega) (by omega), show 8 - k = (8 - (k + 1)) + 1 by omega, it, stp]
      split <;> rfl
    · rw [if_neg (by omega), show 8 - k = 0 by omega]; rfl
theorem a_rem4 (fu : Nat) (hf : 100 ≤ fu) (l : List Int) (hl : l.length < 1000) (m : Nat) (hm : m ≤ l.length) : ∀ n i v, i ≤ m → m - i < n → bus_remainder_2_L3 fu l (m : Int) n v (m : Int) ((i : Nat) : Int) = some (rm ((l.drop i).take (m - i)) v)
  | 0, i, v, _, h => by omega
  | n + 1, i, v, hi, h => by
    rw [bus_remainder_2_L3]
    rcases Nat.lt_or_ge i m with h1 | h1
    · have h2 : i < l.length := by omega
      obtain ⟨a1, a2, a3⟩ := idx (List.getElem?_eq_getElem h2)
      have e := a_rem3 fu l (m : Int) (m : Int) ((i : Nat) : Int) fu 0 (Cm.bitE .xor .i64 v l[i]) (by omega) (by omega)
      rw [show ((0 : Nat) : Int) = 0 from rfl] at e
      rw [if_pos (by omega), if_pos a2, if_pos (by omega), a3, Option.bind_some, e, Option.bind_some]
      simp only
      rw [wrapS (by omega), a_rem4 fu hf l hl m hm n (i + 1) _ (by omega) (by omega), List.drop_eq_getElem_cons h2, show m - i = (m - (i + 1)) + 1 by omega, List.take_succ_cons, rm]
    · rw [if_neg (by omega), show m - i = 0 by omega, List.take_zero, rm]
theorem a_remTo (fu : Nat) (hf : 1000 ≤ fu) (a b c d e f g h : Int) : bus_remainder_2 fu ([a, b, c, d, e, f, g, h] : List Int) 7 = some (rm [a, b, c, d, e, f, g] 0) := by
  unfold bus_remainder_2
  have q := a_rem4 fu (by omega) [a, b, c, d, e, f, g, h] (by simp) 7 (by simp) fu 0 0 (by omega) (by omega)
  rw [show ((0 : Nat) : Int) = 0 from rfl, show ((7 : Nat) : Int) = 7 from rfl] at q
  rw [q]; rfl
/-! ### What the functions answer -/
def ermE (l : List Int) : Int := if (60 : Int) < (l.length : Int) then 8 else byE l
theorem a_remOf (fu : Nat) (hf : 1000 ≤ fu) (l : List Int) (hl : l.length < 1000) : bus_RemainderOf fu l = some (if ermE l = 0 then (rm l 0, 0) else (0, ermE l)) := by
  unfold bus_RemainderOf u_CheckList_int_byteError ermE
  rw [if_neg (by omega)]
  by_cases h : (60 : Int) < (l.length : Int)
  · rw [if_pos h, if_pos h]; rfl
  · rw [if_neg h, if_neg h]
    obtain ⟨i, e⟩ := a_firstBad fu l hl (by omega)
    rw [e, Option.bind_some, Option.bind_some]
    simp only
    by_cases h0 : byE l = 0
    · rw [if_pos h0, if_pos h0, a_remainder fu hf l hl]; rfl
    · rw [if_neg h0, if_neg h0]
theorem a_encoded (fu : Nat) (hf : 1000 ≤ fu) (s n k a b c d : Int) : bus_Encoded fu s n k a b c d = some (if msgE s n k [a, b, c, d] = 0 then (s, n, k, a, b, c, d, rm [s, n, k, a, b, c, d] 0, 0) else (0, 0, 0, 0, 0, 0, 0, 0, msgE s n k [a, b, c, d])) := by
  unfold bus_Encoded
  rw [a_check fu (by omega), Option.bind_some]
  by_cases h : msgE s n k [a, b, c, d] = 0
  · rw [if_pos h, if_pos h, a_remTo fu hf]; rfl
  · rw [if_neg h, if_neg h]
def dcE (f : List Int) (s n k a b c d h : Int) : Int := if byE f = 0 then (if h = rm [s, n, k, a, b, c, d] 0 then msgE s n k [a, b, c, d] else 19) else byE f
def dcd (f : List Int) (s n k a b c d h : Int) : Int × Int × Int × Int × Int × Int × Int × Int := if dcE f s n k a b c d h = 0 then (s, n, k, a, b, c, d, 0) else (0, 0, 0, 0, 0, 0, 0, dcE f s n k a b c d h)
theorem a_decoded (fu : Nat) (hf : 1000 ≤ fu) (s n k a b c d h : Int) : bus_Decoded fu s n k a b c d h = some (dcd [s, n, k, a, b, c, d, h] s n k a b c d h) := by
  unfold bus_Decoded dcd dcE
  rw [a_bytes fu _ (by simp) (by simp; omega), Option.bind_some]
  by_cases h0 : byE [s, n, k, a, b, c, d, h] = 0
  · rw [if_pos h0, if_pos h0, a_remTo fu hf, Option.bind_some]
    by_cases h1 : h = rm [s, n, k, a, b, c, d] 0
    · rw [if_pos h1, if_pos h1, a_check fu (by omega), Option.bind_some]
      by_cases h2 : msgE s n k [a, b, c, d] = 0
      · rw [if_pos h2, if_pos h2]
      · rw [if_neg h2, if_neg h2]
    · rw [if_neg h1, if_neg h1]; rfl
  · rw [if_neg h0, if_neg h0, if_neg h0]
end Go.Proofs.YtefkmidmjofdcaaGreat
