/-
  Chapter 7: the response of a stream, and which streams are late.
-/
import Derived.Test.YthffbfkcmbgghaaGreatZK8l
import Derived.Test.YthffbfkcmbgghaaGreatQNm
import Derived.Test.YthffbfkcmbgghaaGreatQNd
import Derived.Test.YthffbfkcmbgghaaGreatQNp
set_option linter.all false
namespace Go.Proofs.YthffbfkcmbgghaaGreat
open Go Go.RowKit
set_option maxHeartbeats 1000000
namespace Bs
theorem cei_val {x p : Int} (hp : 0 < p) : cei x p = if x % p = 0 then x / p else x / p + 1 := by
 have e := Int.ediv_mul_add_emod x p
 have m0 := Int.emod_nonneg x (show p ≠ 0 by omega)
 have m1 := Int.emod_lt_of_pos x hp
 unfold cei
 split
 ·rw [show x + p - 1 = (p - 1) + x / p * p by omega, Int.add_mul_ediv_right _ _ (by omega), Int.ediv_eq_zero_of_lt (by omega) (by omega)]; omega
 ·rw [show x + p - 1 = (x % p - 1) + (x / p + 1) * p by rw [Int.add_mul]; omega, Int.add_mul_ediv_right _ _ (by omega), Int.ediv_eq_zero_of_lt (by omega) (by omega)]; omega
theorem cei_self {x p : Int} (hp : 1 ≤ p) (hx : 0 ≤ x) : cei x p ≤ x := by
 have := Int.mul_le_mul_of_nonneg_left hp hx
 exact cei_le (by omega) (by omega)
theorem cei_mono {x z p : Int} (hp : 0 < p) (h : x ≤ z) : cei x p ≤ cei z p := Int.ediv_le_ediv hp (by omega)
theorem r_ceil {x p : Int} (hp : 1 ≤ p) (h1 : 1 ≤ x) (h2 : x ≤ 10000) : u_Ceiling x p = some (cei x p) := by
 have d0 : 0 ≤ x / p := Int.ediv_nonneg (by omega) (by omega)
 have d1 : x / p ≤ 10000 := Int.le_trans (Int.ediv_le_self _ (by omega)) h2
 have m0 := Int.emod_nonneg x (show p ≠ 0 by omega)
 unfold u_Ceiling u_Floor
 rw [wrapB (x := 0 - x) (by omega) (by omega), Int.zero_sub, Int.neg_tmod, Int.neg_tdiv, Int.tmod_eq_emod_of_nonneg (by omega), Int.tdiv_eq_ediv_of_nonneg (by omega), if_neg (by omega), wrapB (x := -(x / p)) (by omega) (by omega), cei_val (by omega)]
 by_cases h : x % p = 0
 ·rw [if_neg (by omega), if_pos h, Option.bind_some, wrapB (x := 0 - -(x / p)) (by omega) (by omega)]
  congr 1; omega
 ·rw [if_pos (by omega), if_neg h, wrapB (x := -(x / p) - 1) (by omega) (by omega), Option.bind_some, wrapB (x := 0 - (-(x / p) - 1)) (by omega) (by omega)]
  congr 1; omega
abbrev OkL (l : List Str) : Prop := l.length ≤ 6 ∧ ∀ e ∈ l, (1 ≤ e.2.1 ∧ e.2.1 ≤ 60) ∧ (1 ≤ e.2.2.1 ∧ e.2.2.1 ≤ e.2.1) ∧ (1 ≤ e.2.2.2 ∧ e.2.2.2 ≤ 20)
def addF (l : List Str) (x : Int) (j : Nat) : Int := (gs l j).2.2.2 * cei x (gs l j).2.1
def demF (l : List Str) (i : Nat) (x : Int) : Int := (gs l i).2.2.2 + sumTo i (addF l x)
theorem gs_ok {l : List Str} (hl : OkL l) {i : Nat} (hi : i < l.length) : l[i]? = some (gs l i) ∧ (1 ≤ (gs l i).2.1 ∧ (gs l i).2.1 ≤ 60) ∧ (1 ≤ (gs l i).2.2.1 ∧ (gs l i).2.2.1 ≤ (gs l i).2.1) ∧ (1 ≤ (gs l i).2.2.2 ∧ (gs l i).2.2.2 ≤ 20) := by
 have hx := List.getElem?_eq_getElem hi
 rw [gs_at hx]
 exact ⟨hx, hl.2 _ (List.getElem_mem hi)⟩
theorem addF_mono {l : List Str} (hl : OkL l) {j : Nat} (hj : j < l.length) {x z : Int} (h : x ≤ z) : addF l x j ≤ addF l z j := by
 have g := gs_ok hl hj
 exact Int.mul_le_mul_of_nonneg_left (cei_mono (by omega) h) (by omega)
theorem addF_bound {l : List Str} (hl : OkL l) {j : Nat} (hj : j < l.length) {x : Int} (h1 : 1 ≤ x) (h2 : x ≤ 10000) : 0 ≤ addF l x j ∧ addF l x j ≤ 200000 := by
 obtain ⟨_, g1, g2, g3⟩ := gs_ok hl hj
 have c0 := cei_nn (x := x) (p := (gs l j).2.1) (by omega) (by omega)
 have c1 := cei_self (x := x) (p := (gs l j).2.1) (by omega) (by omega)
 refine ⟨Int.mul_nonneg (by omega) c0, ?_⟩
 have h3 := Int.mul_le_mul_of_nonneg_right g3.2 c0
 unfold addF; omega
theorem demF_mono {l : List Str} (hl : OkL l) {i : Nat} (hi : i < l.length) {x z : Int} (h : x ≤ z) : demF l i x ≤ demF l i z := by
 have := sumTo_le (n := i) (f := addF l x) (g := addF l z) fun j hj => addF_mono hl (by omega) h
 unfold demF; omega
theorem r_loop1 {fu : Nat} {l : List Str} (hl : OkL l) {i : Nat} (hi : i ≤ l.length) {x : Int} (h1 : 1 ≤ x) (h2 : x ≤ 10000) (p2 p3 p4 p5 p6 : Int) : ∀ (m k n : Nat) (v : Int), k + m = i → m < n → 0 ≤ v → v + 200000 * m ≤ 2000000 → bus_response_L1 fu l (i : Int) p2 p3 p4 p5 p6 x n v (k : Int) = some ((i : Int), v + (sumTo i (addF l x) - sumTo k (addF l x)))
 | _, _, 0, _, _, hn, _, _ => absurd hn (by omega)
 | 0, k, n + 1, v, hk, _, _, _ => by
  have : k = i := by omega
  subst this
  rw [bus_response_L1, if_neg (by omega), Int.sub_self, Int.add_zero]
 | m + 1, k, n + 1, v, hk, hn, hv, hb => by
  have hkl : k < l.length := by omega
  obtain ⟨hx, g1, g2, g3⟩ := gs_ok hl hkl
  have a := addF_bound hl hkl h1 h2
  have W : IntKind.wrap .i64 ((k : Int) + 1) = ((k + 1 : Nat) : Int) := wrapS (by have := hl.1; omega)
  have A : (gs l k).2.2.2 * cei x (gs l k).2.1 = addF l x k := rfl
  rw [bus_response_L1, if_pos (by omega), if_pos (idx hx).2.1, (idx hx).2.2, Option.bind_some, r_ceil g1.1 h1 h2, Option.bind_some, A, wrapB (x := addF l x k) (by omega) (by omega), wrapB (x := v + addF l x k) (by omega) (by omega), W,
   r_loop1 hl hi h1 h2 p2 p3 p4 p5 p6 m (k + 1) n _ (by omega) (by omega) (by omega) (by omega)]
  have : sumTo (k + 1) (addF l x) = sumTo k (addF l x) + addF l x k := rfl
  rw [this]
  refine congrArg (fun y => some ((i : Int), y)) ?_
  omega
structure IsR (l : List Str) (i : Nat) (r : Int) : Prop where
 pos : 1 ≤ r
 fix : demF l i r = r
 least : ∀ z, 1 ≤ z → z < r → z < demF l i z
theorem isR_one {l : List Str} {i : Nat} {r r' : Int} (h : IsR l i r) (h' : IsR l i r') : r = r' := by
 rcases Int.lt_trichotomy r r' with g | g | g
 ·have := h'.least r h.pos g; have := h.fix; omega
 ·exact g
 ·have := h.least r' h'.pos g; have := h'.fix; omega
theorem r_loop2 {fu : Nat} (hf : 1000 ≤ fu) {l : List Str} (hl : OkL l) {i : Nat} (hi : i < l.length) {lim : Int} (hlim : lim ≤ 10000) (p3 p4 p5 : Int) : ∀ (n : Nat) (x : Int), 1 ≤ n → 10001 < x + n → 1 ≤ x → x ≤ demF l i x → (∀ z, 1 ≤ z → z < x → z < demF l i z) →
  (∃ r, bus_response_L2 fu l (i : Int) lim p3 p4 p5 (gs l i).2.2.2 n x = some (.inl r) ∧ IsR l i r ∧ r ≤ lim) ∨ (bus_response_L2 fu l (i : Int) lim p3 p4 p5 (gs l i).2.2.2 n x = some (.inr ()) ∧ ∀ z, 1 ≤ z → z ≤ lim → z < demF l i z)
 | 0, _, hn, _, _, _, _ => absurd hn (by omega)
 | n + 1, x, _, hn, h1, hd, hz => by
  rw [bus_response_L2]
  by_cases g : x ≤ lim
  ·obtain ⟨_, g1, g2, g3⟩ := gs_ok hl hi
   have few := hl.1
   have E : bus_response_L1 fu l (i : Int) lim p3 p4 p5 (gs l i).2.2.2 x fu (gs l i).2.2.2 (0 : Int) = some ((i : Int), (gs l i).2.2.2 + (sumTo i (addF l x) - sumTo 0 (addF l x))) := r_loop1 hl (by omega) h1 (by omega) lim p3 p4 p5 (gs l i).2.2.2 i 0 fu (gs l i).2.2.2 (by omega) (by omega) (by omega) (by omega)
   have E2 : (gs l i).2.2.2 + (sumTo i (addF l x) - sumTo 0 (addF l x)) = demF l i x := by
    show _ + (_ - 0) = _
    unfold demF; omega
   rw [if_pos g, E, E2, Option.bind_some]
   by_cases g4 : demF l i x = x
   ·rw [if_pos (show ((i : Int), demF l i x).2 = x from g4)]
    exact .inl ⟨x, rfl, ⟨h1, g4, hz⟩, g⟩
   ·rw [if_neg (show ¬((i : Int), demF l i x).2 = x from g4)]
    refine r_loop2 hf hl hi hlim p3 p4 p5 n (demF l i x) (by omega) (by omega) (by omega) (demF_mono hl hi hd) fun z z1 z2 => ?_
    rcases Int.lt_or_le z x with z3 | z3
    ·exact hz z z1 z3
    ·have := demF_mono hl hi z3
     omega
  ·rw [if_neg g]
   exact .inr ⟨rfl, fun z z1 z2 => hz z z1 (by omega)⟩
theorem r_resp {fu : Nat} (hf : 20000 ≤ fu) {l : List Str} (hl : OkL l) {i : Nat} (hi : i < l.length) {lim : Int} (hlim : lim ≤ 10000) :
  (∃ r, bus_response fu (gs l i).1 (gs l i).2.1 (gs l i).2.2.1 (gs l i).2.2.2 l (i : Int) lim = some (r, true) ∧ IsR l i r ∧ r ≤ lim) ∨ (bus_response fu (gs l i).1 (gs l i).2.1 (gs l i).2.2.1 (gs l i).2.2.2 l (i : Int) lim = some (0, false) ∧ ∀ z, 1 ≤ z → z ≤ lim → z < demF l i z) := by
 obtain ⟨_, g1, g2, g3⟩ := gs_ok hl hi
 have hd : 1 ≤ demF l i 1 := by
  have : sumTo i (fun _ => (0 : Int)) ≤ sumTo i (addF l 1) := sumTo_le fun j hj => (addF_bound hl (by omega) (by omega) (by omega)).1
  rw [sumTo_zero fun _ _ => rfl] at this
  unfold demF; omega
 unfold bus_response
 rcases r_loop2 (fu := fu) (by omega) hl hi hlim (gs l i).1 (gs l i).2.1 (gs l i).2.2.1 fu 1 (by omega) (by omega) (by omega) hd (fun z z1 z2 => by omega) with ⟨r, E, a⟩ | ⟨E, a⟩
 ·exact .inl ⟨r, by rw [E]; rfl, a⟩
 ·exact .inr ⟨by rw [E]; rfl, a⟩
theorem r_of {fu : Nat} (hf : 20000 ≤ fu) {l : List Str} (h0 : stE l = 0) {i : Nat} (hi : i < l.length) :
  (∃ r, bus_ResponseOf fu l (i : Int) = some (r, 0) ∧ IsR l i r) ∨ (bus_ResponseOf fu l (i : Int) = some (0, 12) ∧ ∀ z, 1 ≤ z → z ≤ 10000 → z < demF l i z) := by
 have hl : OkL l := stE_ok h0
 have few := hl.1
 obtain ⟨hx, g1, g2, g3⟩ := gs_ok hl hi
 unfold bus_ResponseOf
 have eI : u_IndexError (i : Int) (l.length : Int) = some 0 := by unfold u_IndexError; rw [if_neg (by omega), if_neg (by omega)]
 rw [x_streams fu (by omega) l (by omega), Option.bind_some, eI, Option.bind_some, x_first fu _ (by simp; omega) (by simp), Option.bind_some, h0]
 rw [if_pos (by simp [firstE]), if_pos (idx hx).2.1, if_pos (idx hx).1, (idx hx).2.2, Option.bind_some, if_pos (by omega)]
 rcases r_resp hf hl hi (lim := 10000) (by omega) with ⟨r, E, a, _⟩ | ⟨E, a⟩
 ·exact .inl ⟨r, by rw [E]; rfl, a⟩
 ·exact .inr ⟨by rw [E]; rfl, a⟩
structure LateK (l : List Str) (k : Nat) (v : List Int) : Prop where
 len : v.length ≤ k
 yes : ∀ j : Nat, (j : Int) ∈ v → j < k ∧ ∀ z, 1 ≤ z → z ≤ (gs l j).2.2.1 → z < demF l j z
 no : ∀ j : Nat, j < k → ¬(j : Int) ∈ v → ∃ r, IsR l j r ∧ r ≤ (gs l j).2.2.1
theorem late_loop {fu : Nat} (hf : 20000 ≤ fu) {l : List Str} (hl : OkL l) : ∀ (m k n : Nat) (v : List Int), k + m = l.length → m < n → LateK l k v → ∃ v', bus_LateIn_L1 fu l (l.length : Int) n v (k : Int) = some v' ∧ LateK l l.length v'
 | _, _, 0, _, _, hn, _ => absurd hn (by omega)
 | 0, k, n + 1, v, hk, _, hv => by
  have : k = l.length := by omega
  subst this
  rw [bus_LateIn_L1, if_neg (by omega)]
  exact ⟨v, rfl, hv⟩
 | m + 1, k, n + 1, v, hk, hn, hv => by
  have hkl : k < l.length := by omega
  have few := hl.1
  obtain ⟨hx, g1, g2, g3⟩ := gs_ok hl hkl
  have W : IntKind.wrap .i64 ((k : Int) + 1) = ((k + 1 : Nat) : Int) := wrapS (by omega)
  have hlen := hv.len
  rw [bus_LateIn_L1, if_pos (by omega), if_pos (idx hx).2.1, if_pos (idx hx).1, (idx hx).2.2, Option.bind_some, if_pos (by omega), W]
  unfold bus_isLate
  rcases r_resp hf hl hkl (lim := (gs l k).2.2.1) (by omega) with ⟨r, E, a, b⟩ | ⟨E, a⟩
  ·rw [E, Option.bind_some, if_pos rfl, Option.bind_some, if_neg (by simp)]
   refine late_loop hf hl m (k + 1) n v (by omega) (by omega) ⟨by omega, fun j hj => ⟨by have := (hv.yes j hj).1; omega, (hv.yes j hj).2⟩, fun j hj hn => ?_⟩
   rcases Nat.lt_or_ge j k with h1 | h1
   ·exact hv.no j h1 hn
   ·have : j = k := by omega
    subst this
    exact ⟨r, a, b⟩
  ·rw [E, Option.bind_some, if_neg (by simp), Option.bind_some, if_pos rfl, if_pos (by omega)]
   refine late_loop hf hl m (k + 1) n _ (by omega) (by omega) ⟨by rw [List.length_append, List.length_singleton]; omega, fun j hj => ?_, fun j hj hn => ?_⟩
   ·rcases List.mem_append.1 hj with h1 | h1
    ·exact ⟨by have := (hv.yes j h1).1; omega, (hv.yes j h1).2⟩
    ·have : j = k := by have := List.mem_singleton.1 h1; omega
     subst this
     exact ⟨by omega, a⟩
   ·rcases Nat.lt_or_ge j k with h1 | h1
    ·exact hv.no j h1 fun q => hn (List.mem_append_left _ q)
    ·have : j = k := by omega
     subst this
     exact absurd (List.mem_append_right _ (List.mem_singleton.2 rfl)) hn
theorem late_of {fu : Nat} (hf : 20000 ≤ fu) {l : List Str} (h0 : stE l = 0) : ∃ v, bus_LateIn fu l = some (v, 0) ∧ LateK l l.length v := by
 have hl : OkL l := stE_ok h0
 have few := hl.1
 obtain ⟨v, E, a⟩ := late_loop hf hl l.length 0 fu [] (by omega) (by omega) ⟨by simp, fun j hj => absurd hj List.not_mem_nil, fun j hj => absurd hj (by omega)⟩
 have E' : bus_LateIn_L1 fu l (l.length : Int) fu [] (0 : Int) = some v := E
 refine ⟨v, ?_, a⟩
 unfold bus_LateIn
 rw [x_streams fu (by omega) l (by omega), Option.bind_some, if_pos h0, E', Option.bind_some]
theorem has_loop (fu : Nat) {v : List Int} (hv : v.length < 1000) (x : Int) : ∀ (m k n : Nat), k + m = v.length → m < n → b_Has_L1 fu v x n (k : Int) = some (if x ∈ v.drop k then .inl () else .inr ())
 | _, _, 0, _, hn => absurd hn (by omega)
 | 0, k, n + 1, hk, _ => by
  rw [b_Has_L1, if_neg (by omega), List.drop_of_length_le (by omega), if_neg List.not_mem_nil]
 | m + 1, k, n + 1, hk, hn => by
  have hkv : k < v.length := by omega
  have hx := List.getElem?_eq_getElem hkv
  have W : IntKind.wrap .i64 ((k : Int) + 1) = ((k + 1 : Nat) : Int) := wrapS (by omega)
  rw [b_Has_L1, if_pos (by omega), if_pos (idx hx).2.1, (idx hx).2.2, Option.bind_some, W, List.drop_eq_getElem_cons hkv]
  by_cases g : v[k] = x
  ·rw [if_pos g, if_pos (by rw [g]; exact List.mem_cons_self)]
  ·rw [if_neg g, has_loop fu hv x m (k + 1) n (by omega) (by omega)]
   by_cases g2 : x ∈ v.drop (k + 1)
   ·rw [if_pos g2, if_pos (List.mem_cons_of_mem _ g2)]
   ·rw [if_neg g2, if_neg (fun q => by
     rcases List.mem_cons.1 q with q | q
     ·exact g q.symm
     ·exact g2 q)]
theorem has_eq {fu : Nat} (hf : 1000 ≤ fu) {v : List Int} (hv : v.length < 900) (x : Int) : b_Has fu v x = some (decide (x ∈ v)) := by
 have E : b_Has_L1 fu v x fu (0 : Int) = some (if x ∈ v.drop 0 then .inl () else .inr ()) := has_loop fu (by omega) x v.length 0 fu (by omega) (by omega)
 unfold b_Has
 rw [E, List.drop_zero, Option.bind_some]
 by_cases g : x ∈ v
 ·rw [if_pos g, decide_eq_true g]
 ·rw [if_neg g, decide_eq_false g]
theorem w_within (n lo hi : Int) : b_Within_2 n lo hi = some (decide (lo ≤ n ∧ n ≤ hi)) := by
 unfold b_Within_2
 by_cases h1 : lo ≤ n
 ·by_cases h2 : n ≤ hi
  ·simp [h1, h2]
  ·simp [h1, h2]
 ·simp [h1]
end Bs
end Go.Proofs.YthffbfkcmbgghaaGreat

namespace Go.Proofs.YthffbfkcmbgghaaGreat
open Go Go.RowKit
set_option maxHeartbeats 1000000
namespace Bs
theorem few_L (fu : Nat) {l : List Str} (hl : l.length ≤ 8) : ∀ (m i n : Nat), i + m = l.length → m < n → ∃ x, l7_fewStreams_L1 fu l n (i : Int) = some x
 | _, _, 0, _, hn => absurd hn (by omega)
 | 0, i, n + 1, hi, _ => by
  rw [l7_fewStreams_L1, if_neg (by omega)]
  exact ⟨_, rfl⟩
 | m + 1, i, n + 1, hi, hn => by
  have hx := List.getElem?_eq_getElem (show i < l.length by omega)
  have W : IntKind.wrap .i64 ((i : Int) + 1) = ((i + 1 : Nat) : Int) := wrapS (by omega)
  rw [l7_fewStreams_L1, if_pos (idx hx).1, if_pos (idx hx).2.1, (idx hx).2.2, Option.bind_some, W]
  split
  ·exact ⟨_, rfl⟩
  ·exact few_L fu hl m (i + 1) n (by omega) (by omega)
theorem few_any (fu : Nat) (hf : 1000 ≤ fu) (l : List Str) : ∃ b, l7_fewStreams fu l = some b ∧ (b = true → l.length ≤ 8) := by
 unfold l7_fewStreams
 by_cases g : (8 : Int) < (l.length : Int)
 ·rw [if_pos g]
  exact ⟨false, rfl, fun q => by cases q⟩
 ·rw [if_neg g]
  obtain ⟨x, E⟩ := few_L fu (l := l) (by omega) l.length 0 fu (by omega) (by omega)
  have E' : l7_fewStreams_L1 fu l fu (0 : Int) = some x := E
  rw [E', Option.bind_some]
  cases x with
  | inl _ => exact ⟨false, rfl, fun q => by cases q⟩
  | inr _ => exact ⟨true, rfl, fun _ => by omega⟩
theorem run_at {y : Sy} {e : Bool} {T : Nat} {o : List Int} {C : Nat → Int} {R' : Nat × Int → Int} (h : Run y e T o C R') : ∀ t, t < T → ∃ c R, Run y e t (o.take t) c R ∧ ((o[t]? = some (-1) ∧ ∀ i, i < y.n → ¬sent y c i < ((t + 1 : Nat) : Int)) ∨ ∃ k : Nat, o[t]? = some (k : Int) ∧ Chosen y c e (t + 1) k) := by
 induction h with
 | zero => intro t ht; omega
 | @idle T o c R h hn ih =>
  intro t ht
  have ol := (run_inv y h).1
  rcases Nat.lt_or_eq_of_le (show t ≤ T by omega) with g | g
  ·rw [List.take_append_of_le_length (by omega), List.getElem?_append_left (by omega)]
   exact ih t g
  ·subst g
   refine ⟨c, R, ?_, .inl ⟨?_, hn⟩⟩
   ·rw [List.take_append_of_le_length (by omega), List.take_of_length_le (by omega)]; exact h
   ·rw [List.getElem?_append_right (by omega), ol, Nat.sub_self]; rfl
 | @one T o c R k h hn ih =>
  intro t ht
  have ol := (run_inv y h).1
  rcases Nat.lt_or_eq_of_le (show t ≤ T by omega) with g | g
  ·rw [List.take_append_of_le_length (by omega), List.getElem?_append_left (by omega)]
   exact ih t g
  ·subst g
   refine ⟨c, R, ?_, .inr ⟨k, ?_, hn⟩⟩
   ·rw [List.take_append_of_le_length (by omega), List.take_of_length_le (by omega)]; exact h
   ·rw [List.getElem?_append_right (by omega), ol, Nat.sub_self]; rfl
theorem nb_next (y : Sy) {j : Nat} (hj : j < y.n) (t : Int) : nb y j (t + 1) = nb y j t + if y.S j ≤ t ∧ (t - y.S j) % y.P j = 0 then 1 else 0 := by
 have hp := y.hP j hj
 unfold nb
 by_cases g : y.S j ≤ t
 ·have e1 : cei (t + 1 - y.S j) (y.P j) = (t - y.S j) / y.P j + 1 := by
   unfold cei
   rw [show t + 1 - y.S j + y.P j - 1 = (t - y.S j) + 1 * y.P j by omega, Int.add_mul_ediv_right _ _ (by omega)]
  have d0 : 0 ≤ (t - y.S j) / y.P j := Int.ediv_nonneg (by omega) (by omega)
  rw [e1, cei_val hp]
  by_cases g2 : (t - y.S j) % y.P j = 0
  ·rw [if_pos g2, if_pos ⟨g, g2⟩]; omega
  ·rw [if_neg g2, if_neg fun q => g2 q.2]; omega
 ·have c1 := cei_le (x := t + 1 - y.S j) (p := y.P j) (k := 0) hp (by omega)
  have c2 := cei_le (x := t - y.S j) (p := y.P j) (k := 0) hp (by omega)
  rw [if_neg fun q => g q.1]; omega
section
variable {l : List Str} {s : List Int} (h : OkS l s)
theorem nb_bound {j : Nat} (hj : j < l.length) {t : Nat} (ht : t ≤ 401) : 0 ≤ nb (sy h) j t ∧ nb (sy h) j t ≤ 401 ∧ 0 ≤ nb (sy h) j t * (sy h).L j ∧ nb (sy h) j t * (sy h).L j ≤ 8020 := by
 have b := sy_bounds h hj
 have n0 := nb_nn (sy h) j t
 have n1 : nb (sy h) j t ≤ t := nb_le (sy h) hj (by omega) (by
  have := Int.mul_le_mul_of_nonneg_left b.1 (show (0 : Int) ≤ t by omega)
  omega)
 have m0 := Int.mul_nonneg n0 (show 0 ≤ (sy h).L j by omega)
 have m1 := Int.mul_le_mul_of_nonneg_left b.2.2.2.2.2.1 n0
 exact ⟨n0, by omega, m0, by omega⟩
def q (c : Nat → Int) (j : Nat) (t : Nat) : Int := nb (sy h) j t * (sy h).L j - c j
def Wv (c : Nat → Int) (t k : Nat) (v : List Int) : Prop := v.length = l.length ∧ ∀ j, j < l.length → v[j]? = some (q h c j (if j < k then t + 1 else t))
theorem n_loop2 {fu : Nat} (p2 : Int) (p3 : List Int) {t : Nat} (ht : t ≤ 400) {c : Nat → Int} (hc : ∀ i, i < l.length → 0 ≤ c i ∧ c i ≤ 400) : ∀ (m k n : Nat) (v : List Int) (b : Bool), k + m = l.length → m < n → Wv h c t k v → (b = true ↔ ∀ j, j < k → q h c j (t + 1) = 0) → ∃ v' b', l7_BusNeverLate_L2 fu l s p2 p3 (t : Int) n v b (k : Int) = some (p3, v', b') ∧ Wv h c t l.length v' ∧ (b' = true ↔ ∀ j, j < l.length → q h c j (t + 1) = 0)
 | _, _, 0, _, _, _, hn, _, _ => absurd hn (by omega)
 | 0, k, n + 1, v, b, hk, _, hv, hb => by
  have : k = l.length := by omega
  subst this
  rw [l7_BusNeverLate_L2, if_neg (by omega)]
  exact ⟨v, b, rfl, hv, hb⟩
 | m + 1, k, n + 1, v, b, hk, hn, hv, hb => by
  have hkl : k < l.length := by omega
  have few := h.few
  have hx := List.getElem?_eq_getElem hkl
  have hu := List.getElem?_eq_getElem (show k < s.length by rw [h.len]; omega)
  have eP : (sy h).P k = (l[k]'(by omega)).2.1 := by show (gs l k).2.1 = _; rw [gs_at hx]
  have eL : (sy h).L k = (l[k]'(by omega)).2.2.2 := by show (gs l k).2.2.2 = _; rw [gs_at hx]
  have eS : (sy h).S k = s[k]'(by rw [h.len]; omega) := by show s[k]?.getD 0 = _; rw [hu]; rfl
  have bd := sy_bounds h hkl
  have nx := nb_next (sy h) (show k < (sy h).n from hkl) t
  have nx' : nb (sy h) k ((t + 1 : Nat) : Int) = nb (sy h) k t + if (sy h).S k ≤ t ∧ ((t : Int) - (sy h).S k) % (sy h).P k = 0 then 1 else 0 := nx
  have nb0 := nb_bound h hkl (show t ≤ 401 by omega)
  have nb1 := nb_bound h hkl (show t + 1 ≤ 401 by omega)
  have hck := hc k hkl
  have hvk := hv.2 k hkl
  rw [if_neg (by omega)] at hvk
  have W : IntKind.wrap .i64 ((k : Int) + 1) = ((k + 1 : Nat) : Int) := wrapS (by omega)
  have go : ∀ (v1 : List Int) (b1 : Bool), Wv h c t (k + 1) v1 → (b1 = true ↔ b = true ∧ q h c k (t + 1) = 0) → ∃ v' b', l7_BusNeverLate_L2 fu l s p2 p3 (t : Int) n v1 b1 ((k + 1 : Nat) : Int) = some (p3, v', b') ∧ Wv h c t l.length v' ∧ (b' = true ↔ ∀ j, j < l.length → q h c j (t + 1) = 0) := fun v1 b1 w1 w2 => by
   refine n_loop2 p2 p3 ht hc m (k + 1) n v1 b1 (by omega) (by omega) w1 ?_
   rw [w2, hb]
   constructor
   ·intro g j hj
    rcases Nat.lt_or_eq_of_le (show j ≤ k by omega) with g1 | g1
    ·exact g.1 j g1
    ·rw [g1]; exact g.2
   ·intro g
    exact ⟨fun j hj => g j (by omega), g k (by omega)⟩
  have sent1 : (sy h).S k ≤ t ∧ ((t : Int) - (sy h).S k) % (sy h).P k = 0 → q h c k (t + 1) = q h c k t + (sy h).L k := fun g => by
   rw [if_pos g] at nx'
   unfold q
   rw [nx', Int.add_mul, Int.one_mul]; omega
  have sent0 : ¬((sy h).S k ≤ t ∧ ((t : Int) - (sy h).S k) % (sy h).P k = 0) → q h c k (t + 1) = q h c k t := fun g => by
   rw [if_neg g] at nx'
   unfold q
   rw [nx', Int.add_zero]
  have same : ¬((sy h).S k ≤ t ∧ ((t : Int) - (sy h).S k) % (sy h).P k = 0) → Wv h c t (k + 1) v := fun g => by
   refine ⟨hv.1, fun j hj => ?_⟩
   have := hv.2 j hj
   rw [this]
   rcases Nat.lt_trichotomy j k with g1 | g1 | g1
   ·rw [if_pos g1, if_pos (by omega)]
   ·rw [if_neg (by omega), if_pos (by omega), g1, sent0 g]
   ·rw [if_neg (by omega), if_neg (by omega)]
  have qb : -400 ≤ q h c k t ∧ q h c k t ≤ 8020 := by unfold q; omega
  have fin0 : ¬((sy h).S k ≤ t ∧ ((t : Int) - (sy h).S k) % (sy h).P k = 0) → ∃ v' b', (if b = true then (if (k : Int) < (v.length : Int) then (Option.bind (v[0 + ((k : Int)).toNat]?) fun e17 => if e17 = (0 : Int) then (l7_BusNeverLate_L2 fu l s p2 p3 (t : Int) n v true ((k + 1 : Nat) : Int)) else (l7_BusNeverLate_L2 fu l s p2 p3 (t : Int) n v false ((k + 1 : Nat) : Int))) else none) else (l7_BusNeverLate_L2 fu l s p2 p3 (t : Int) n v false ((k + 1 : Nat) : Int))) = some (p3, v', b') ∧ Wv h c t l.length v' ∧ (b' = true ↔ ∀ j, j < l.length → q h c j (t + 1) = 0) := fun g => by
   by_cases g1 : b = true
   ·rw [if_pos g1, if_pos (by rw [hv.1]; omega), (idx hvk).2.2, Option.bind_some]
    by_cases g2 : q h c k t = 0
    ·rw [if_pos g2]; exact go v true (same g) ⟨fun _ => ⟨g1, by rw [sent0 g]; exact g2⟩, fun _ => rfl⟩
    ·rw [if_neg g2]; exact go v false (same g) ⟨(fun e => by cases e), fun e => absurd (by rw [← sent0 g]; exact e.2) g2⟩
   ·rw [if_neg g1]; exact go v false (same g) ⟨(fun e => by cases e), fun e => absurd e.1 g1⟩
  rw [l7_BusNeverLate_L2, if_pos (idx hx).1, if_pos (idx hx).2.1, if_pos (idx hu).1, (idx hu).2.2, Option.bind_some, (idx hx).2.2, W, Option.bind_some, ← eP, ← eL, ← eS]
  by_cases g : (sy h).S k ≤ (t : Int)
  ·rw [if_pos g, if_neg (by omega), wrapB (x := (t : Int) - (sy h).S k) (by omega) (by omega), Int.tmod_eq_emod_of_nonneg (by omega)]
   by_cases g2 : ((t : Int) - (sy h).S k) % (sy h).P k = 0
   ·have w1 : Wv h c t (k + 1) (v.set k (q h c k t + (sy h).L k)) := by
     refine ⟨by rw [List.length_set]; exact hv.1, fun j hj => ?_⟩
     rcases Nat.lt_trichotomy j k with g1 | g1 | g1
     ·rw [List.getElem?_set_ne (by omega), hv.2 j hj, if_pos g1, if_pos (by omega)]
     ·subst g1
      rw [List.getElem?_set_self (by rw [hv.1]; omega), if_pos (by omega), sent1 ⟨g, g2⟩]
     ·rw [List.getElem?_set_ne (by omega), hv.2 j hj, if_neg (by omega), if_neg (by omega)]
    have w2 : (v.set k (q h c k t + (sy h).L k))[0 + ((k : Int)).toNat]? = some (q h c k t + (sy h).L k) := by
     rw [show 0 + ((k : Int)).toNat = k by omega, List.getElem?_set_self (by rw [hv.1]; omega)]
    rw [if_pos g2, if_pos (by rw [hv.1]; omega), (idx hvk).2.2, Option.bind_some, Option.bind_some, wrapB (x := q h c k t + (sy h).L k) (by omega) (by omega), show 0 + ((k : Int)).toNat = k by omega] 
    rw [show 0 + ((k : Int)).toNat = k by omega] at w2
    by_cases g1 : b = true
    ·rw [if_pos g1, w2, Option.bind_some]
     by_cases g3 : q h c k t + (sy h).L k = 0
     ·rw [if_pos g3]; exact go _ true w1 ⟨fun _ => ⟨g1, by rw [sent1 ⟨g, g2⟩]; exact g3⟩, fun _ => rfl⟩
     ·rw [if_neg g3]; exact go _ false w1 ⟨(fun e => by cases e), fun e => absurd (by rw [← sent1 ⟨g, g2⟩]; exact e.2) g3⟩
    ·rw [if_neg g1]; exact go _ false w1 ⟨(fun e => by cases e), fun e => absurd e.1 g1⟩
   ·rw [if_neg g2]
    exact fin0 fun e => g2 e.2
  ·rw [if_neg g]
   exact fin0 fun e => g e.1
theorem n_loop3 {fu : Nat} (hf : 1000 ≤ fu) {N : Nat} (hN : N ≤ 400) {o : List Int} {C : Nat → Int} {R' : Nat × Int → Int} (hrun : Run (sy h) false N o C R') : ∀ (m t n : Nat) (v : List Int) (c : Nat → Int) (R : Nat × Int → Int), t + m = N → m < n → Run (sy h) false t (o.take t) c R → Wv h c t 0 v → l7_BusNeverLate_L3 fu l s (N : Int) o n v (t : Int) = some (.inr ())
 | _, _, 0, _, _, _, _, hn, _, _ => absurd hn (by omega)
 | 0, t, n + 1, v, c, R, ht, _, _, _ => by rw [l7_BusNeverLate_L3, if_neg (by omega)]
 | m + 1, t, n + 1, v, c, R, ht, hn, hr, hv => by
  have inv := run_inv (sy h) hr
  have few := h.few
  have ol := (run_inv (sy h) hrun).1
  have hc : ∀ i, i < l.length → 0 ≤ c i ∧ c i ≤ 400 := fun i hi => ⟨(inv.2.1 i hi).1, by have := (inv.2.1 i hi).2; omega⟩
  have W : IntKind.wrap .i64 ((t : Int) + 1) = ((t + 1 : Nat) : Int) := wrapS (by omega)
  obtain ⟨v', b', E, w1, w2⟩ := n_loop2 h (fu := fu) (N : Int) o (t := t) (by omega) hc l.length 0 fu v true (by omega) (by omega) hv ⟨fun _ j hj => absurd hj (by omega), fun _ => rfl⟩
  have E' : l7_BusNeverLate_L2 fu l s (N : Int) o (t : Int) fu v true (0 : Int) = some (o, v', b') := E
  obtain ⟨c2, R2, r2, st⟩ := run_at hrun t (by omega)
  obtain ⟨_, ec, eR⟩ := run_det (sy h) hr r2
  subst ec
  rw [l7_BusNeverLate_L3, if_pos (by omega), E', Option.bind_some]
  have wq : ∀ j, j < l.length → v'[j]? = some (q h c2 j (t + 1)) := fun j hj => by
   have := w1.2 j hj
   rw [if_pos hj] at this
   exact this
  rcases st with ⟨ho, hi⟩ | ⟨k, ho, ch⟩
  ·have hr2 := Run.idle hr hi
   have tk : o.take (t + 1) = o.take t ++ [-1] := by rw [List.take_succ, ho]; rfl
   have bt : b' = true := w2.2 fun j hj => by
    have a1 := all_sent (sy h) hr2 (show j < (sy h).n from hj)
    have a2 := not_sent (sy h) (show j < (sy h).n from hj) (hc j hj).1 (hi j hj)
    unfold q
    omega
   have a := idx ho
   rw [if_pos (show (o, v', b').2.2 = true from bt), if_pos a.2.1, if_pos (show (t : Int) < (((o, v', b').1.length : Nat) : Int) from a.1)]
   show (Option.bind (o[0 + ((t : Int)).toNat]?) fun e6 => if e6 = (-1 : Int) then (l7_BusNeverLate_L3 fu l s (N : Int) o n v' (IntKind.wrap .i64 ((t : Int) + (1 : Int)))) else (some (.inl ()))) = _
   rw [a.2.2, Option.bind_some, if_pos rfl, W]
   refine n_loop3 hf hN hrun m (t + 1) n v' c2 R (by omega) (by omega) (by rw [tk]; exact hr2) ⟨w1.1, fun j hj => ?_⟩
   rw [wq j hj, if_neg (by omega)]
  ·have hr2 := Run.one hr ch
   have tk : o.take (t + 1) = o.take t ++ [(k : Int)] := by rw [List.take_succ, ho]; rfl
   have hkl : k < l.length := ch.1
   have bd := sy_bounds h hkl
   have hck := hc k hkl
   have nb1 := nb_bound h hkl (show t + 1 ≤ 401 by omega)
   have qk : 0 < q h c2 k (t + 1) := by
    have g := nb_ge (sy h) (show k < (sy h).n from hkl) ((t + 1 : Nat) : Int)
    have sn := ch.2.1
    unfold sent at sn
    have d := Int.ediv_mul_add_emod (c2 k) ((sy h).L k)
    have m1 := Int.emod_lt_of_pos (c2 k) (show 0 < (sy h).L k by omega)
    have lt : c2 k / (sy h).L k < nb (sy h) k ((t + 1 : Nat) : Int) := by
     rcases Int.lt_or_le (c2 k / (sy h).L k) (nb (sy h) k ((t + 1 : Nat) : Int)) with z | z
     ·exact z
     ·have := Int.mul_le_mul_of_nonneg_right z (show 0 ≤ (sy h).P k by omega)
      omega
    have := Int.mul_le_mul_of_nonneg_right (show c2 k / (sy h).L k + 1 ≤ nb (sy h) k ((t + 1 : Nat) : Int) by omega) (show 0 ≤ (sy h).L k by omega)
    rw [Int.add_mul] at this
    unfold q
    omega
   have qu : q h c2 k (t + 1) ≤ 8020 := by unfold q; omega
   have bf : ¬b' = true := fun e => by have := w2.1 e k hkl; omega
   have a := idx ho
   have ak := idx (wq k hkl)
   rw [if_neg (show ¬(o, v', b').2.2 = true from bf), if_pos a.2.1, if_pos (show (t : Int) < (((o, v', b').1.length : Nat) : Int) from a.1)]
   show (Option.bind (o[0 + ((t : Int)).toNat]?) fun e10 => if e10 = (-1 : Int) then (some (.inl ())) else (Option.bind (b_Within_2 e10 (0 : Int) (IntKind.wrap .i64 ((l.length : Int) - (1 : Int)))) fun r12 => if r12 = true then (if (0 : Int) ≤ e10 then (if e10 < (v'.length : Int) then (Option.bind (v'[0 + (e10).toNat]?) fun e16 => if e16 = (0 : Int) then (some (.inl ())) else (Option.bind (v'[0 + (e10).toNat]?) fun e18 => l7_BusNeverLate_L3 fu l s (N : Int) o n (v'.set (0 + (e10).toNat) (IntKind.wrap .i64 (e16 - (1 : Int)))) (IntKind.wrap .i64 ((t : Int) + (1 : Int))))) else none) else none) else (some (.inl ())))) = _
   rw [a.2.2, Option.bind_some, if_neg (by omega), w_within, Option.bind_some, wrapB (x := (l.length : Int) - 1) (by omega) (by omega), if_pos (decide_eq_true (by omega)), if_pos ak.2.1, if_pos ak.1, ak.2.2, Option.bind_some, if_neg (by omega), Option.bind_some, wrapB (x := q h c2 k (t + 1) - 1) (by omega) (by omega), W, show 0 + ((k : Int)).toNat = k by omega]
   refine n_loop3 hf hN hrun m (t + 1) n _ (up c2 k) _ (by omega) (by omega) (by rw [tk]; exact hr2) ⟨by rw [List.length_set]; exact w1.1, fun j hj => ?_⟩
   rw [if_neg (by omega)]
   by_cases g : j = k
   ·subst g
    rw [List.getElem?_set_self (by rw [w1.1]; exact hj)]
    refine congrArg some ?_
    unfold q up
    rw [if_pos rfl]; omega
   ·rw [List.getElem?_set_ne (by omega), wq j hj]
    refine congrArg some ?_
    unfold q up
    rw [if_neg g]
end
theorem tail_eq {fu : Nat} (hf : 20000 ≤ fu) {l more : List Str} (hl : l.length ≤ 6) (hml : more.length = l.length) {i : Nat} (hi : i < l.length) (hm : ∀ z, 0 ≤ z → demF l i z ≤ demF more i z) {r : Int} (hr : IsR l i r) (X : Option (Unit ⊕ List Int)) :
  (Option.bind (r7_StreamsErr fu more) fun r22 => if r22 = (0 : Int) then (Option.bind (r7_CopyStreams more) fun r24 => Option.bind (bus_ResponseOf fu r24 (i : Int)) fun r25 => if r25.2 = (0 : Int) then (if r25.1 < r then (some (.inl ())) else X) else (if r25.2 = (12 : Int) then X else (some (.inl ())))) else X) = X := by
 rw [x_refStreams fu (by omega) more (by omega), Option.bind_some]
 by_cases g : stE more = 0
 ·have c1 : r7_CopyStreams more = some more := by unfold r7_CopyStreams; rw [if_pos (by omega)]
  rw [if_pos g, c1, Option.bind_some]
  rcases r_of hf g (i := i) (by omega) with ⟨x, E, a⟩ | ⟨E, a⟩
  ·rw [E, Option.bind_some, if_pos rfl]
   refine if_neg fun q => ?_
   have q : x < r := q
   have h1 := hr.least x a.pos q
   have h2 := hm x (by have := a.pos; omega)
   have := a.fix
   omega
  ·rw [E, Option.bind_some, if_neg (show ¬(((0 : Int), (12 : Int)).2 = (0 : Int)) by simp), if_pos rfl]
 ·rw [if_neg g]
theorem law_loop1 {fu : Nat} (hf : 20000 ≤ fu) {l more : List Str} {s worst together late carried : List Int} {N : Int} (h0 : stE l = 0) (hlt : LateK l l.length late)
  (hW : ∀ i, i < l.length → ∃ w, worst[i]? = some w ∧ ∀ r, IsR l i r → r ≤ (gs l i).2.2.1 → w ≤ r)
  (hT : ∀ i, i < l.length → ∃ w, together[i]? = some w ∧ ∀ r, IsR l i r → r ≤ (gs l i).2.2.1 → r ≤ N → w = r)
  (hml : more.length = l.length) (hm : ∀ i, i < l.length → ∀ z, 0 ≤ z → demF l i z ≤ demF more i z) :
  ∀ (m i n : Nat), i + m = l.length → m < n → l7_BusNeverLate_L1 fu l s N worst together late carried more n (i : Int) = some (.inr carried)
 | _, _, 0, _, hn => absurd hn (by omega)
 | 0, i, n + 1, hi, _ => by rw [l7_BusNeverLate_L1, if_neg (by omega)]
 | m + 1, i, n + 1, hi, hn => by
  have hil : i < l.length := by omega
  have hl : OkL l := stE_ok h0
  have few := hl.1
  obtain ⟨hx, g1, g2, g3⟩ := gs_ok hl hil
  have W : IntKind.wrap .i64 ((i : Int) + 1) = ((i + 1 : Nat) : Int) := wrapS (by omega)
  have c1 : r7_CopyStreams l = some l := by unfold r7_CopyStreams; rw [if_pos (by omega)]
  have ih := law_loop1 hf (s := s) (carried := carried) h0 hlt hW hT hml hm m (i + 1) n (by omega) (by omega)
  have hlen := hlt.len
  rw [l7_BusNeverLate_L1, if_pos (by omega), c1, Option.bind_some, W, has_eq (by omega) (by omega)]
  by_cases lt : (i : Int) ∈ late
  ·have no := (hlt.yes i lt).2
   rcases r_of hf h0 hil with ⟨r, E, a⟩ | ⟨E, a⟩
   ·rw [E, Option.bind_some, Option.bind_some, if_pos (decide_eq_true lt), if_pos rfl, if_pos (idx hx).2.1, (idx hx).2.2, Option.bind_some, if_neg (fun q => ?_), ih]
    have q : r ≤ (gs l i).2.2.1 := q
    have := no r a.pos q
    have := a.fix
    omega
   ·rw [E, Option.bind_some, Option.bind_some, if_pos (decide_eq_true lt), if_neg (show ¬(((0 : Int), (12 : Int)).2 = (0 : Int)) by simp), ih]
  ·obtain ⟨r0, a0, b0⟩ := hlt.no i hil lt
   rcases r_of hf h0 hil with ⟨r, E, a⟩ | ⟨E, a⟩
   ·have er := isR_one a a0
    subst er
    have sm : 0 ≤ sumTo i (addF l r) := by
     have : sumTo i (fun _ => (0 : Int)) ≤ sumTo i (addF l r) := sumTo_le fun j hj => (addF_bound hl (by omega) a.pos (by omega)).1
     rw [sumTo_zero fun _ _ => rfl] at this
     exact this
    have Lr : (gs l i).2.2.2 ≤ r := by have := a.fix; unfold demF at this; omega
    obtain ⟨w, ew, fw⟩ := hW i hil
    obtain ⟨z, ez, fz⟩ := hT i hil
    have wr := fw r a b0
    rw [E, Option.bind_some, Option.bind_some, if_neg (by simp [lt]), if_pos rfl, if_pos (idx hx).2.1, (idx hx).2.2, Option.bind_some, w_within, Option.bind_some, if_pos (decide_eq_true ⟨Lr, b0⟩), if_pos (idx ew).1, (idx ew).2.2, Option.bind_some, if_neg (show ¬r < w by omega)]
    by_cases g : r ≤ N
    ·rw [if_pos (show (r, (0 : Int)).1 ≤ N from g), if_pos (idx ez).1, (idx ez).2.2, Option.bind_some, if_pos (show z = r from fz r a b0 g)]
     exact (tail_eq hf few hml hil (hm i hil) a _).trans ih
    ·rw [if_neg (show ¬(r, (0 : Int)).1 ≤ N from g)]
     exact (tail_eq hf few hml hil (hm i hil) a _).trans ih
   ·have := a r0 a0.pos (by omega)
    have := a0.fix
    omega
end Bs
end Go.Proofs.YthffbfkcmbgghaaGreat

namespace Go.Proofs.YthffbfkcmbgghaaGreat
open Go Go.RowKit
set_option maxHeartbeats 2000000
namespace Bs
theorem worst_of {fu : Nat} (hf : 20000 ≤ fu) {l : List Str} {s : List Int} (hl : l.length < 50) (hs : s.length < 900) {N : Nat} (hN : N ≤ 400) (h1 : stE l = 0) (h2 : stT l s N = 0) : ∃ (h : OkS l s) (o : List Int) (c : Nat → Int) (R : Nat × Int → Int) (v : List Int), bus_WorstFrom fu l s (N : Int) = some (v, 0) ∧ Run (sy h) false N o c R ∧ Wl (sy h) N R v := by
 rcases p_traffic (fu := fu) (by omega) hl hs (N : Int) with ⟨g, _⟩ | ⟨_, g, _⟩ | ⟨h, _, _, e⟩
 ·exact absurd h1 g
 ·exact absurd h2 g
 ·have w0 : Wl (sy h) 0 (fun _ => 0) (List.replicate ((l.length : Int)).toNat (0 : Int)) := ⟨by simp; rfl, fun i w hw => by
   have : w = 0 := List.eq_of_mem_replicate (List.mem_of_getElem? hw)
   subst this
   exact ⟨Int.le_refl _, fun _ _ => Int.le_refl _, .inl rfl⟩⟩
  obtain ⟨p3, u3, d3, S3, f3, q3, x3⟩ := p_frames3 h (fu := fu) (by omega) (nmL l) hN N 0 fu [] _ (fun _ => 0) (fun _ => 0) (by omega) (by omega) .zero w0
  have f3' : bus_traffic_frames_1_3_L1 fu (N : Int) fu (List.replicate ((l.length : Int)).toNat (0 : Int)) (snds (sy h) (nmL l) fun _ => 0) (0 : Int) = _ := f3
  refine ⟨h, p3, d3, S3, u3, ?_, q3, x3⟩
  unfold bus_WorstFrom bus_traffic_frames_1_3
  rw [e, Option.bind_some, if_pos rfl, if_pos (by omega), if_pos (by omega), f3']; rfl
theorem carried_of {fu : Nat} (hf : 20000 ≤ fu) {l : List Str} {s : List Int} (hl : l.length < 50) (hs : s.length < 900) {N : Nat} (hN : N ≤ 400) (h1 : stE l = 0) (h2 : stT l s N = 0) : ∃ (h : OkS l s) (o : List Int) (c : Nat → Int) (R : Nat × Int → Int), bus_CarriedBy fu l s (N : Int) = some (o, 0) ∧ Run (sy h) false N o c R := by
 rcases p_traffic (fu := fu) (by omega) hl hs (N : Int) with ⟨g, _⟩ | ⟨_, g, _⟩ | ⟨h, _, _, e⟩
 ·exact absurd h1 g
 ·exact absurd h2 g
 ·obtain ⟨p1, d1, S1, f1, q1⟩ := p_frames h (fu := fu) (by omega) (nmL l) hN N 0 fu [] (fun _ => 0) (fun _ => 0) (by omega) (by omega) .zero
  have f1' : bus_traffic_frames_1_L1 fu (N : Int) fu [] (snds (sy h) (nmL l) fun _ => 0) (0 : Int) = _ := f1
  refine ⟨h, p1, d1, S1, ?_, q1⟩
  unfold bus_CarriedBy bus_traffic_frames_1
  rw [e, Option.bind_some, if_pos rfl, f1']; rfl
theorem mod_of (x : Int) {n : Nat} (h1 : 1 ≤ n) (h2 : n ≤ 6) : ∃ k : Nat, b_Mod x (n : Int) = some (k : Int) ∧ k < n := by
 have a := Int.tmod_lt_of_pos x (show (0 : Int) < n by omega)
 have b := Int.lt_tmod_of_pos x (show (0 : Int) < n by omega)
 unfold b_Mod
 rw [if_neg (by omega)]
 by_cases g : Int.tmod x n < 0
 ·rw [if_pos g, wrapB (by omega) (by omega)]
  exact ⟨(Int.tmod x n + n).toNat, by rw [Int.toNat_of_nonneg (by omega)], by omega⟩
 ·rw [if_neg g]
  exact ⟨(Int.tmod x n).toNat, by rw [Int.toNat_of_nonneg (by omega)], by omega⟩
theorem more_le {l m : List Str} {z : Int} (hz : 0 ≤ z) {i : Nat} (hp : ∀ j, j ≤ i → 0 < (gs l j).2.1) (h : ∀ j, j ≤ i → (gs l j).2.2.2 ≤ (gs m j).2.2.2 ∧ (gs m j).2.1 = (gs l j).2.1) : demF l i z ≤ demF m i z := by
 have : sumTo i (addF l z) ≤ sumTo i (addF m z) := sumTo_le fun j hj => by
  obtain ⟨h1, h2⟩ := h j (by omega)
  unfold addF
  rw [h2]
  exact Int.mul_le_mul_of_nonneg_right h1 (cei_nn (hp j (by omega)) hz)
 have := (h i (Nat.le_refl _)).1
 unfold demF; omega
theorem law_true {fu : Nat} (hf : 20000 ≤ fu) (l : List Str) (s : List Int) (T X : Int) : l7_BusNeverLate fu l s T X = some true := by
 obtain ⟨b, E, hb⟩ := few_any fu (by omega) l
 unfold l7_BusNeverLate
 rw [show l7_awake = some true from rfl, Option.bind_some, if_pos rfl, E, Option.bind_some]
 cases b with
 | false => rw [if_neg (by simp)]
 | true =>
  have hl8 := hb rfl
  rw [if_pos rfl, x_refStreams fu (by omega) l (by omega), Option.bind_some]
  by_cases h1 : stE l = 0
  ·rw [if_pos h1]
   by_cases hs : s.length = l.length
   ·rw [t_refStarts fu (by omega) l (by omega) T, Option.bind_some]
    by_cases h2 : stT l s T = 0
    ·rw [if_pos h2]
     by_cases g : 90 < T
     ·rw [if_pos g]
     ·rw [if_neg g]
      obtain ⟨ok, t0, _⟩ := ok_of h1 h2
      obtain ⟨N, rfl⟩ := Int.eq_ofNat_of_zero_le t0
      have hN : N ≤ 400 := by omega
      have hl : OkL l := stE_ok h1
      have n1 : 1 ≤ l.length := by
       rcases Nat.lt_or_ge l.length 1 with z | z
       ·exfalso; unfold stE at h1; rw [if_pos (by omega)] at h1; omega
       ·exact z
      have c1 : r7_CopyStreams l = some l := by unfold r7_CopyStreams; rw [if_pos (by omega)]
      have c2 : b_CopyInts s = some s := by unfold b_CopyInts; rw [if_pos (by omega)]
      have z2 : stT l (List.replicate l.length (0 : Int)) N = 0 := by
       unfold stT
       have z : (List.replicate l.length (0 : Int)).all rng = true := List.all_eq_true.2 fun x hx => by rw [List.eq_of_mem_replicate hx]; rfl
       have z' : rng (N : Int) = true := decide_eq_true (by omega)
       rw [if_pos List.length_replicate, z, z']; rfl
      obtain ⟨ha, oa, ca, Ra, va, ea, ra, wa⟩ := worst_of hf (by omega) (by omega) hN h1 h2
      obtain ⟨hz, oz, cz, Rz, vz, ez, rz, wz⟩ := worst_of hf (l := l) (s := List.replicate l.length (0 : Int)) (by omega) (by rw [List.length_replicate]; omega) hN h1 z2
      obtain ⟨late, el, lk⟩ := late_of hf h1
      obtain ⟨hc, oc, cc, Rc, ec, rc⟩ := carried_of hf (by omega) (by omega) hN h1 h2
      obtain ⟨k, ek, hk⟩ := mod_of X n1 hl.1
      have hx := List.getElem?_eq_getElem hk
      have ox := gs_ok hl hk
      have gx := gs_at hx
      have la : va.length = l.length := wa.1
      have lz : vz.length = l.length := wz.1
      have lc : oc.length = N := (run_inv (sy hc) rc).1
      rw [c1, Option.bind_some, c2, Option.bind_some, ea, Option.bind_some, Option.bind_some, if_pos (by omega), if_pos (by omega), Int.toNat_natCast, ez, Option.bind_some, Option.bind_some, el, Option.bind_some, Option.bind_some, Option.bind_some, ec, Option.bind_some, if_pos rfl, if_pos rfl, if_pos rfl, if_pos rfl, if_pos (show ((va.length : Nat) : Int) = _ by rw [la]), if_pos (show ((vz.length : Nat) : Int) = _ by rw [lz]), if_pos (show ((oc.length : Nat) : Int) = _ by rw [lc]), Option.bind_some, ek, Option.bind_some, if_pos (idx hx).2.1, if_pos (idx hx).1, (idx hx).2.2, Option.bind_some, Option.bind_some, show 0 + ((k : Int)).toNat = k by omega, ← gx, wrapB (x := (gs l k).2.2.2 + 1) (by omega) (by omega)]
      have hml : (l.set k ((gs l k).1, (gs l k).2.1, (gs l k).2.2.1, (gs l k).2.2.2 + 1)).length = l.length := List.length_set
      have hm : ∀ i, i < l.length → ∀ z, 0 ≤ z → demF l i z ≤ demF (l.set k ((gs l k).1, (gs l k).2.1, (gs l k).2.2.1, (gs l k).2.2.2 + 1)) i z := fun i hi z hz => more_le hz (fun j hj => by have := gs_ok hl (show j < l.length by omega); omega) fun j hj => by
       by_cases e : j = k
       ·subst e
        have : gs (l.set j ((gs l j).1, (gs l j).2.1, (gs l j).2.2.1, (gs l j).2.2.2 + 1)) j = ((gs l j).1, (gs l j).2.1, (gs l j).2.2.1, (gs l j).2.2.2 + 1) := gs_at (List.getElem?_set_self hk)
        rw [this]
        exact ⟨by show (gs l j).2.2.2 ≤ (gs l j).2.2.2 + 1; omega, rfl⟩
       ·have : gs (l.set k ((gs l k).1, (gs l k).2.1, (gs l k).2.2.1, (gs l k).2.2.2 + 1)) j = gs l j := by unfold gs; rw [List.getElem?_set_ne (by omega)]
        rw [this]
        exact ⟨Int.le_refl _, rfl⟩
      have up : ∀ {s' : List Int} (h : OkS l s') {o : List Int} {c : Nat → Int} {R : Nat × Int → Int} {v : List Int}, Run (sy h) false N o c R → Wl (sy h) N R v → ∀ i, i < l.length → ∃ w, v[i]? = some w ∧ IsW (sy h) N R i w ∧ ∀ r, IsR l i r → r ≤ (gs l i).2.2.1 → w ≤ r := fun {s'} h {o c R v} hr hw i hi => by
       have hvl : v.length = l.length := hw.1
       have e := List.getElem?_eq_getElem (show i < v.length by omega)
       refine ⟨_, e, hw.2 i _ e, fun r a d => ?_⟩
       have inv := never_late (sy h) hr (i := i) hi (r := r) (by have := a.pos; omega) (by have := gs_ok hl hi; show r ≤ (gs l i).2.1; omega) (by show demF l i r ≤ r; rw [a.fix]; omega)
       rcases (hw.2 i _ e).2.2 with z | ⟨u, _, z⟩
       ·rw [z]; have := a.pos; omega
       ·rw [← z]; exact inv.1 u
      have hW : ∀ i, i < l.length → ∃ w, va[i]? = some w ∧ ∀ r, IsR l i r → r ≤ (gs l i).2.2.1 → w ≤ r := fun i hi => by
       obtain ⟨w, e, _, f⟩ := up ha ra wa i hi
       exact ⟨w, e, f⟩
      have hT : ∀ i, i < l.length → ∃ w, vz[i]? = some w ∧ ∀ r, IsR l i r → r ≤ (gs l i).2.2.1 → r ≤ (N : Int) → w = r := fun i hi => by
       obtain ⟨w, e, iw, f⟩ := up hz rz wz i hi
       refine ⟨w, e, fun r a d rN => ?_⟩
       have hS : ∀ j, j < (sy hz).n → (sy hz).S j = 0 := fun j hj => by
        show (List.replicate l.length (0 : Int))[j]?.getD 0 = 0
        rw [List.getElem?_replicate]
        split <;> rfl
       have hp := a.pos
       have inv := never_late (sy hz) rz (i := i) hi (r := r) (by omega) (by have := gs_ok hl hi; show r ≤ (gs l i).2.1; omega) (by show demF l i r ≤ r; rw [a.fix]; omega)
       obtain ⟨_, u, hu0, hut, hur, hus, _⟩ := inv
       have hL : (sy hz).L i ≤ cz i := by
        rcases Int.lt_or_le (cz i) ((sy hz).L i) with z | z
        ·exfalso
         have c0 := ((run_inv (sy hz) rz).2.1 i hi).1
         have s0 : sent (sy hz) cz i = 0 := by
          unfold sent
          rw [hS i hi, Int.ediv_eq_zero_of_lt c0 z]; omega
         have := hus (by rw [s0]; omega)
         omega
        ·exact z
       have tl := (together_least (sy hz) rz hS (i := i) hi (r := r) a.least).2 hL
       have mk : (i, (0 : Int)) ∈ keys (sy hz) N := (mem_keys (sy hz) N).2 ⟨hi, by omega, by rw [hS i hi]; omega, by rw [hS i hi]; simp⟩
       have := iw.2.1 0 mk
       have := f r a d
       omega
      have G1 : l7_BusNeverLate_L1 fu l s (N : Int) va vz late oc (l.set k ((gs l k).1, (gs l k).2.1, (gs l k).2.2.1, (gs l k).2.2.2 + 1)) fu (0 : Int) = some (.inr oc) := law_loop1 hf h1 lk hW hT hml hm l.length 0 fu (by omega) (by omega)
      have G3 : l7_BusNeverLate_L3 fu l s (N : Int) oc fu (List.replicate l.length (0 : Int)) (0 : Int) = some (.inr ()) := n_loop3 hc (by omega) hN rc N 0 fu _ (fun _ => 0) (fun _ => 0) (by omega) (by omega) (by rw [List.take_zero]; exact .zero) ⟨List.length_replicate, fun j hj => by
       rw [List.getElem?_replicate, if_pos hj, if_neg (by omega)]
       refine congrArg some ?_
       have h3 := nb_le (sy hc) (show j < (sy hc).n from hj) (t := 0) (k := 0) (by omega) (by have := (sy hc).hS j hj; omega)
       have h4 := nb_nn (sy hc) j 0
       have h5 : nb (sy hc) j ((0 : Nat) : Int) = 0 := by show nb (sy hc) j 0 = 0; omega
       unfold q
       rw [h5]
       show (0 : Int) = 0 * (sy hc).L j - 0
       rw [Int.zero_mul]; rfl⟩
      rw [G1, Option.bind_some]
      show (if (0 : Int) ≤ (l.length : Int) then (if (l.length : Int) < (65536 : Int) then (Option.bind (l7_BusNeverLate_L3 fu l s (N : Int) oc fu (List.replicate l.length (0 : Int)) (0 : Int)) fun o40 => (match o40 with | .inl y41 => none | .inr y42 => (some true))) else none) else none) = some true
      rw [if_pos (by omega), if_pos (by omega), G3]
      rfl
    ·rw [if_neg h2]
   ·have : r7_StartsErr fu l s T = some 10 := by unfold r7_StartsErr; rw [if_neg (by omega)]
    rw [this, Option.bind_some, if_neg (by omega)]
  ·rw [if_neg h1]
end Bs
theorem l7_BusNeverLate_true (a0 : List (Int × Int × Int × Int)) (a1 : List Int) (a2_0 a2_1 : Int) : ∃ fu, l7_BusNeverLate fu a0 a1 a2_0 a2_1 = some true := ⟨20000, Bs.law_true (Nat.le_refl _) a0 a1 a2_0 a2_1⟩
end Go.Proofs.YthffbfkcmbgghaaGreat
