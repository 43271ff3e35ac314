/-
  Chapter 7: messages of streams that wait, and which of them is carried: what is left of each is told by how many frames of its stream were carried.
-/
import Derived.Test.YthffbfkcmbgghaaGreatZEd
set_option linter.all false
namespace Go.Proofs.YthffbfkcmbgghaaGreat
open Go
set_option maxHeartbeats 1000000
namespace Bs
structure Sy where
 n : Nat
 P : Nat → Int
 D : Nat → Int
 L : Nat → Int
 S : Nat → Int
 hP : ∀ i, i < n → 0 < P i
 hL : ∀ i, i < n → 0 < L i
 hS : ∀ i, i < n → 0 ≤ S i
variable (y : Sy)
def sends (t : Nat) (i : Nat) : Bool := decide (y.S i ≤ (t : Int)) && decide (((t : Int) - y.S i) % y.P i = 0)
def new (t : Nat) : List (Nat × Int) := ((List.range y.n).filter (sends y t)).map fun i => (i, (t : Int))
def keys : Nat → List (Nat × Int)
 | 0 => []
 | t + 1 => keys t ++ new y t
theorem mem_new {t i : Nat} {s : Int} : (i, s) ∈ new y t ↔ i < y.n ∧ s = t ∧ y.S i ≤ s ∧ (s - y.S i) % y.P i = 0 := by
 simp only [new, List.mem_map, List.mem_filter, List.mem_range, sends, Bool.and_eq_true, decide_eq_true_eq]
 constructor
 ·rintro ⟨j, ⟨h1, h2, h3⟩, h4⟩
  injection h4 with h4 h5; subst h4; subst h5
  exact ⟨h1, rfl, h2, h3⟩
 ·rintro ⟨h1, h2, h3, h4⟩
  subst h2
  exact ⟨i, ⟨h1, h3, h4⟩, rfl⟩
theorem mem_keys {i : Nat} {s : Int} : ∀ t : Nat, (i, s) ∈ keys y t ↔ i < y.n ∧ s < t ∧ y.S i ≤ s ∧ (s - y.S i) % y.P i = 0
 | 0 => by
  simp only [keys, List.not_mem_nil, false_iff]
  rintro ⟨h1, h2, h3, _⟩
  have := y.hS i h1
  omega
 | t + 1 => by
  rw [keys, List.mem_append, mem_keys t, mem_new]
  constructor
  ·rintro (⟨h1, h2, h3⟩ | ⟨h1, h2, h3⟩)
   ·exact ⟨h1, by omega, h3⟩
   ·exact ⟨h1, by omega, h3⟩
  ·rintro ⟨h1, h2, h3⟩
   by_cases h : s = (t : Int)
   ·exact .inr ⟨h1, h, h3⟩
   ·exact .inl ⟨h1, by omega, h3⟩
variable (c : Nat → Int)
def sent (i : Nat) : Int := y.S i + c i / y.L i * y.P i
def left (i : Nat) (s : Int) : Int := max 0 (min (y.L i) (((s - y.S i) / y.P i + 1) * y.L i - c i))
theorem sent_div {i : Nat} {s : Int} {t : Nat} (h : (i, s) ∈ keys y t) : ∃ k : Int, 0 ≤ k ∧ s = y.S i + k * y.P i ∧ (s - y.S i) / y.P i = k := by
 obtain ⟨h1, h2, h3, h4⟩ := (mem_keys y t).1 h
 have hp := y.hP i h1
 refine ⟨(s - y.S i) / y.P i, Int.ediv_nonneg (by omega) (by omega), ?_, rfl⟩
 have := Int.ediv_mul_add_emod (s - y.S i) (y.P i)
 omega
theorem left_pos {i : Nat} {s : Int} {t : Nat} (h : (i, s) ∈ keys y t) : 0 < left y c i s ↔ sent y c i ≤ s := by
 obtain ⟨k, hk, hs, hd⟩ := sent_div y h
 have hi := ((mem_keys y t).1 h).1
 have hp := y.hP i hi
 have hl := y.hL i hi
 have e1 : c i / y.L i < k + 1 ↔ c i < (k + 1) * y.L i := Int.ediv_lt_iff_lt_mul hl
 have e2 : sent y c i ≤ s ↔ c i / y.L i ≤ k := by
  rw [sent, hs]
  constructor
  ·intro h
   exact Int.le_of_mul_le_mul_right (by omega) hp
  ·intro h
   have := Int.mul_le_mul_of_nonneg_right h (Int.le_of_lt hp)
   omega
 rw [e2, left, hd]
 omega
theorem sent_mem {i : Nat} (hi : i < y.n) (hc : 0 ≤ c i) {t : Nat} (h : sent y c i < t) : (i, sent y c i) ∈ keys y t := by
 have hp := y.hP i hi
 have hl := y.hL i hi
 have h0 : 0 ≤ c i / y.L i := Int.ediv_nonneg hc (by omega)
 have h1 : 0 ≤ c i / y.L i * y.P i := Int.mul_nonneg h0 (by omega)
 refine (mem_keys y t).2 ⟨hi, h, by unfold sent; omega, ?_⟩
 rw [sent, show y.S i + c i / y.L i * y.P i - y.S i = c i / y.L i * y.P i by omega]
 exact Int.mul_emod_left _ _
def up (i : Nat) : Nat → Int := fun j => if j = i then c i + 1 else c j
def bf (early : Bool) (a b : Nat × Int) : Prop :=
 if early = true ∧ a.2 + y.D a.1 ≠ b.2 + y.D b.1 then a.2 + y.D a.1 < b.2 + y.D b.1
 else if a.1 ≠ b.1 then a.1 < b.1 else a.2 < b.2
instance (early : Bool) (a b : Nat × Int) : Decidable (bf y early a b) := by unfold bf; infer_instance
theorem bf_asymm {e : Bool} {a b : Nat × Int} (h : bf y e a b) : ¬bf y e b a := by
 obtain ⟨a1, a2⟩ := a; obtain ⟨b1, b2⟩ := b
 unfold bf at *
 cases e <;> simp only [Bool.false_eq_true, false_and, if_false, true_and] at * <;> (split at h <;> split <;> (try split at h) <;> (try split) <;> first | omega | (subst_vars; omega) | (simp_all; done) | (intro; simp_all; omega))
theorem bf_trans {e : Bool} {a b d : Nat × Int} (h : bf y e a b) (h' : bf y e b d) : bf y e a d := by
 obtain ⟨a1, a2⟩ := a; obtain ⟨b1, b2⟩ := b; obtain ⟨d1, d2⟩ := d
 unfold bf at *
 cases e <;> simp only [Bool.false_eq_true, false_and, if_false, true_and, ne_eq] at * <;> (split at h <;> split at h' <;> split <;> (try split at h) <;> (try split at h') <;> (try split) <;> first | omega | (subst_vars; omega) | (simp_all; done))
def Least (e : Bool) (t : Nat) (a : Nat × Int) : Prop :=
 a ∈ keys y t ∧ 0 < left y c a.1 a.2 ∧ ∀ b ∈ keys y t, 0 < left y c b.1 b.2 → b = a ∨ bf y e a b
def Chosen (e : Bool) (t : Nat) (i : Nat) : Prop :=
 i < y.n ∧ sent y c i < t ∧ ∀ j, j < y.n → sent y c j < t → j = i ∨ bf y e (i, sent y c i) (j, sent y c j)
theorem least_unique {e : Bool} {t : Nat} {a b : Nat × Int} (h : Least y c e t a) (h' : Least y c e t b) : a = b := by
 rcases h.2.2 b h'.1 h'.2.1 with h1 | h1
 ·exact h1.symm
 rcases h'.2.2 a h.1 h.2.1 with h2 | h2
 ·exact h2
 exact absurd h2 (bf_asymm y h1)
theorem bf_same {e : Bool} {i : Nat} {s s' : Int} : bf y e (i, s) (i, s') ↔ s < s' := by
 unfold bf
 cases e <;> simp <;> omega
theorem chosen_least {e : Bool} {t i : Nat} (hc : ∀ j, j < y.n → 0 ≤ c j) (h : Chosen y c e t i) : Least y c e t (i, sent y c i) := by
 obtain ⟨h1, h2, h3⟩ := h
 have m := sent_mem y c h1 (hc i h1) h2
 refine ⟨m, (left_pos y c m).2 (Int.le_refl _), ?_⟩
 rintro ⟨j, s⟩ hb hl
 have hj := ((mem_keys y t).1 hb)
 have hle := (left_pos y c hb).1 hl
 have hjs : sent y c j < t := by omega
 have g : (j, s) = (j, sent y c j) ∨ bf y e (j, sent y c j) (j, s) := by
  by_cases hq : s = sent y c j
  ·exact .inl (by rw [hq])
  ·exact .inr ((bf_same y).2 (by omega))
 rcases h3 j hj.1 hjs with h4 | h4
 ·subst h4
  exact g
 ·rcases g with g | g
  ·rw [g]; exact .inr h4
  ·exact .inr (bf_trans y h4 g)
end Bs
end Go.Proofs.YthffbfkcmbgghaaGreat

namespace Go.Proofs.YthffbfkcmbgghaaGreat
open Go
set_option maxHeartbeats 1000000
namespace Bs
variable (y : Sy)
def done (c : Nat → Int) (R : Nat × Int → Int) (i : Nat) (t : Nat) : Int := if (c i + 1) % y.L i = 0 then (t : Int) - sent y c i + 1 else R (i, sent y c i)
def putR (R : Nat × Int → Int) (a : Nat × Int) (v : Int) : Nat × Int → Int := fun b => if b = a then v else R b
inductive Run (e : Bool) : Nat → List Int → (Nat → Int) → (Nat × Int → Int) → Prop
 | zero : Run e 0 [] (fun _ => 0) (fun _ => 0)
 | idle {t o c R} : Run e t o c R → (∀ i, i < y.n → ¬sent y c i < ((t + 1 : Nat) : Int)) → Run e (t + 1) (o ++ [-1]) c R
 | one {t o c R i} : Run e t o c R → Chosen y c e (t + 1) i → Run e (t + 1) (o ++ [(i : Int)]) (up c i) (putR R (i, sent y c i) (done y c R i t))
theorem run_inv {e : Bool} {t : Nat} {o : List Int} {c : Nat → Int} {R : Nat × Int → Int} (h : Run y e t o c R) : o.length = t ∧ (∀ i, i < y.n → 0 ≤ c i ∧ c i ≤ t) ∧ (∀ i, i < y.n → ∀ k : Int, 0 ≤ k → (t : Int) ≤ y.S i + k * y.P i → c i ≤ k * y.L i) ∧ (∀ a, 0 ≤ R a) ∧ (∀ a : Nat × Int, (t : Int) ≤ a.2 → R a = 0) := by
 induction h with
 | zero => exact ⟨rfl, fun _ _ => ⟨Int.le_refl _, by simp⟩, fun i hi k hk _ => Int.mul_nonneg hk (Int.le_of_lt (y.hL i hi)), fun _ => Int.le_refl _, fun _ _ => rfl⟩
 | idle h hn ih =>
  obtain ⟨i1, i2, i3, i4, i5⟩ := ih
  exact ⟨by simp [i1], fun i hi => ⟨(i2 i hi).1, by have := (i2 i hi).2; omega⟩, fun i hi k hk hs => i3 i hi k hk (by omega), i4, fun a ha => i5 a (by omega)⟩
 | @one t o c R i h hn ih =>
  obtain ⟨i1, i2, i3, i4, i5⟩ := ih
  have hl := y.hL i hn.1
  have hp := y.hP i hn.1
  refine ⟨by simp [i1], fun j hj => ?_, fun j hj k hk hs => ?_, fun a => ?_, fun a ha => ?_⟩
  ·have := i2 j hj
   unfold up
   split <;> (subst_vars; omega)
  ·unfold up
   split
   ·rename_i hji
    rw [hji] at hs ⊢
    have h2 := hn.2.1
    rw [sent] at h2
    have h3 : c i / y.L i < k := by
     refine Int.lt_of_mul_lt_mul_right (a := y.P i) ?_ (Int.le_of_lt hp)
     omega
    have h4 := Int.mul_le_mul_of_nonneg_right (show c i / y.L i + 1 ≤ k by omega) (Int.le_of_lt hl)
    have e1 := Int.ediv_mul_add_emod (c i) (y.L i)
    have m2 := Int.emod_lt_of_pos (c i) hl
    rw [Int.add_mul] at h4
    omega
   ·exact i3 j hj k hk (by omega)
  ·unfold putR
   split
   ·have h2 := hn.2.1
    unfold done
    split
    ·omega
    ·exact i4 _
   ·exact i4 a
  ·have h2 := hn.2.1
   unfold putR
   rw [if_neg (fun h => by rw [h] at ha; simp only at ha; omega)]
   exact i5 a (by omega)
theorem chosen_one {c : Nat → Int} {e : Bool} {t i j : Nat} (hc : ∀ j, j < y.n → 0 ≤ c j) (h : Chosen y c e t i) (h' : Chosen y c e t j) : i = j := by
 have := least_unique y c (chosen_least y c hc h) (chosen_least y c hc h')
 injection this
theorem run_det {e : Bool} {t : Nat} {o : List Int} {c : Nat → Int} {R : Nat × Int → Int} (h : Run y e t o c R) : ∀ {o' c' R'}, Run y e t o' c' R' → o' = o ∧ c' = c ∧ R' = R := by
 induction h with
 | zero =>
  intro o' c' R' h'
  cases h'
  exact ⟨rfl, rfl, rfl⟩
 | @idle t o c R h hn ih =>
  intro o' c' R' h'
  cases h' with
  | idle g gn =>
   obtain ⟨rfl, rfl, rfl⟩ := ih g
   exact ⟨rfl, rfl, rfl⟩
  | one g gn =>
   obtain ⟨rfl, rfl, rfl⟩ := ih g
   exact absurd gn.2.1 (hn _ gn.1)
 | @one t o c R i h hn ih =>
  intro o' c' R' h'
  cases h' with
  | idle g gn =>
   obtain ⟨rfl, rfl, rfl⟩ := ih g
   exact absurd hn.2.1 (gn _ hn.1)
  | one g gn =>
   obtain ⟨rfl, rfl, rfl⟩ := ih g
   have := chosen_one y (fun j hj => ((run_inv y h).2.1 j hj).1) gn hn
   subst this
   exact ⟨rfl, rfl, rfl⟩
theorem map_put {α β : Type} {f g : α → β} {l : List α} (hl : l.Nodup) {j : Nat} {a : α} (ha : l[j]? = some a) {b : β} (hb : g a = b) (h : ∀ x ∈ l, x ≠ a → g x = f x) : (l.map f).set j b = l.map g := by
 apply List.ext_getElem?
 intro m
 rw [List.getElem?_set, List.getElem?_map, List.getElem?_map, List.length_map]
 have hj : j < l.length := (List.getElem?_eq_some_iff.1 ha).1
 by_cases hm : j = m
 ·subst hm
  rw [if_pos rfl, if_pos hj, ha, ← hb]
  rfl
 ·rw [if_neg hm]
  cases hx : l[m]? with
  | none => rfl
  | some x =>
   have hxm := List.mem_of_getElem? hx
   have hne : x ≠ a := by
    intro h2
    subst h2
    exact hm ((List.getElem?_inj hj hl).1 (ha.trans hx.symm))
   simp only [Option.map_some, h x hxm hne]
end Bs
end Go.Proofs.YthffbfkcmbgghaaGreat

namespace Go.Proofs.YthffbfkcmbgghaaGreat
open Go
set_option maxHeartbeats 1000000
namespace Bs
variable (y : Sy)
def sumTo : Nat → (Nat → Int) → Int
 | 0, _ => 0
 | n + 1, f => sumTo n f + f n
theorem sumTo_le {f g : Nat → Int} : ∀ {n : Nat}, (∀ j, j < n → f j ≤ g j) → sumTo n f ≤ sumTo n g
 | 0, _ => Int.le_refl _
 | n + 1, h => by
  have := sumTo_le (n := n) fun j hj => h j (by omega)
  have := h n (by omega)
  simp only [sumTo]; omega
theorem sumTo_zero {f : Nat → Int} {n : Nat} (h : ∀ j, j < n → f j = 0) : sumTo n f = 0 := by
 induction n with
 | zero => rfl
 | succ n ih => simp only [sumTo]; rw [ih fun j hj => h j (by omega), h n (by omega)]; rfl
theorem sumTo_up (c f : Nat → Int) (k : Nat) : ∀ n : Nat, sumTo n (fun j => up c k j - f j) = sumTo n (fun j => c j - f j) + if k < n then 1 else 0
 | 0 => by simp [sumTo]
 | n + 1 => by
  have ih := sumTo_up c f k n
  show sumTo n (fun j => up c k j - f j) + (up c k n - f n) = sumTo n (fun j => c j - f j) + (c n - f n) + if k < n + 1 then 1 else 0
  rw [ih]
  unfold up
  by_cases h : n = k
  ·subst h; rw [if_pos rfl, if_neg (Nat.lt_irrefl _), if_pos (by omega)]; omega
  ·rw [if_neg h]
   by_cases h2 : k < n
   ·rw [if_pos h2, if_pos (by omega)]; omega
   ·rw [if_neg h2, if_neg (by omega)]; omega
def cei (x p : Int) : Int := (x + p - 1) / p
theorem cei_ge {x p : Int} (hp : 0 < p) : x ≤ cei x p * p := by
 have e := Int.ediv_mul_add_emod (x + p - 1) p
 have m := Int.emod_lt_of_pos (x + p - 1) hp
 unfold cei; omega
theorem cei_le {x p k : Int} (hp : 0 < p) (h : x ≤ k * p) : cei x p ≤ k := by
 have : (x + p - 1) / p < k + 1 := by
  rw [Int.ediv_lt_iff_lt_mul hp, Int.add_mul]; omega
 unfold cei; omega
theorem cei_nn {x p : Int} (hp : 0 < p) (h : 0 ≤ x) : 0 ≤ cei x p := Int.ediv_nonneg (by omega) (by omega)
def nb (j : Nat) (t : Int) : Int := max 0 (cei (t - y.S j) (y.P j))
theorem nb_nn (j : Nat) (t : Int) : 0 ≤ nb y j t := by unfold nb; omega
theorem nb_ge {j : Nat} (hj : j < y.n) (t : Int) : t ≤ y.S j + nb y j t * y.P j := by
 have hp := y.hP j hj
 have h := cei_ge (x := t - y.S j) hp
 have := Int.mul_le_mul_of_nonneg_right (show cei (t - y.S j) (y.P j) ≤ nb y j t by unfold nb; omega) (Int.le_of_lt hp)
 omega
theorem nb_le {j : Nat} (hj : j < y.n) {t k : Int} (hk : 0 ≤ k) (h : t ≤ y.S j + k * y.P j) : nb y j t ≤ k := by
 have := cei_le (x := t - y.S j) (k := k) (y.hP j hj) (by omega)
 unfold nb; omega
theorem nb_sub {j : Nat} (hj : j < y.n) {u t : Int} (h : u ≤ t) : nb y j t - nb y j u ≤ cei (t - u) (y.P j) := by
 have hp := y.hP j hj
 have h1 := nb_ge y hj u
 have h2 := cei_ge (x := t - u) hp
 have h3 := cei_nn (x := t - u) hp (by omega)
 have h4 := nb_nn y j u
 have := nb_le y hj (t := t) (k := nb y j u + cei (t - u) (y.P j)) (by omega) (by rw [Int.add_mul]; omega)
 omega
def dem (i : Nat) (x : Int) : Int := y.L i + sumTo i fun j => y.L j * cei x (y.P j)
theorem all_sent {e : Bool} {t : Nat} {o : List Int} {c : Nat → Int} {R : Nat × Int → Int} (h : Run y e t o c R) {j : Nat} (hj : j < y.n) : c j ≤ nb y j t * y.L j := (run_inv y h).2.2.1 j hj _ (nb_nn y j t) (nb_ge y hj t)
theorem not_sent {c : Nat → Int} {j : Nat} (hj : j < y.n) (hc : 0 ≤ c j) {u : Int} (h : ¬sent y c j < u) : nb y j u * y.L j ≤ c j := by
 have hl := y.hL j hj
 have h0 : 0 ≤ c j / y.L j := Int.ediv_nonneg hc (by omega)
 have h1 := nb_le y hj (t := u) (k := c j / y.L j) h0 (by unfold sent at h; omega)
 have h2 := Int.mul_le_mul_of_nonneg_right h1 (Int.le_of_lt hl)
 have e := Int.ediv_mul_add_emod (c j) (y.L j)
 have m := Int.emod_nonneg (c j) (show y.L j ≠ 0 by omega)
 omega
theorem rem_zero {e : Bool} {t : Nat} {o : List Int} {c : Nat → Int} {R : Nat × Int → Int} (h : Run y e t o c R) {i : Nat} (hi : i < y.n) (hs : ¬sent y c i < t) : c i % y.L i = 0 := by
 have hl := y.hL i hi
 have h0 := ((run_inv y h).2.1 i hi).1
 have := (run_inv y h).2.2.1 i hi (c i / y.L i) (Int.ediv_nonneg h0 (by omega)) (by unfold sent at hs; omega)
 have e := Int.ediv_mul_add_emod (c i) (y.L i)
 have m := Int.emod_nonneg (c i) (show y.L i ≠ 0 by omega)
 omega
theorem chosen_first {c : Nat → Int} {t k : Nat} (h : Chosen y c false t k) {j : Nat} (hj : j < k) : ¬sent y c j < t := fun hs => by
 rcases h.2.2 j (by have := h.1; omega) hs with h1 | h1
 ·omega
 ·unfold bf at h1
  simp only [Bool.false_eq_true, false_and, if_false] at h1
  rw [if_pos (by show k ≠ j; omega)] at h1
  omega
theorem up_sent {c : Nat → Int} {k i : Nat} (h : i ≠ k) : sent y (up c k) i = sent y c i := by unfold sent up; rw [if_neg h]
def Inv (i : Nat) (r : Int) (t : Nat) (c : Nat → Int) (R : Nat × Int → Int) : Prop :=
 (∀ s, R (i, s) ≤ r) ∧ ∃ u : Int, 0 ≤ u ∧ u ≤ t ∧ (t : Int) - u < r ∧ (sent y c i < t → u ≤ sent y c i) ∧ sumTo i (fun j => c j - nb y j u * y.L j) + c i % y.L i = t - u
theorem inv_short {t : Nat} {o : List Int} {c : Nat → Int} {R : Nat × Int → Int} (h : Run y false t o c R) {i : Nat} (hi : i < y.n) {r : Int} (hr : dem y i r ≤ r) {u : Int} (hut : u ≤ t) (hle : (t : Int) - u ≤ r)
  (hsum : sumTo i (fun j => c j - nb y j u * y.L j) + c i % y.L i = t - u) : (t : Int) - u < r := by
 have hb : sumTo i (fun j => c j - nb y j u * y.L j) ≤ sumTo i fun j => y.L j * cei (t - u) (y.P j) := sumTo_le fun j hj => by
  have hjn : j < y.n := by omega
  have h1 := all_sent y h hjn
  have h2 := Int.mul_le_mul_of_nonneg_right (nb_sub y hjn hut) (Int.le_of_lt (y.hL j hjn))
  rw [Int.sub_mul, Int.mul_comm (cei _ _)] at h2
  show c j - nb y j u * y.L j ≤ y.L j * cei (t - u) (y.P j)
  omega
 have hm := Int.emod_lt_of_pos (c i) (y.hL i hi)
 rcases Int.lt_or_eq_of_le hle with h1 | h1
 ·exact h1
 ·rw [h1] at hb hsum
  unfold dem at hr
  omega
theorem inv_new {t : Nat} {o : List Int} {c : Nat → Int} {R : Nat × Int → Int} (h : Run y false t o c R) {i : Nat} (hi : i < y.n) {r : Int} (hr : 0 < r) (hR : ∀ s, R (i, s) ≤ r) (hn : ∀ j, j ≤ i → ¬sent y c j < t) : Inv y i r t c R := by
 refine ⟨hR, t, by omega, by omega, by omega, fun hs => absurd hs (hn i (Nat.le_refl _)), ?_⟩
 rw [rem_zero y h hi (hn i (Nat.le_refl _)), sumTo_zero fun j hj => by
  have hjn : j < y.n := by omega
  have h1 := all_sent y h hjn
  have h2 := not_sent y hjn ((run_inv y h).2.1 j hjn).1 (hn j (by omega))
  show c j - nb y j t * y.L j = 0
  omega]
 omega
theorem never_late {t : Nat} {o : List Int} {c : Nat → Int} {R : Nat × Int → Int} (h : Run y false t o c R) {i : Nat} (hi : i < y.n) {r : Int} (hr0 : 0 < r) (hrP : r ≤ y.P i) (hr : dem y i r ≤ r) : Inv y i r t c R := by
 induction h with
 | zero =>
  refine ⟨fun _ => by show (0 : Int) ≤ r; omega, 0, by omega, by omega, by omega, fun _ => ?_, ?_⟩
  ·have := y.hS i hi; unfold sent; simp; exact this
  ·rw [sumTo_zero fun j hj => by
    have hjn : j < y.n := by omega
    have := nb_le y hjn (t := 0) (k := 0) (by omega) (by have := y.hS j hjn; omega)
    have := nb_nn y j 0
    have e : nb y j 0 = 0 := by omega
    show (0 : Int) - nb y j 0 * y.L j = 0
    rw [e]; omega]
   simp
 | @idle t o c R h hn ih => exact inv_new y (Run.idle h hn) hi hr0 ih.1 fun j hj => hn j (by omega)
 | @one t o c R k h hn ih =>
  have hrun := Run.one h hn
  obtain ⟨ihR, u, hu0, hut, hur, hus, hsum⟩ := ih
  have hc0 := ((run_inv y h).2.1 i hi).1
  have hus' : sent y c i < ((t + 1 : Nat) : Int) → u ≤ sent y c i := fun hs => by
   by_cases h1 : sent y c i < t
   ·exact hus h1
   ·omega
  rcases Nat.lt_trichotomy k i with hki | hki | hki
  ·-- one that goes before
   have hs2 : sumTo i (fun j => up c k j - nb y j u * y.L j) + up c k i % y.L i = ((t + 1 : Nat) : Int) - u := by
    rw [sumTo_up c (fun j => nb y j u * y.L j) k i, if_pos hki, show up c k i = c i by unfold up; rw [if_neg (by omega)]]
    omega
   refine ⟨fun s => ?_, u, hu0, by omega, inv_short y hrun hi hr (by omega) (by omega) hs2, ?_, hs2⟩
   ·unfold putR; rw [if_neg (fun e => by injection e with e _; omega)]; exact ihR s
   ·rw [up_sent y (by omega)]; exact hus'
  ·subst hki
   have hsk := hn.2.1
   have husk := hus' hsk
   have hl := y.hL k hi
   have e := Int.ediv_mul_add_emod (c k) (y.L k)
   have m1 := Int.emod_nonneg (c k) (show y.L k ≠ 0 by omega)
   have m2 := Int.emod_lt_of_pos (c k) hl
   have hup : up c k k = c k + 1 := by unfold up; rw [if_pos rfl]
   by_cases hd : (c k + 1) % y.L k = 0
   ·-- it is complete
    have hR : ∀ s, putR R (k, sent y c k) (done y c R k t) (k, s) ≤ r := fun s => by
     unfold putR
     split
     ·unfold done; rw [if_pos hd]; omega
     ·exact ihR s
    have hdiv : (c k + 1) / y.L k = c k / y.L k + 1 := by
     have e2 := Int.ediv_mul_add_emod (c k + 1) (y.L k)
     rw [hd] at e2
     have h1 : c k / y.L k < (c k + 1) / y.L k := Int.lt_of_mul_lt_mul_right (a := y.L k) (by omega) (Int.le_of_lt hl)
     have h2 : (c k + 1) / y.L k < c k / y.L k + 2 := Int.lt_of_mul_lt_mul_right (a := y.L k) (by rw [Int.add_mul]; omega) (Int.le_of_lt hl)
     omega
    refine inv_new y hrun hi hr0 hR fun j hj => ?_
    rcases Nat.lt_or_eq_of_le hj with hj | hj
    ·rw [up_sent y (by omega)]; exact chosen_first y hn hj
    ·subst hj
     intro hs
     rw [sent, hup, hdiv, Int.add_mul] at hs
     unfold sent at husk
     omega
   ·have hrem : (c k + 1) % y.L k = c k % y.L k + 1 := by
     have h3 : c k % y.L k + 1 < y.L k := by
      rcases Int.lt_or_le (c k % y.L k + 1) (y.L k) with h3 | h3
      ·exact h3
      ·exfalso; apply hd
       have : c k + 1 = (c k / y.L k + 1) * y.L k := by rw [Int.add_mul]; omega
       rw [this]; exact Int.mul_emod_left _ _
     rw [show c k + 1 = (c k % y.L k + 1) + c k / y.L k * y.L k by omega, Int.add_mul_emod_self_right, Int.emod_eq_of_lt (by omega) h3]
    have hdiv : (c k + 1) / y.L k = c k / y.L k := by
     have e2 := Int.ediv_mul_add_emod (c k + 1) (y.L k)
     have h1 : c k / y.L k < (c k + 1) / y.L k + 1 := Int.lt_of_mul_lt_mul_right (a := y.L k) (by rw [Int.add_mul]; omega) (Int.le_of_lt hl)
     have h2 : (c k + 1) / y.L k < c k / y.L k + 1 := Int.lt_of_mul_lt_mul_right (a := y.L k) (by rw [Int.add_mul]; omega) (Int.le_of_lt hl)
     omega
    have hs2 : sumTo k (fun j => up c k j - nb y j u * y.L j) + up c k k % y.L k = ((t + 1 : Nat) : Int) - u := by
     rw [sumTo_up c (fun j => nb y j u * y.L j) k k, if_neg (Nat.lt_irrefl _), hup, hrem]
     omega
    refine ⟨fun s => ?_, u, hu0, by omega, inv_short y hrun hi hr (by omega) (by omega) hs2, fun _ => ?_, hs2⟩
    ·unfold putR
     split
     ·unfold done; rw [if_neg hd]; exact ihR _
     ·exact ihR s
    ·rw [sent, hup, hdiv]; exact husk
  ·refine inv_new y hrun hi hr0 (fun s => ?_) fun j hj => ?_
   ·unfold putR; rw [if_neg (fun e => by injection e with e _; omega)]; exact ihR s
   ·rw [up_sent y (by omega)]; exact chosen_first y hn (by omega)
theorem together_least {t : Nat} {o : List Int} {c : Nat → Int} {R : Nat × Int → Int} (h : Run y false t o c R) (hS : ∀ j, j < y.n → y.S j = 0) {i : Nat} (hi : i < y.n) {r : Int} (hr : ∀ x : Int, 1 ≤ x → x < r → x < dem y i x) : sumTo (i + 1) c ≤ t ∧ (y.L i ≤ c i → r ≤ R (i, 0)) := by
 induction h with
 | zero => exact ⟨by rw [sumTo_zero fun _ _ => rfl]; omega, fun h => by have := y.hL i hi; have h : y.L i ≤ 0 := h; omega⟩
 | @idle t o c R h hn ih => exact ⟨by have := ih.1; omega, ih.2⟩
 | @one t o c R k h hn ih =>
  have hs : sumTo (i + 1) (up c k) ≤ ((t + 1 : Nat) : Int) := by
   have e : sumTo (i + 1) (up c k) = sumTo (i + 1) c + if k < i + 1 then 1 else 0 := by
    have := sumTo_up c (fun _ => 0) k (i + 1)
    simpa using this
   rw [e]
   have := ih.1
   split <;> omega
  refine ⟨hs, fun hL => ?_⟩
  have hl := y.hL i hi
  by_cases hki : i = k
  ·subst hki
   have hup : up c i i = c i + 1 := by unfold up; rw [if_pos rfl]
   rw [hup] at hL
   unfold putR
   by_cases h0 : y.L i ≤ c i
   ·have h1 : 1 ≤ c i / y.L i := by
     rw [Int.le_ediv_iff_mul_le hl]; omega
    have h2 := Int.mul_le_mul_of_nonneg_right h1 (Int.le_of_lt (y.hP i hi))
    have hp := y.hP i hi
    rw [if_neg (fun e => by injection e with _ e; unfold sent at e; rw [hS i hi] at e; omega)]
    exact ih.2 h0
   ·have h1 : c i + 1 = y.L i := by omega
    have hc0 := ((run_inv y h).2.1 i hi).1
    have h2 : c i / y.L i = 0 := Int.ediv_eq_zero_of_lt hc0 (by omega)
    have hs0 : sent y c i = 0 := by unfold sent; rw [h2, hS i hi]; omega
    rw [hs0, if_pos rfl]
    unfold done
    rw [h1, Int.emod_self, if_pos rfl, hs0]
    rcases Int.lt_or_le ((t : Int) + 1) r with h3 | h3
    ·exfalso
     have h4 := hr (t + 1) (by omega) h3
     have h5 : sumTo i (fun j => y.L j * cei ((t : Int) + 1) (y.P j)) ≤ sumTo i (up c i) := sumTo_le fun j hj => by
      have hjn : j < y.n := by omega
      have h6 := not_sent y hjn ((run_inv y h).2.1 j hjn).1 (chosen_first y hn hj)
      have h7 : up c i j = c j := by unfold up; rw [if_neg (by omega)]
      have h8 : nb y j ((t + 1 : Nat) : Int) = cei ((t : Int) + 1) (y.P j) := by
       have := cei_nn (x := (t : Int) + 1) (y.hP j hjn) (by omega)
       unfold nb
       rw [hS j hjn, show ((t + 1 : Nat) : Int) - 0 = (t : Int) + 1 by omega]
       omega
      rw [h8] at h6
      rw [h7, Int.mul_comm]
      exact h6
     have h6 : sumTo (i + 1) (up c i) = sumTo i (up c i) + up c i i := rfl
     unfold dem at h4
     rw [hup] at h6
     omega
    ·omega
  ·have hup : up c k i = c i := by unfold up; rw [if_neg hki]
   rw [hup] at hL
   unfold putR
   rw [if_neg (fun e => by injection e with e _; exact hki e)]
   exact ih.2 hL
end Bs
end Go.Proofs.YthffbfkcmbgghaaGreat
