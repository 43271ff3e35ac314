/-
  Chapter 7: messages of streams that wait, and which of them is carried: what is left of each is told by how many frames of its stream were carried.
-/
import Derived.Test.YthffbfkcmbgghaaGreatZEd
set_option linter.all false
namespace Go.Proofs.YthffbfkcmbgghaaGreat
open Go
set_option maxHeartbeats 1000000
namespace Bs
structure Sy where
  n : Nat
  P : Nat → Int
  D : Nat → Int
  L : Nat → Int
  S : Nat → Int
  hP : ∀ i, i < n → 0 < P i
  hL : ∀ i, i < n → 0 < L i
  hS : ∀ i, i < n → 0 ≤ S i
variable (y : Sy)
def sends (t : Nat) (i : Nat) : Bool := decide (y.S i ≤ (t : Int)) && decide (((t : Int) - y.S i) % y.P i = 0)
def new (t : Nat) : List (Nat × Int) := ((List.range y.n).filter (sends y t)).map fun i => (i, (t : Int))
def keys : Nat → List (Nat × Int)
  | 0 => []
  | t + 1 => keys t ++ new y t
theorem mem_new {t i : Nat} {s : Int} : (i, s) ∈ new y t ↔ i < y.n ∧ s = t ∧ y.S i ≤ s ∧ (s - y.S i) % y.P i = 0 := by
  simp only [new, List.mem_map, List.mem_filter, List.mem_range, sends, Bool.and_eq_true, decide_eq_true_eq]
  constructor
  · rintro ⟨j, ⟨h1, h2, h3⟩, h4⟩
    injection h4 with h4 h5; subst h4; subst h5
    exact ⟨h1, rfl, h2, h3⟩
  · rintro ⟨h1, h2, h3, h4⟩
    subst h2
    exact ⟨i, ⟨h1, h3, h4⟩, rfl⟩
theorem mem_keys {i : Nat} {s : Int} : ∀ t : Nat, (i, s) ∈ keys y t ↔ i < y.n ∧ s < t ∧ y.S i ≤ s ∧ (s - y.S i) % y.P i = 0
  | 0 => by
    simp only [keys, List.not_mem_nil, false_iff]
    rintro ⟨h1, h2, h3, _⟩
    have := y.hS i h1
    omega
  | t + 1 => by
    rw [keys, List.mem_append, mem_keys t, mem_new]
    constructor
    · rintro (⟨h1, h2, h3⟩ | ⟨h1, h2, h3⟩)
      · exact ⟨h1, by omega, h3⟩
      · exact ⟨h1, by omega, h3⟩
    · rintro ⟨h1, h2, h3⟩
      by_cases h : s = (t : Int)
      · exact .inr ⟨h1, h, h3⟩
      · exact .inl ⟨h1, by omega, h3⟩
theorem new_nodup (t : Nat) : (new y t).Nodup := by
  unfold new
  refine List.pairwise_map.2 (List.Pairwise.imp (fun h e => h ?_) (List.Pairwise.filter _ List.nodup_range))
  injection e
theorem keys_nodup : ∀ t : Nat, (keys y t).Nodup
  | 0 => List.nodup_nil
  | t + 1 => by
    rw [keys, List.nodup_append]
    refine ⟨keys_nodup t, new_nodup y t, ?_⟩
    rintro ⟨i, s⟩ h1 ⟨j, s'⟩ h2 h3
    injection h3 with h3 h4
    have a1 := (mem_keys y t).1 h1
    have a2 := (mem_new y).1 h2
    omega
theorem new_len (t : Nat) : (new y t).length ≤ y.n := by
  unfold new
  rw [List.length_map]
  exact Nat.le_trans (List.length_filter_le _ _) (by simp)
theorem keys_len : ∀ t : Nat, (keys y t).length ≤ t * y.n
  | 0 => by simp [keys]
  | t + 1 => by
    rw [keys, List.length_append, Nat.succ_mul]
    exact Nat.add_le_add (keys_len t) (new_len y t)
variable (c : Nat → Int)
def sent (i : Nat) : Int := y.S i + c i / y.L i * y.P i
def left (i : Nat) (s : Int) : Int := max 0 (min (y.L i) (((s - y.S i) / y.P i + 1) * y.L i - c i))
theorem sent_div {i : Nat} {s : Int} {t : Nat} (h : (i, s) ∈ keys y t) : ∃ k : Int, 0 ≤ k ∧ s = y.S i + k * y.P i ∧ (s - y.S i) / y.P i = k := by
  obtain ⟨h1, h2, h3, h4⟩ := (mem_keys y t).1 h
  have hp := y.hP i h1
  refine ⟨(s - y.S i) / y.P i, Int.ediv_nonneg (by omega) (by omega), ?_, rfl⟩
  have := Int.ediv_mul_add_emod (s - y.S i) (y.P i)
  omega
theorem left_pos {i : Nat} {s : Int} {t : Nat} (h : (i, s) ∈ keys y t) : 0 < left y c i s ↔ sent y c i ≤ s := by
  obtain ⟨k, hk, hs, hd⟩ := sent_div y h
  have hi := ((mem_keys y t).1 h).1
  have hp := y.hP i hi
  have hl := y.hL i hi
  have e1 : c i / y.L i < k + 1 ↔ c i < (k + 1) * y.L i := Int.ediv_lt_iff_lt_mul hl
  have e2 : sent y c i ≤ s ↔ c i / y.L i ≤ k := by
    rw [sent, hs]
    constructor
    · intro h
      exact Int.le_of_mul_le_mul_right (by omega) hp
    · intro h
      have := Int.mul_le_mul_of_nonneg_right h (Int.le_of_lt hp)
      omega
  rw [e2, left, hd]
  omega
theorem sent_mem {i : Nat} (hi : i < y.n) (hc : 0 ≤ c i) {t : Nat} (h : sent y c i < t) : (i, sent y c i) ∈ keys y t := by
  have hp := y.hP i hi
  have hl := y.hL i hi
  have h0 : 0 ≤ c i / y.L i := Int.ediv_nonneg hc (by omega)
  have h1 : 0 ≤ c i / y.L i * y.P i := Int.mul_nonneg h0 (by omega)
  refine (mem_keys y t).2 ⟨hi, h, by unfold sent; omega, ?_⟩
  rw [sent, show y.S i + c i / y.L i * y.P i - y.S i = c i / y.L i * y.P i by omega]
  exact Int.mul_emod_left _ _
def up (i : Nat) : Nat → Int := fun j => if j = i then c i + 1 else c j
theorem left_other {i j : Nat} {s : Int} (h : j ≠ i) : left y (up c i) j s = left y c j s := by
  simp [left, up, h]
theorem left_now {i : Nat} (hi : i < y.n) (_hc : 0 ≤ c i) : left y c i (sent y c i) = y.L i - c i % y.L i ∧ left y (up c i) i (sent y c i) = y.L i - c i % y.L i - 1 := by
  have hp := y.hP i hi
  have hl := y.hL i hi
  have hd : (sent y c i - y.S i) / y.P i = c i / y.L i := by
    rw [sent, show y.S i + c i / y.L i * y.P i - y.S i = c i / y.L i * y.P i by omega]
    exact Int.mul_ediv_cancel _ (by omega)
  have e := Int.ediv_mul_add_emod (c i) (y.L i)
  have m1 := Int.emod_nonneg (c i) (show y.L i ≠ 0 by omega)
  have m2 := Int.emod_lt_of_pos (c i) hl
  have e3 : (c i / y.L i + 1) * y.L i = c i / y.L i * y.L i + y.L i := by rw [Int.add_mul, Int.one_mul]
  simp only [left, hd, up, if_true, e3]
  omega
theorem left_later {i : Nat} {s : Int} {t : Nat} (h : (i, s) ∈ keys y t) (hc : 0 ≤ c i) (hs : s ≠ sent y c i) : left y (up c i) i s = left y c i s := by
  obtain ⟨k, hk, hk2, hd⟩ := sent_div y h
  have hi := ((mem_keys y t).1 h).1
  have hp := y.hP i hi
  have hl := y.hL i hi
  have e := Int.ediv_mul_add_emod (c i) (y.L i)
  have m1 := Int.emod_nonneg (c i) (show y.L i ≠ 0 by omega)
  have m2 := Int.emod_lt_of_pos (c i) hl
  have hne : k ≠ c i / y.L i := fun h => hs (by rw [hk2, sent, h])
  simp only [left, hd, up, if_true]
  rcases Int.lt_or_gt_of_ne hne with h1 | h1
  · have := Int.mul_le_mul_of_nonneg_right (show k + 1 ≤ c i / y.L i by omega) (Int.le_of_lt hl)
    omega
  · have := Int.mul_le_mul_of_nonneg_right (show c i / y.L i + 1 + 1 ≤ k + 1 by omega) (Int.le_of_lt hl)
    rw [Int.add_mul, Int.add_mul] at this
    omega
def bf (early : Bool) (a b : Nat × Int) : Prop :=
  if early = true ∧ a.2 + y.D a.1 ≠ b.2 + y.D b.1 then a.2 + y.D a.1 < b.2 + y.D b.1
  else if a.1 ≠ b.1 then a.1 < b.1 else a.2 < b.2
instance (early : Bool) (a b : Nat × Int) : Decidable (bf y early a b) := by unfold bf; infer_instance
theorem bf_asymm {e : Bool} {a b : Nat × Int} (h : bf y e a b) : ¬bf y e b a := by
  obtain ⟨a1, a2⟩ := a; obtain ⟨b1, b2⟩ := b
  unfold bf at *
  cases e <;> simp only [Bool.false_eq_true, false_and, if_false, true_and] at * <;> (split at h <;> split <;> (try split at h) <;> (try split) <;> first | omega | (subst_vars; omega) | (simp_all; done) | (intro; simp_all; omega))
theorem bf_total {e : Bool} {a b : Nat × Int} (h : ¬bf y e a b) (hn : a ≠ b) : bf y e b a := by
  obtain ⟨a1, a2⟩ := a; obtain ⟨b1, b2⟩ := b
  have hn' : a1 ≠ b1 ∨ a2 ≠ b2 := by
    by_cases h1 : a1 = b1
    · exact .inr fun h2 => hn (by rw [h1, h2])
    · exact .inl h1
  unfold bf at *
  cases e <;> simp only [Bool.false_eq_true, false_and, if_false, true_and, ne_eq] at * <;> (split at h <;> split <;> (try split at h) <;> (try split) <;> first | omega | (subst_vars; omega) | (simp_all; done))
theorem bf_trans {e : Bool} {a b d : Nat × Int} (h : bf y e a b) (h' : bf y e b d) : bf y e a d := by
  obtain ⟨a1, a2⟩ := a; obtain ⟨b1, b2⟩ := b; obtain ⟨d1, d2⟩ := d
  unfold bf at *
  cases e <;> simp only [Bool.false_eq_true, false_and, if_false, true_and, ne_eq] at * <;> (split at h <;> split at h' <;> split <;> (try split at h) <;> (try split at h') <;> (try split) <;> first | omega | (subst_vars; omega) | (simp_all; done))
def Least (e : Bool) (t : Nat) (a : Nat × Int) : Prop :=
  a ∈ keys y t ∧ 0 < left y c a.1 a.2 ∧ ∀ b ∈ keys y t, 0 < left y c b.1 b.2 → b = a ∨ bf y e a b
def Chosen (e : Bool) (t : Nat) (i : Nat) : Prop :=
  i < y.n ∧ sent y c i < t ∧ ∀ j, j < y.n → sent y c j < t → j = i ∨ bf y e (i, sent y c i) (j, sent y c j)
theorem least_unique {e : Bool} {t : Nat} {a b : Nat × Int} (h : Least y c e t a) (h' : Least y c e t b) : a = b := by
  rcases h.2.2 b h'.1 h'.2.1 with h1 | h1
  · exact h1.symm
  rcases h'.2.2 a h.1 h.2.1 with h2 | h2
  · exact h2
  exact absurd h2 (bf_asymm y h1)
theorem bf_same {e : Bool} {i : Nat} {s s' : Int} : bf y e (i, s) (i, s') ↔ s < s' := by
  unfold bf
  cases e <;> simp <;> omega
theorem chosen_least {e : Bool} {t i : Nat} (hc : ∀ j, j < y.n → 0 ≤ c j) (h : Chosen y c e t i) : Least y c e t (i, sent y c i) := by
  obtain ⟨h1, h2, h3⟩ := h
  have m := sent_mem y c h1 (hc i h1) h2
  refine ⟨m, (left_pos y c m).2 (Int.le_refl _), ?_⟩
  rintro ⟨j, s⟩ hb hl
  have hj := ((mem_keys y t).1 hb)
  have hle := (left_pos y c hb).1 hl
  have hjs : sent y c j < t := by omega
  have g : (j, s) = (j, sent y c j) ∨ bf y e (j, sent y c j) (j, s) := by
    by_cases hq : s = sent y c j
    · exact .inl (by rw [hq])
    · exact .inr ((bf_same y).2 (by omega))
  rcases h3 j hj.1 hjs with h4 | h4
  · subst h4
    exact g
  · rcases g with g | g
    · rw [g]; exact .inr h4
    · exact .inr (bf_trans y h4 g)
end Bs
end Go.Proofs.YthffbfkcmbgghaaGreat

namespace Go.Proofs.YthffbfkcmbgghaaGreat
open Go
set_option maxHeartbeats 1000000
namespace Bs
variable (y : Sy)
theorem least_chosen {c : Nat → Int} {e : Bool} {t : Nat} {a : Nat × Int} (hc : ∀ j, j < y.n → 0 ≤ c j) (h : Least y c e t a) : Chosen y c e t a.1 ∧ a.2 = sent y c a.1 := by
  obtain ⟨i, s⟩ := a
  obtain ⟨h1, h2, h3⟩ := h
  have hk := (mem_keys y t).1 h1
  have hle := (left_pos y c h1).1 h2
  have m := sent_mem y c hk.1 (hc i hk.1) (t := t) (by omega)
  have hs : s = sent y c i := by
    rcases h3 _ m ((left_pos y c m).2 (Int.le_refl _)) with h4 | h4
    · injection h4 with _ h4; exact h4.symm
    · have := (bf_same y).1 h4
      omega
  subst hs
  refine ⟨⟨hk.1, hk.2.1, fun j hj hjt => ?_⟩, rfl⟩
  have m' := sent_mem y c hj (hc j hj) hjt
  rcases h3 _ m' ((left_pos y c m').2 (Int.le_refl _)) with h4 | h4
  · injection h4 with h4 _; exact .inl h4
  · exact .inr h4
theorem none_left {c : Nat → Int} {t : Nat} (hc : ∀ j, j < y.n → 0 ≤ c j) (h : ∀ b ∈ keys y t, ¬0 < left y c b.1 b.2) : ∀ i, i < y.n → ¬sent y c i < t := by
  intro i hi hs
  have m := sent_mem y c hi (hc i hi) hs
  exact h _ m ((left_pos y c m).2 (Int.le_refl _))
def done (c : Nat → Int) (R : Nat × Int → Int) (i : Nat) (t : Nat) : Int := if (c i + 1) % y.L i = 0 then (t : Int) - sent y c i + 1 else R (i, sent y c i)
def putR (R : Nat × Int → Int) (a : Nat × Int) (v : Int) : Nat × Int → Int := fun b => if b = a then v else R b
inductive Run (e : Bool) : Nat → List Int → (Nat → Int) → (Nat × Int → Int) → Prop
  | zero : Run e 0 [] (fun _ => 0) (fun _ => 0)
  | idle {t o c R} : Run e t o c R → (∀ i, i < y.n → ¬sent y c i < ((t + 1 : Nat) : Int)) → Run e (t + 1) (o ++ [-1]) c R
  | one {t o c R i} : Run e t o c R → Chosen y c e (t + 1) i → Run e (t + 1) (o ++ [(i : Int)]) (up c i) (putR R (i, sent y c i) (done y c R i t))
theorem run_inv {e : Bool} {t : Nat} {o : List Int} {c : Nat → Int} {R : Nat × Int → Int} (h : Run y e t o c R) : o.length = t ∧ (∀ i, i < y.n → 0 ≤ c i ∧ c i ≤ t) ∧ (∀ i, i < y.n → ∀ k : Int, 0 ≤ k → (t : Int) ≤ y.S i + k * y.P i → c i ≤ k * y.L i) ∧ (∀ a, 0 ≤ R a) ∧ (∀ a : Nat × Int, (t : Int) ≤ a.2 → R a = 0) := by
  induction h with
  | zero => exact ⟨rfl, fun _ _ => ⟨Int.le_refl _, by simp⟩, fun i hi k hk _ => Int.mul_nonneg hk (Int.le_of_lt (y.hL i hi)), fun _ => Int.le_refl _, fun _ _ => rfl⟩
  | idle h hn ih =>
    obtain ⟨i1, i2, i3, i4, i5⟩ := ih
    exact ⟨by simp [i1], fun i hi => ⟨(i2 i hi).1, by have := (i2 i hi).2; omega⟩, fun i hi k hk hs => i3 i hi k hk (by omega), i4, fun a ha => i5 a (by omega)⟩
  | @one t o c R i h hn ih =>
    obtain ⟨i1, i2, i3, i4, i5⟩ := ih
    have hl := y.hL i hn.1
    have hp := y.hP i hn.1
    refine ⟨by simp [i1], fun j hj => ?_, fun j hj k hk hs => ?_, fun a => ?_, fun a ha => ?_⟩
    · have := i2 j hj
      unfold up
      split <;> (subst_vars; omega)
    · unfold up
      split
      · rename_i hji
        rw [hji] at hs ⊢
        have h2 := hn.2.1
        rw [sent] at h2
        have h3 : c i / y.L i < k := by
          refine Int.lt_of_mul_lt_mul_right (a := y.P i) ?_ (Int.le_of_lt hp)
          omega
        have h4 := Int.mul_le_mul_of_nonneg_right (show c i / y.L i + 1 ≤ k by omega) (Int.le_of_lt hl)
        have e1 := Int.ediv_mul_add_emod (c i) (y.L i)
        have m2 := Int.emod_lt_of_pos (c i) hl
        rw [Int.add_mul] at h4
        omega
      · exact i3 j hj k hk (by omega)
    · unfold putR
      split
      · have h2 := hn.2.1
        unfold done
        split
        · omega
        · exact i4 _
      · exact i4 a
    · have h2 := hn.2.1
      unfold putR
      rw [if_neg (fun h => by rw [h] at ha; simp only at ha; omega)]
      exact i5 a (by omega)
theorem chosen_one {c : Nat → Int} {e : Bool} {t i j : Nat} (hc : ∀ j, j < y.n → 0 ≤ c j) (h : Chosen y c e t i) (h' : Chosen y c e t j) : i = j := by
  have := least_unique y c (chosen_least y c hc h) (chosen_least y c hc h')
  injection this
theorem run_det {e : Bool} {t : Nat} {o : List Int} {c : Nat → Int} {R : Nat × Int → Int} (h : Run y e t o c R) : ∀ {o' c' R'}, Run y e t o' c' R' → o' = o ∧ c' = c ∧ R' = R := by
  induction h with
  | zero =>
    intro o' c' R' h'
    cases h'
    exact ⟨rfl, rfl, rfl⟩
  | @idle t o c R h hn ih =>
    intro o' c' R' h'
    cases h' with
    | idle g gn =>
      obtain ⟨rfl, rfl, rfl⟩ := ih g
      exact ⟨rfl, rfl, rfl⟩
    | one g gn =>
      obtain ⟨rfl, rfl, rfl⟩ := ih g
      exact absurd gn.2.1 (hn _ gn.1)
  | @one t o c R i h hn ih =>
    intro o' c' R' h'
    cases h' with
    | idle g gn =>
      obtain ⟨rfl, rfl, rfl⟩ := ih g
      exact absurd hn.2.1 (gn _ hn.1)
    | one g gn =>
      obtain ⟨rfl, rfl, rfl⟩ := ih g
      have := chosen_one y (fun j hj => ((run_inv y h).2.1 j hj).1) gn hn
      subst this
      exact ⟨rfl, rfl, rfl⟩
def job (c : Nat → Int) (R : Nat × Int → Int) (a : Nat × Int) : Int × Int × Int × Int := ((a.1 : Int), a.2, left y c a.1 a.2, R a)
def jobs (c : Nat → Int) (R : Nat × Int → Int) (t : Nat) : List (Int × Int × Int × Int) := (keys y t).map (job y c R)
theorem jobs_new {e : Bool} {t : Nat} {o : List Int} {c : Nat → Int} {R : Nat × Int → Int} (h : Run y e t o c R) : jobs y c R (t + 1) = jobs y c R t ++ (new y t).map fun a => ((a.1 : Int), (t : Int), y.L a.1, (0 : Int)) := by
  obtain ⟨_, i2, i3, _, i5⟩ := run_inv y h
  unfold jobs
  rw [keys, List.map_append]
  refine congrArg _ (List.map_congr_left ?_)
  rintro ⟨i, s⟩ hm
  obtain ⟨h1, h2, h3, h4⟩ := (mem_new y).1 hm
  have hp := y.hP i h1
  have hl := y.hL i h1
  have hd : s = y.S i + (s - y.S i) / y.P i * y.P i := by
    have := Int.ediv_mul_add_emod (s - y.S i) (y.P i)
    omega
  have hk := i3 i h1 ((s - y.S i) / y.P i) (Int.ediv_nonneg (by omega) (by omega)) (by omega)
  have e3 : ((s - y.S i) / y.P i + 1) * y.L i = (s - y.S i) / y.P i * y.L i + y.L i := by rw [Int.add_mul, Int.one_mul]
  have h0 := (i2 i h1).1
  unfold job
  simp only
  rw [i5 (i, s) (by simp only; omega), h2, show left y c i (t : Int) = y.L i by rw [← h2, left, e3]; omega]
theorem map_put {α β : Type} {f g : α → β} {l : List α} (hl : l.Nodup) {j : Nat} {a : α} (ha : l[j]? = some a) {b : β} (hb : g a = b) (h : ∀ x ∈ l, x ≠ a → g x = f x) : (l.map f).set j b = l.map g := by
  apply List.ext_getElem?
  intro m
  rw [List.getElem?_set, List.getElem?_map, List.getElem?_map, List.length_map]
  have hj : j < l.length := (List.getElem?_eq_some_iff.1 ha).1
  by_cases hm : j = m
  · subst hm
    rw [if_pos rfl, if_pos hj, ha, ← hb]
    rfl
  · rw [if_neg hm]
    cases hx : l[m]? with
    | none => rfl
    | some x =>
      have hxm := List.mem_of_getElem? hx
      have hne : x ≠ a := by
        intro h2
        subst h2
        exact hm ((List.getElem?_inj hj hl).1 (ha.trans hx.symm))
      simp only [Option.map_some, h x hxm hne]
theorem jobs_put {c : Nat → Int} {R : Nat × Int → Int} {t i j : Nat} (hi : i < y.n) (hc : 0 ≤ c i) (ha : (keys y t)[j]? = some (i, sent y c i)) {v : Int} : (jobs y c R t).set j ((i : Int), sent y c i, left y c i (sent y c i) - 1, v) = jobs y (up c i) (putR R (i, sent y c i) v) t := by
  have hm := List.mem_of_getElem? ha
  have hn := left_now y c hi hc
  refine map_put (keys_nodup y t) ha ?_ ?_
  · simp only [job, putR, if_true, hn.1, hn.2]
  · rintro ⟨i', s⟩ hx hne
    simp only [job, putR, if_neg hne]
    by_cases h : i' = i
    · subst h
      rw [left_later y c hx hc (fun h => hne (by rw [h]))]
    · rw [left_other y c h]
end Bs
end Go.Proofs.YthffbfkcmbgghaaGreat
