/-
  Plain mathematics of paths and posts (chapter 1, turns): what the Go functions compute, on lists of pairs of integers.
-/
namespace Go.Proofs.Ytegkppphaglpgaa

/-- The index and the error of the first item that has one. -/
def fb {α : Type} (err : α → Int) : List α → Nat → Int × Int
  | [], _ => (0, 0)
  | x :: r, i => if err x = 0 then fb err r (i + 1) else ((i : Int), err x)
theorem fb_drop {α : Type} (err : α → Int) (xs : List α) (k : Nat) (h : k < xs.length) : fb err (xs.drop k) k = if err xs[k] = 0 then fb err (xs.drop (k + 1)) (k + 1) else ((k : Int), err xs[k]) := by
  rw [List.drop_eq_getElem_cons h, fb]
theorem fb_end {α : Type} (err : α → Int) (xs : List α) (k : Nat) (h : xs.length ≤ k) : fb err (xs.drop k) k = (0, 0) := by
  rw [List.drop_of_length_le h, fb]

def inB (n lo hi : Int) : Bool := decide (lo ≤ n ∧ n ≤ hi)
def inR (m n : Int) : Bool := inB n (-m) m
theorem inB_true {n lo hi : Int} (h : lo ≤ n ∧ n ≤ hi) : inB n lo hi = true := by simpa [inB] using h
theorem inB_false {n lo hi : Int} (h : ¬ (lo ≤ n ∧ n ≤ hi)) : inB n lo hi = false := by unfold inB; simp only [h, decide_false]
abbrev Pt := Int × Int
def placeOk (p : Pt) : Bool := inR 10000 p.1 && inR 10000 p.2
def placeErr (p : Pt) : Int := if placeOk p = true then 0 else 2
def pathErr (path : List Pt) : Int := if path.length = 0 then 10 else if 30 < path.length then 8 else (fb placeErr path 0).2
def side (a b p : Pt) : Int := (b.1 - a.1) * (p.2 - a.2) - (b.2 - a.2) * (p.1 - a.1)
def btw (a n b : Int) : Bool := decide (min a b ≤ n ∧ n ≤ max a b)
def onWay (a b p : Pt) : Bool := decide (side a b p = 0) && btw a.1 p.1 b.1 && btw a.2 p.2 b.2
def cross (a b p : Pt) : Int := if a.2 ≤ p.2 ∧ p.2 < b.2 ∧ 0 < side a b p then 1 else if b.2 ≤ p.2 ∧ p.2 < a.2 ∧ side a b p < 0 then -1 else 0
def wayAt (path : List Pt) (i : Nat) : Pt × Pt := (path.getD i (0, 0), path.getD ((i + 1) % path.length) (0, 0))
def ways (path : List Pt) : List (Pt × Pt) := (List.range path.length).map (wayAt path)
def postErr (path : List Pt) (post : Pt) : Int := if placeOk post = true then (if (ways path).any (fun w => onWay w.1 w.2 post) = true then 13 else 0) else 2
def winding (path : List Pt) (post : Pt) : Int := ((ways path).map fun w => cross w.1 w.2 post).sum
def wound (path : List Pt) : List Pt → Nat → List Int
  | [], _ => []
  | p :: r, i => if winding path p = 0 then wound path r (i + 1) else (i : Int) :: wound path r (i + 1)
def postsErr (path posts : List Pt) : Int := if 10 < posts.length then 8 else (fb (postErr path) posts 0).2

theorem placeOk_iff (p : Pt) : placeOk p = true ↔ (-10000 ≤ p.1 ∧ p.1 ≤ 10000) ∧ (-10000 ≤ p.2 ∧ p.2 ≤ 10000) := by
  simp [placeOk, inR, inB]
theorem fb_ok {α : Type} (err : α → Int) (xs : List α) (i : Nat) : (fb err xs i).2 = 0 ↔ ∀ x ∈ xs, err x = 0 := by
  induction xs generalizing i with
  | nil => simp [fb]
  | cons x r ih =>
    rw [fb]
    by_cases h : err x = 0
    · rw [if_pos h, ih]; simp [h]
    · rw [if_neg h]; simp [h]
theorem pathErr_ok {path : List Pt} (h : pathErr path = 0) : 0 < path.length ∧ path.length ≤ 30 ∧ ∀ p ∈ path, placeOk p = true := by
  unfold pathErr at h
  by_cases h1 : path.length = 0
  · rw [if_pos h1] at h; omega
  · rw [if_neg h1] at h
    by_cases h2 : 30 < path.length
    · rw [if_pos h2] at h; omega
    · rw [if_neg h2] at h
      refine ⟨by omega, by omega, fun p hp => ?_⟩
      have := (fb_ok placeErr path 0).1 h p hp
      unfold placeErr at this
      by_cases hk : placeOk p = true
      · exact hk
      · rw [if_neg hk] at this; omega
/-- Of a valid way and post every number is small. -/
structure Sm (a : Pt) : Prop where
  x0 : -10000 ≤ a.1
  x1 : a.1 ≤ 10000
  y0 : -10000 ≤ a.2
  y1 : a.2 ≤ 10000
theorem Sm.of {a : Pt} (h : placeOk a = true) : Sm a := by
  have := (placeOk_iff a).1 h
  exact ⟨this.1.1, this.1.2, this.2.1, this.2.2⟩
theorem mul_bd (x y A B : Int) (hx : -A ≤ x ∧ x ≤ A) (hy : -B ≤ y ∧ y ≤ B) : -(A * B) ≤ x * y ∧ x * y ≤ A * B := by
  have hA : 0 ≤ A := by omega
  have hB : 0 ≤ B := by omega
  constructor
  · rcases Int.le_total 0 x with h | h
    · have h1 : x * y ≥ x * -B := Int.mul_le_mul_of_nonneg_left hy.1 h
      have h2 : x * B ≤ A * B := Int.mul_le_mul_of_nonneg_right hx.2 hB
      have h3 : x * -B = -(x * B) := Int.mul_neg _ _
      omega
    · have h1 : (-x) * y ≤ (-x) * B := Int.mul_le_mul_of_nonneg_left hy.2 (by omega)
      have h2 : (-x) * B ≤ A * B := Int.mul_le_mul_of_nonneg_right (by omega) hB
      rw [Int.neg_mul] at h1
      omega
  · rcases Int.le_total 0 x with h | h
    · have h1 : x * y ≤ x * B := Int.mul_le_mul_of_nonneg_left hy.2 h
      have h2 : x * B ≤ A * B := Int.mul_le_mul_of_nonneg_right hx.2 hB
      omega
    · have h1 : (-x) * -B ≤ (-x) * y := Int.mul_le_mul_of_nonneg_left hy.1 (by omega)
      have h2 : (-x) * B ≤ A * B := Int.mul_le_mul_of_nonneg_right (by omega) hB
      rw [Int.neg_mul, Int.neg_mul, Int.mul_neg] at h1
      rw [Int.neg_mul] at h2
      omega
theorem getD_eq {α : Type} (xs : List α) (k : Nat) (d : α) (h : k < xs.length) : xs.getD k d = xs[k] := by simp [h]
theorem ways_len (path : List Pt) : (ways path).length = path.length := by simp [ways]
theorem ways_at (path : List Pt) (i : Nat) (h : i < path.length) : (ways path)[i]'(by rw [ways_len]; exact h) = wayAt path i := by simp [ways]
theorem ways_sm {path : List Pt} (h : ∀ p ∈ path, placeOk p = true) : ∀ w ∈ ways path, Sm w.1 ∧ Sm w.2 := by
  intro w hw
  simp only [ways, List.mem_map, List.mem_range] at hw
  obtain ⟨i, hi, rfl⟩ := hw
  have hj : (i + 1) % path.length < path.length := Nat.mod_lt _ (by omega)
  unfold wayAt
  rw [getD_eq _ _ _ hi, getD_eq _ _ _ hj]
  exact ⟨Sm.of (h _ (List.getElem_mem _)), Sm.of (h _ (List.getElem_mem _))⟩
theorem take_sum (l : List Int) (k : Nat) (h : k < l.length) : (l.take (k + 1)).sum = (l.take k).sum + l[k] := by
  have e : l.take (k + 1) = l.take k ++ [l[k]] := List.take_succ_eq_append_getElem h
  rw [e, List.sum_append]
  simp
theorem sum_bd (l : List Int) (h : ∀ x ∈ l, -1 ≤ x ∧ x ≤ 1) : -(l.length : Int) ≤ l.sum ∧ l.sum ≤ l.length := by
  induction l with
  | nil => simp
  | cons x r ih =>
    have h1 := h x (by simp)
    have h2 := ih (fun y hy => h y (by simp [hy]))
    simp only [List.sum_cons, List.length_cons]
    omega
theorem cross_bd (a b p : Pt) : -1 ≤ cross a b p ∧ cross a b p ≤ 1 := by
  unfold cross
  split
  · omega
  · split <;> omega
end Go.Proofs.Ytegkppphaglpgaa
