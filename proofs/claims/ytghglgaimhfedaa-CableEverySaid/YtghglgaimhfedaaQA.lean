/-
  Plain mathematics of paths and posts (chapter 1, turns): what the Go functions compute, on lists of pairs of integers.
-/
namespace Go.Proofs.Ytghglgaimhfedaa

/-- The index and the error of the first item that has one. -/
def fb {α : Type} (err : α → Int) : List α → Nat → Int × Int
  | [], _ => (0, 0)
  | x :: r, i => if err x = 0 then fb err r (i + 1) else ((i : Int), err x)
theorem fb_drop {α : Type} (err : α → Int) (xs : List α) (k : Nat) (h : k < xs.length) : fb err (xs.drop k) k = if err xs[k] = 0 then fb err (xs.drop (k + 1)) (k + 1) else ((k : Int), err xs[k]) := by
  rw [List.drop_eq_getElem_cons h, fb]
theorem fb_end {α : Type} (err : α → Int) (xs : List α) (k : Nat) (h : xs.length ≤ k) : fb err (xs.drop k) k = (0, 0) := by
  rw [List.drop_of_length_le h, fb]

def inB (n lo hi : Int) : Bool := decide (lo ≤ n ∧ n ≤ hi)
def inR (m n : Int) : Bool := inB n (-m) m
theorem inB_true {n lo hi : Int} (h : lo ≤ n ∧ n ≤ hi) : inB n lo hi = true := by simpa [inB] using h
theorem inB_false {n lo hi : Int} (h : ¬ (lo ≤ n ∧ n ≤ hi)) : inB n lo hi = false := by unfold inB; simp only [h, decide_false]
abbrev Pt := Int × Int
def placeOk (p : Pt) : Bool := inR 10000 p.1 && inR 10000 p.2
def placeErr (p : Pt) : Int := if placeOk p = true then 0 else 2
def pathErr (path : List Pt) : Int := if path.length = 0 then 10 else if 30 < path.length then 8 else (fb placeErr path 0).2
def side (a b p : Pt) : Int := (b.1 - a.1) * (p.2 - a.2) - (b.2 - a.2) * (p.1 - a.1)
def btw (a n b : Int) : Bool := decide (min a b ≤ n ∧ n ≤ max a b)
def onWay (a b p : Pt) : Bool := decide (side a b p = 0) && btw a.1 p.1 b.1 && btw a.2 p.2 b.2
def cross (a b p : Pt) : Int := if a.2 ≤ p.2 ∧ p.2 < b.2 ∧ 0 < side a b p then 1 else if b.2 ≤ p.2 ∧ p.2 < a.2 ∧ side a b p < 0 then -1 else 0
def wayAt (path : List Pt) (i : Nat) : Pt × Pt := (path.getD i (0, 0), path.getD ((i + 1) % path.length) (0, 0))
def ways (path : List Pt) : List (Pt × Pt) := (List.range path.length).map (wayAt path)
def postErr (path : List Pt) (post : Pt) : Int := if placeOk post = true then (if (ways path).any (fun w => onWay w.1 w.2 post) = true then 13 else 0) else 2
def winding (path : List Pt) (post : Pt) : Int := ((ways path).map fun w => cross w.1 w.2 post).sum
def wound (path : List Pt) : List Pt → Nat → List Int
  | [], _ => []
  | p :: r, i => if winding path p = 0 then wound path r (i + 1) else (i : Int) :: wound path r (i + 1)
def postsErr (path posts : List Pt) : Int := if 10 < posts.length then 8 else (fb (postErr path) posts 0).2

theorem placeOk_iff (p : Pt) : placeOk p = true ↔ (-10000 ≤ p.1 ∧ p.1 ≤ 10000) ∧ (-10000 ≤ p.2 ∧ p.2 ≤ 10000) := by
  simp [placeOk, inR, inB]
theorem fb_ok {α : Type} (err : α → Int) (xs : List α) (i : Nat) : (fb err xs i).2 = 0 ↔ ∀ x ∈ xs, err x = 0 := by
  induction xs generalizing i with
  | nil => simp [fb]
  | cons x r ih =>
    rw [fb]
    by_cases h : err x = 0
    · rw [if_pos h, ih]; simp [h]
    · rw [if_neg h]; simp [h]
theorem pathErr_ok {path : List Pt} (h : pathErr path = 0) : 0 < path.length ∧ path.length ≤ 30 ∧ ∀ p ∈ path, placeOk p = true := by
  unfold pathErr at h
  by_cases h1 : path.length = 0
  · rw [if_pos h1] at h; omega
  · rw [if_neg h1] at h
    by_cases h2 : 30 < path.length
    · rw [if_pos h2] at h; omega
    · rw [if_neg h2] at h
      refine ⟨by omega, by omega, fun p hp => ?_⟩
      have := (fb_ok placeErr path 0).1 h p hp
      unfold placeErr at this
      by_cases hk : placeOk p = true
      · exact hk
      · rw [if_neg hk] at this; omega
/-- Of a valid way and post every number is small. -/
structure Sm (a : Pt) : Prop where
  x0 : -10000 ≤ a.1
  x1 : a.1 ≤ 10000
  y0 : -10000 ≤ a.2
  y1 : a.2 ≤ 10000
theorem Sm.of {a : Pt} (h : placeOk a = true) : Sm a := by
  have := (placeOk_iff a).1 h
  exact ⟨this.1.1, this.1.2, this.2.1, this.2.2⟩
theorem mul_bd (x y A B : Int) (hx : -A ≤ x ∧ x ≤ A) (hy : -B ≤ y ∧ y ≤ B) : -(A * B) ≤ x * y ∧ x * y ≤ A * B := by
  have hA : 0 ≤ A := by omega
  have hB : 0 ≤ B := by omega
  constructor
  · rcases Int.le_total 0 x with h | h
    · have h1 : x * y ≥ x * -B := Int.mul_le_mul_of_nonneg_left hy.1 h
      have h2 : x * B ≤ A * B := Int.mul_le_mul_of_nonneg_right hx.2 hB
      have h3 : x * -B = -(x * B) := Int.mul_neg _ _
      omega
    · have h1 : (-x) * y ≤ (-x) * B := Int.mul_le_mul_of_nonneg_left hy.2 (by omega)
      have h2 : (-x) * B ≤ A * B := Int.mul_le_mul_of_nonneg_right (by omega) hB
      rw [Int.neg_mul] at h1
      omega
  · rcases Int.le_total 0 x with h | h
    · have h1 : x * y ≤ x * B := Int.mul_le_mul_of_nonneg_left hy.2 h
      have h2 : x * B ≤ A * B := Int.mul_le_mul_of_nonneg_right hx.2 hB
      omega
    · have h1 : (-x) * -B ≤ (-x) * y := Int.mul_le_mul_of_nonneg_left hy.1 (by omega)
      have h2 : (-x) * B ≤ A * B := Int.mul_le_mul_of_nonneg_right (by omega) hB
      rw [Int.neg_mul, Int.neg_mul, Int.mul_neg] at h1
      rw [Int.neg_mul] at h2
      omega
theorem getD_eq {α : Type} (xs : List α) (k : Nat) (d : α) (h : k < xs.length) : xs.getD k d = xs[k] := by simp [h]
theorem ways_len (path : List Pt) : (ways path).length = path.length := by simp [ways]
theorem ways_at (path : List Pt) (i : Nat) (h : i < path.length) : (ways path)[i]'(by rw [ways_len]; exact h) = wayAt path i := by simp [ways]
theorem ways_sm {path : List Pt} (h : ∀ p ∈ path, placeOk p = true) : ∀ w ∈ ways path, Sm w.1 ∧ Sm w.2 := by
  intro w hw
  simp only [ways, List.mem_map, List.mem_range] at hw
  obtain ⟨i, hi, rfl⟩ := hw
  have hj : (i + 1) % path.length < path.length := Nat.mod_lt _ (by omega)
  unfold wayAt
  rw [getD_eq _ _ _ hi, getD_eq _ _ _ hj]
  exact ⟨Sm.of (h _ (List.getElem_mem _)), Sm.of (h _ (List.getElem_mem _))⟩
theorem take_sum (l : List Int) (k : Nat) (h : k < l.length) : (l.take (k + 1)).sum = (l.take k).sum + l[k] := by
  have e : l.take (k + 1) = l.take k ++ [l[k]] := List.take_succ_eq_append_getElem h
  rw [e, List.sum_append]
  simp
theorem sum_bd (l : List Int) (h : ∀ x ∈ l, -1 ≤ x ∧ x ≤ 1) : -(l.length : Int) ≤ l.sum ∧ l.sum ≤ l.length := by
  induction l with
  | nil => simp
  | cons x r ih =>
    have h1 := h x (by simp)
    have h2 := ih (fun y hy => h y (by simp [hy]))
    simp only [List.sum_cons, List.length_cons]
    omega
theorem cross_bd (a b p : Pt) : -1 ≤ cross a b p ∧ cross a b p ≤ 1 := by
  unfold cross
  split
  · omega
  · split <;> omega
end Go.Proofs.Ytghglgaimhfedaa

namespace Go.Proofs.Ytghglgaimhfedaa

abbrev Lk := Int × Int × Int
structure Ln where
  x : Int
  z : Int
  ks : List Lk
def linkErr (k : Lk) : Int := if 1 ≤ k.1 ∧ k.1 ≤ 1000 ∧ -1000 ≤ k.2.1 ∧ k.2.1 ≤ 1000 ∧ 0 ≤ k.2.2 ∧ k.2.2 ≤ 20 then 0 else 2
def checkLine (l : Ln) : Int × Int :=
  if inR 10000 l.x = true ∧ inR 10000 l.z = true then (if l.ks.length = 0 then (0, 10) else if 10 < l.ks.length then (0, 8) else fb linkErr l.ks 0) else (0, 2)
def lineErr (l : Ln) : Int := (checkLine l).2
def curErr (c : Int) : Int := if inR 50 c = true then 0 else 2
def cursErr (l : Ln) (c : List Int) : Int := if c.length = l.ks.length then (fb curErr c 0).2 else 10
def currentsErr (l : Ln) (c : List Int) : Int := if lineErr l = 0 then cursErr l c else lineErr l
def rangeErr (m : Int) (r : Int × Int) : Int := if inR m r.1 = true ∧ inR m r.2 = true then (if r.2 < r.1 then 9 else 0) else 2
/-- The index and the error of a box of a valid line. -/
def boxErr1 (l : Ln) (b : List (Int × Int)) : Int × Int := if b.length = l.ks.length then fb (rangeErr 50) b 0 else (0, 10)
def checkBox (l : Ln) (b : List (Int × Int)) : Int × Int := if lineErr l = 0 then boxErr1 l b else checkLine l
def boxErr (l : Ln) (b : List (Int × Int)) : Int := (checkBox l b).2
/-- Z of each tension. -/
def zsF (z : Int) : List Lk → List Int
  | [] => []
  | k :: r => (z + k.2.1) :: zsF (z + k.2.1) r
def zs (l : Ln) : List Int := zsF l.z l.ks
def slackF : List Int → Nat → List Int
  | [], _ => []
  | z :: r, i => if z ≤ 0 then (i : Int) :: slackF r (i + 1) else slackF r (i + 1)
def slack (l : Ln) : List Int := slackF (zs l) 0
def slackErr (l : Ln) : Int := if (zs l).any (fun z => decide (z ≤ 0)) = true then 21 else 0
def minF (m : Int) : List Int → Int
  | [] => m
  | z :: r => minF (min m z) r
def least (l : Ln) : Int := l.z - minF ((zs l).headD 0) (zs l) + 1
/-- The pull of a link: the link, the range of X, Z. -/
structure Pl where
  h : Int
  wt : Int
  d : Int
  lo : Int
  hi : Int
  z : Int
def pullsF (lo hi z : Int) : List Lk → List (Int × Int) → List Pl
  | k :: ks, r :: b => ⟨k.1, k.2.1, k.2.2, lo + k.2.2 * r.1, hi + k.2.2 * r.2, z + k.2.1⟩ :: pullsF (lo + k.2.2 * r.1) (hi + k.2.2 * r.2) (z + k.2.1) ks b
  | _, _ => []
def pulls (l : Ln) (b : List (Int × Int)) : List Pl := pullsF l.x l.x l.z l.ks b
def still (c : List Int) : List (Int × Int) := c.map fun n => (n, n)
def tensions (l : Ln) (c : List Int) : List (Int × Int) := (pulls l (still c)).map fun p => (p.lo, p.z)

/-- What a valid line gives. -/
structure LnOk (l : Ln) : Prop where
  x0 : -10000 ≤ l.x
  x1 : l.x ≤ 10000
  z0 : -10000 ≤ l.z
  z1 : l.z ≤ 10000
  n0 : 0 < l.ks.length
  n1 : l.ks.length ≤ 10
  ok : ∀ k ∈ l.ks, 1 ≤ k.1 ∧ k.1 ≤ 1000 ∧ -1000 ≤ k.2.1 ∧ k.2.1 ≤ 1000 ∧ 0 ≤ k.2.2 ∧ k.2.2 ≤ 20
theorem inR_iff {m n : Int} : inR m n = true ↔ -m ≤ n ∧ n ≤ m := by simp [inR, inB]
theorem lineErr_ok {l : Ln} (h : lineErr l = 0) : LnOk l := by
  unfold lineErr checkLine at h
  by_cases h1 : inR 10000 l.x = true ∧ inR 10000 l.z = true
  · rw [if_pos h1] at h
    obtain ⟨ha, hb⟩ := h1
    rw [inR_iff] at ha hb
    by_cases h2 : l.ks.length = 0
    · rw [if_pos h2] at h; simp at h
    · rw [if_neg h2] at h
      by_cases h3 : 10 < l.ks.length
      · rw [if_pos h3] at h; simp at h
      · rw [if_neg h3] at h
        refine ⟨ha.1, ha.2, hb.1, hb.2, by omega, by omega, fun k hk => ?_⟩
        have := (fb_ok linkErr l.ks 0).1 h k hk
        unfold linkErr at this
        by_cases hc : 1 ≤ k.1 ∧ k.1 ≤ 1000 ∧ -1000 ≤ k.2.1 ∧ k.2.1 ≤ 1000 ∧ 0 ≤ k.2.2 ∧ k.2.2 ≤ 20
        · exact hc
        · rw [if_neg hc] at this; omega
  · rw [if_neg h1] at h; simp at h
theorem checkLine_ok {l : Ln} (h : lineErr l = 0) : checkLine l = (0, 0) := by
  have hk := lineErr_ok h
  unfold lineErr checkLine at h
  unfold checkLine
  rw [if_pos ⟨inR_iff.2 ⟨hk.x0, hk.x1⟩, inR_iff.2 ⟨hk.z0, hk.z1⟩⟩, if_neg (by have := hk.n0; omega), if_neg (by have := hk.n1; omega)] at h ⊢
  have h1 := (fb_ok linkErr l.ks 0).1 h
  have : ∀ (xs : List Lk) (i : Nat), (∀ x ∈ xs, linkErr x = 0) → fb linkErr xs i = (0, 0) := by
    intro xs
    induction xs with
    | nil => intro i _; rfl
    | cons x r ih => intro i hx; rw [fb, if_pos (hx x (by simp))]; exact ih _ (fun y hy => hx y (by simp [hy]))
  exact this _ _ h1
theorem fb_zero {α : Type} (err : α → Int) (xs : List α) (i : Nat) (h : (fb err xs i).2 = 0) : fb err xs i = (0, 0) := by
  induction xs generalizing i with
  | nil => rfl
  | cons x r ih =>
    rw [fb] at h ⊢
    by_cases hx : err x = 0
    · rw [if_pos hx] at h ⊢; exact ih _ h
    · rw [if_neg hx] at h; exact absurd h hx
structure BoxOk (l : Ln) (b : List (Int × Int)) : Prop where
  len : b.length = l.ks.length
  ok : ∀ r ∈ b, -50 ≤ r.1 ∧ r.1 ≤ r.2 ∧ r.2 ≤ 50
theorem boxErr1_ok {l : Ln} {b : List (Int × Int)} (h : (boxErr1 l b).2 = 0) : BoxOk l b := by
  unfold boxErr1 at h
  by_cases h1 : b.length = l.ks.length
  · rw [if_pos h1] at h
    refine ⟨h1, fun r hr => ?_⟩
    have := (fb_ok _ b 0).1 h r hr
    unfold rangeErr at this
    by_cases hc : inR 50 r.1 = true ∧ inR 50 r.2 = true
    · rw [if_pos hc] at this
      obtain ⟨ha, hb⟩ := hc
      rw [inR_iff] at ha hb
      by_cases hd : r.2 < r.1
      · rw [if_pos hd] at this; omega
      · exact ⟨ha.1, by omega, hb.2⟩
    · rw [if_neg hc] at this; omega
  · rw [if_neg h1] at h; simp at h
theorem boxErr_ok {l : Ln} {b : List (Int × Int)} (h : boxErr l b = 0) : lineErr l = 0 ∧ (boxErr1 l b).2 = 0 := by
  unfold boxErr checkBox at h
  by_cases h1 : lineErr l = 0
  · rw [if_pos h1] at h; exact ⟨h1, h⟩
  · rw [if_neg h1] at h; exact absurd h h1
theorem cursErr_ok {l : Ln} {c : List Int} (h : cursErr l c = 0) : BoxOk l (still c) := by
  unfold cursErr at h
  by_cases h1 : c.length = l.ks.length
  · rw [if_pos h1] at h
    refine ⟨by simp [still, h1], fun r hr => ?_⟩
    simp only [still, List.mem_map] at hr
    obtain ⟨n, hn, rfl⟩ := hr
    have := (fb_ok _ c 0).1 h n hn
    unfold curErr at this
    by_cases hc : inR 50 n = true
    · have := inR_iff.1 hc; exact ⟨this.1, Int.le_refl _, this.2⟩
    · rw [if_neg hc] at this; omega
  · rw [if_neg h1] at h; omega
theorem pullsF_len (lo hi z : Int) (ks : List Lk) (b : List (Int × Int)) (h : b.length = ks.length) : (pullsF lo hi z ks b).length = ks.length := by
  induction ks generalizing lo hi z b with
  | nil => cases b <;> rfl
  | cons k r ih =>
    cases b with
    | nil => simp at h
    | cons q b => simp [pullsF, ih _ _ _ b (by simpa using h)]
theorem zsF_len (z : Int) (ks : List Lk) : (zsF z ks).length = ks.length := by
  induction ks generalizing z with
  | nil => rfl
  | cons k r ih => simp [zsF, ih]
/-- Each link in turn: the pull of the link i, out of that of the one below. -/
theorem pullsF_at (lo hi z : Int) (ks : List Lk) (b : List (Int × Int)) (h : b.length = ks.length) (i : Nat) (hi' : i < ks.length) :
    (pullsF lo hi z ks b)[i]? = some ⟨ks[i].1, ks[i].2.1, ks[i].2.2,
      (((lo, hi, z) :: (pullsF lo hi z ks b).map fun p => (p.lo, p.hi, p.z)).getD i (0, 0, 0)).1 + ks[i].2.2 * (b.getD i (0, 0)).1,
      (((lo, hi, z) :: (pullsF lo hi z ks b).map fun p => (p.lo, p.hi, p.z)).getD i (0, 0, 0)).2.1 + ks[i].2.2 * (b.getD i (0, 0)).2,
      (((lo, hi, z) :: (pullsF lo hi z ks b).map fun p => (p.lo, p.hi, p.z)).getD i (0, 0, 0)).2.2 + ks[i].2.1⟩ := by
  induction ks generalizing lo hi z b i with
  | nil => simp at hi'
  | cons k r ih =>
    cases b with
    | nil => simp at h
    | cons q b =>
      cases i with
      | zero => simp [pullsF]
      | succ i =>
        have := ih (lo + k.2.2 * q.1) (hi + k.2.2 * q.2) (z + k.2.1) b (by simpa using h) i (by simpa using hi')
        simp only [pullsF, List.getElem?_cons_succ, List.map_cons, List.getElem_cons_succ, List.getD_cons_succ]
        exact this
theorem mulz (d n : Int) (h0 : 0 ≤ d) (h1 : d ≤ 20) (h2 : -50 ≤ n) (h3 : n ≤ 50) : -1000 ≤ d * n ∧ d * n ≤ 1000 := by
  have := mul_bd d n 20 50 (by omega) (by omega); omega
theorem pullsF_bd (B : Int) (lo hi z : Int) (ks : List Lk) (b : List (Int × Int)) (hlo : -B ≤ lo ∧ lo ≤ B) (hhi : -B ≤ hi ∧ hi ≤ B) (hz : -B ≤ z ∧ z ≤ B) (hk : ∀ k ∈ ks, 1 ≤ k.1 ∧ k.1 ≤ 1000 ∧ -1000 ≤ k.2.1 ∧ k.2.1 ≤ 1000 ∧ 0 ≤ k.2.2 ∧ k.2.2 ≤ 20)
    (hb : ∀ r ∈ b, -50 ≤ r.1 ∧ r.1 ≤ r.2 ∧ r.2 ≤ 50) : ∀ p ∈ pullsF lo hi z ks b, 1 ≤ p.h ∧ p.h ≤ 1000 ∧ (-(B + 1000 * ks.length) ≤ p.lo ∧ p.lo ≤ B + 1000 * ks.length) ∧ (-(B + 1000 * ks.length) ≤ p.hi ∧ p.hi ≤ B + 1000 * ks.length) ∧ (-(B + 1000 * ks.length) ≤ p.z ∧ p.z ≤ B + 1000 * ks.length) := by
  induction ks generalizing B lo hi z b with
  | nil => intro p hp; cases b <;> simp [pullsF] at hp
  | cons k r ih =>
    cases b with
    | nil => intro p hp; simp [pullsF] at hp
    | cons q b =>
      have k0 := hk k (by simp)
      have b0 := hb q (by simp)
      have m1 := mulz k.2.2 q.1 (by omega) (by omega) (by omega) (by omega)
      have m2 := mulz k.2.2 q.2 (by omega) (by omega) (by omega) (by omega)
      intro p hp
      simp only [pullsF, List.mem_cons] at hp
      rcases hp with rfl | hp
      · simp only [List.length_cons]; refine ⟨by omega, by omega, ⟨by omega, by omega⟩, ⟨by omega, by omega⟩, by omega, by omega⟩
      · have := ih (B + 1000) _ _ _ b (by omega) (by omega) (by omega) (fun k' hk' => hk k' (by simp [hk'])) (fun r' hr' => hb r' (by simp [hr'])) p hp
        simp only [List.length_cons]
        refine ⟨by omega, by omega, ⟨by omega, by omega⟩, ⟨by omega, by omega⟩, by omega, by omega⟩
/-- Of a valid line and box each pull is small. -/
structure PlOk (p : Pl) : Prop where
  h0 : 1 ≤ p.h
  h1 : p.h ≤ 1000
  l0 : -20000 ≤ p.lo
  l1 : p.lo ≤ 20000
  u0 : -20000 ≤ p.hi
  u1 : p.hi ≤ 20000
  z0 : -20000 ≤ p.z
  z1 : p.z ≤ 20000
theorem pulls_ok {l : Ln} {b : List (Int × Int)} (hl : LnOk l) (hb : BoxOk l b) : ∀ p ∈ pulls l b, PlOk p := by
  intro p hp
  have := pullsF_bd 10000 l.x l.x l.z l.ks b ⟨by have := hl.x0; omega, hl.x1⟩ ⟨by have := hl.x0; omega, hl.x1⟩ ⟨by have := hl.z0; omega, hl.z1⟩ hl.ok hb.ok p hp
  have hn := hl.n1
  exact ⟨this.1, this.2.1, by omega, by omega, by omega, by omega, by omega, by omega⟩
theorem zsF_bd (B z : Int) (ks : List Lk) (hz : -B ≤ z ∧ z ≤ B) (hk : ∀ k ∈ ks, 1 ≤ k.1 ∧ k.1 ≤ 1000 ∧ -1000 ≤ k.2.1 ∧ k.2.1 ≤ 1000 ∧ 0 ≤ k.2.2 ∧ k.2.2 ≤ 20) : ∀ n ∈ zsF z ks, -(B + 1000 * ks.length) ≤ n ∧ n ≤ B + 1000 * ks.length := by
  induction ks generalizing B z with
  | nil => intro n hn; simp [zsF] at hn
  | cons k r ih =>
    have k0 := hk k (by simp)
    intro n hn
    simp only [zsF, List.mem_cons] at hn
    simp only [List.length_cons]
    rcases hn with rfl | hn
    · omega
    · have := ih (B + 1000) _ (by omega) (fun k' hk' => hk k' (by simp [hk'])) n hn
      omega
theorem zs_bd {l : Ln} (hl : LnOk l) : ∀ n ∈ zs l, -20000 ≤ n ∧ n ≤ 20000 := by
  intro n hn
  have := zsF_bd 10000 l.z l.ks ⟨by have := hl.z0; omega, hl.z1⟩ hl.ok n hn
  have := hl.n1
  omega
theorem zsF_at (z : Int) (ks : List Lk) (i : Nat) (h : i < ks.length) : (zsF z ks)[i]? = some ((z :: zsF z ks).getD i 0 + ks[i].2.1) := by
  induction ks generalizing z i with
  | nil => simp at h
  | cons k r ih =>
    cases i with
    | zero => simp [zsF]
    | succ i =>
      simp only [zsF, List.getElem?_cons_succ, List.getElem_cons_succ, List.getD_cons_succ]
      exact ih _ _ (by simpa using h)
end Go.Proofs.Ytghglgaimhfedaa
