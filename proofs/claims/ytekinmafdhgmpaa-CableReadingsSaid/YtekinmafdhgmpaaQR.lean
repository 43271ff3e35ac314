/-
  Readings of chapter 1: plain mathematics, and walks of the distances of readings.
-/
import Derived.Test.YtekinmafdhgmpaaZOa
import Derived.Test.YtekinmafdhgmpaaQN
import Derived.Laws.Cover1
namespace Go.Proofs.Ytekinmafdhgmpaa
open Go.RowKit Go.Shelf
attribute [local go_sem] monoUpon_value monoUpon_skip monoUpon_enter

abbrev Rd := Int × Int × Int
def distR (a b : Int × Int) : Int := max (a.1 - b.2) (b.1 - a.2)
def apartR (a b : Int × Int) : Int := max 0 (distR a b)
def rdErr (n : Nat) (x : Rd) : Int := if 0 ≤ x.1 ∧ x.1 < (n : Int) then rangeErr 20000 x.2 else 6
def rdsErr (l : Ln) (r : List Rd) : Int := if 12 < r.length then 8 else (fb (rdErr l.ks.length) r 0).2
def readingsErr (l : Ln) (b : List (Int × Int)) (r : List Rd) : Int := if boxErr l b = 0 then rdsErr l r else boxErr l b
def loadD (l : Ln) (b : List (Int × Int)) (x : Rd) : Int := distR (carr l.ks b (l.x, l.x) 0 (x.1 + 1).toNat) x.2
def pairD (l : Ln) (b : List (Int × Int)) (lo hi : Rd) : Int := distR (carr l.ks b lo.2 (lo.1 + 1).toNat (hi.1 - lo.1).toNat) hi.2
def twoD (l : Ln) (b : List (Int × Int)) (x y : Rd) : Int := if y.1 < x.1 then pairD l b y x else pairD l b x y
/-- What a valid reading gives. -/
structure RdOk (n : Nat) (x : Rd) : Prop where
  k0 : 0 ≤ x.1
  k1 : x.1 < n
  lo : -20000 ≤ x.2.1
  le : x.2.1 ≤ x.2.2
  hi : x.2.2 ≤ 20000
theorem rdErr_ok {n : Nat} {x : Rd} (h : rdErr n x = 0) : RdOk n x := by
  unfold rdErr at h
  by_cases h1 : 0 ≤ x.1 ∧ x.1 < (n : Int)
  · rw [if_pos h1] at h
    unfold rangeErr at h
    by_cases h2 : inR 20000 x.2.1 = true ∧ inR 20000 x.2.2 = true
    · rw [if_pos h2] at h
      rw [inR_iff, inR_iff] at h2
      by_cases h3 : x.2.2 < x.2.1
      · rw [if_pos h3] at h; omega
      · exact ⟨h1.1, h1.2, h2.1.1, by omega, h2.2.2⟩
    · rw [if_neg h2] at h; omega
  · rw [if_neg h1] at h; omega
theorem rdsErr_ok {l : Ln} {r : List Rd} (h : rdsErr l r = 0) : r.length ≤ 12 ∧ ∀ x ∈ r, RdOk l.ks.length x := by
  unfold rdsErr at h
  by_cases h1 : 12 < r.length
  · rw [if_pos h1] at h; omega
  · rw [if_neg h1] at h
    exact ⟨by omega, fun x hx => rdErr_ok ((fb_ok _ r 0).1 h x hx)⟩
set_option maxHeartbeats 1000000 in
theorem apart_any (a b : Int × Int) (w : World) (h1 : -1000000 ≤ a.1 ∧ a.1 ≤ 1000000) (h2 : -1000000 ≤ a.2 ∧ a.2 ≤ 1000000) (h3 : -1000000 ≤ b.1 ∧ b.1 ≤ 1000000) (h4 : -1000000 ≤ b.2 ∧ b.2 ≤ 1000000) :
    Calls Try.prog 103 #[.agg #[.int .i64 a.1, .int .i64 a.2], .agg #[.int .i64 b.1, .int .i64 b.2]] w fun e w' => e = .returned (.int .i64 (apartR a b)) ∧ Below w.heap.size w w' := by
  have hw1 : IntKind.i64.wrap (a.1 - b.2) = a.1 - b.2 := IntWalk.i64_in _ (by omega)
  have hw2 : IntKind.i64.wrap (b.1 - a.2) = b.1 - a.2 := IntWalk.i64_in _ (by omega)
  have E : Hid (apartR a b = max 0 (max (a.1 - b.2) (b.1 - a.2))) := rfl
  obtain ⟨a1, a2⟩ := a
  obtain ⟨b1, b2⟩ := b
  simp only at *
  clear h1 h2 h3 h4
  by_cases c1 : 0 < a1 - b2
  · go_enter Try.func103, Try.ntmps103
    go_wp2_with fail
    all_goals
      go_ret
      exact ⟨ret_int (by have := E.out; omega), (by repeat (first | assumption | exact Below.refl _ _ | refine below_al ?_ _ | refine below_dr ?_ | refine below_tr ?_ (by assumption)))⟩
  · go_enter Try.func103, Try.ntmps103
    go_wp2_with fail
    all_goals
      go_ret
      exact ⟨ret_int (by have := E.out; omega), (by repeat (first | assumption | exact Below.refl _ _ | refine below_al ?_ _ | refine below_dr ?_ | refine below_tr ?_ (by assumption)))⟩
end Go.Proofs.Ytekinmafdhgmpaa

namespace Go.Proofs.Ytekinmafdhgmpaa
open Go.RowKit Go.Shelf
attribute [local go_sem] monoUpon_value monoUpon_skip monoUpon_enter

theorem carr_rd {l : Ln} {b : List (Int × Int)} (hl : LnOk l) (hb : BoxOk l b) (x : Int × Int) (hx : (-20000 ≤ x.1 ∧ x.1 ≤ 20000) ∧ (-20000 ≤ x.2 ∧ x.2 ≤ 20000)) (i n : Nat) (h : i + n ≤ l.ks.length) :
    (-1000000 ≤ (carr l.ks b x i n).1 ∧ (carr l.ks b x i n).1 ≤ 1000000) ∧ (-1000000 ≤ (carr l.ks b x i n).2 ∧ (carr l.ks b x i n).2 ≤ 1000000) := by
  have := carr_bd hl hb x 20000 hx i n h
  have := hl.n1
  omega
set_option maxRecDepth 100000 in
set_option maxHeartbeats 4000000 in
theorem apartFromLoad_any (v vb : Value) (l : Ln) (b : List (Int × Int)) (x : Rd) (w : World) (hs : Sl e3 3 w v l.ks) (hu : Sl e2 2 w vb b) (hl : LnOk l) (hb : BoxOk l b) (hx : RdOk l.ks.length x) :
    Calls Try.prog 55 #[.agg #[.int .i64 l.x, .int .i64 l.z, v], vb, .agg #[.int .i64 x.1, .int .i64 x.2.1, .int .i64 x.2.2]] w fun e w' => e = .returned (.int .i64 (max 0 (loadD l b x))) ∧ Below w.heap.size w w' := by
  have HS := Lib.hid hs
  have HU := Lib.hid hu
  obtain ⟨A, c, rfl, _⟩ := hs.form
  obtain ⟨A', c', rfl, _⟩ := hu.form
  have hx0 := hx.k0
  have hx1 := hx.k1
  have hn1 := hl.n1
  have hn : (0 : Nat) + (x.1 + 1).toNat ≤ l.ks.length := by omega
  have HCR := Lib.hid (fun W (h1 : Sl e3 3 W (.slice A l.ks.length c) l.ks) (h2 : Sl e2 2 W (.slice A' b.length c') b) => carried_any _ _ l b (l.x, l.x) 0 (x.1 + 1).toNat (x.1 + 1) (by omega) W h1 h2 hl hb (by have := hl.x0; have := hl.x1; simp only; omega) hn)
  have hbd := carr_rd hl hb (l.x, l.x) (by have := hl.x0; have := hl.x1; simp only; omega) 0 _ hn
  have E : Hid (max 0 (loadD l b x) = apartR (carr l.ks b (l.x, l.x) 0 (x.1 + 1).toNat) x.2) := rfl
  generalize carr l.ks b (l.x, l.x) 0 (x.1 + 1).toNat = q at *
  have HAP := Lib.hid (fun W => apart_any q x.2 W hbd.1 hbd.2 (by have := hx.lo; have := hx.le; have := hx.hi; omega) (by have := hx.lo; have := hx.le; have := hx.hi; omega))
  have hw1 : IntKind.i64.wrap (x.1 + 1) = x.1 + 1 := IntWalk.i64_in _ (by omega)
  clear hs hu hl hb hx hbd
  obtain ⟨x0, x1, x2⟩ := x
  obtain ⟨q1, q2⟩ := q
  simp only at *
  go_enter Try.func55, Try.ntmps55
  go_wp2_with fail
  obtain ⟨W0, hW0⟩ : ∃ W0, W0 = ((w.alloc (.cells #[.int .i64 l.x, .int .i64 l.z, .slice A l.ks.length c] 125)).alloc (.cells #[.int .i64 x0, .int .i64 x1, .int .i64 x2] 63)).alloc (.cells #[.int .i64 l.x, .int .i64 l.x] 56) := ⟨_, rfl⟩
  rw [← hW0]
  have HX : Hid (∀ W, Below W0.drew.heap.size W0.drew W → (W.cell? ⟨w.heap.size, 0, none⟩ = some (.int .i64 l.x) ∧ W.cell? ⟨w.heap.size, 1, none⟩ = some (.int .i64 l.z) ∧ W.cell? ⟨w.heap.size, 2, none⟩ = some (.slice A l.ks.length c)) ∧
      (W.cell? ⟨w.heap.size + 1, 0, none⟩ = some (.int .i64 x0) ∧ W.cell? ⟨w.heap.size + 1, 1, none⟩ = some (.int .i64 x1) ∧ W.cell? ⟨w.heap.size + 1, 2, none⟩ = some (.int .i64 x2)) ∧
      (W.cell? ⟨w.heap.size + 1 + 1, 0, none⟩ = some (.int .i64 l.x) ∧ W.cell? ⟨w.heap.size + 1 + 1, 1, none⟩ = some (.int .i64 l.x)) ∧ Sl e3 3 W (.slice A l.ks.length c) l.ks ∧ Sl e2 2 W (.slice A' b.length c') b ∧ Below w.heap.size w W) := by
    intro W h
    have hb0 : Below w.heap.size w W0 := by rw [hW0]; exact below_al (below_al (below_alloc1 _ _) _) _
    have hb : Below w.heap.size w W := below_tr hb0 (Below.trans (Below.drew (Below.refl _ _)) h)
    rw [hW0] at h
    have bx := fun j v hv => (((At.new w #[.int .i64 l.x, .int .i64 l.z, .slice A l.ks.length c] 125 j v hv).al _).al _).drew.below h
    have by' := fun j v hv => ((At.new (w.alloc (.cells #[.int .i64 l.x, .int .i64 l.z, .slice A l.ks.length c] 125)) #[.int .i64 x0, .int .i64 x1, .int .i64 x2] 63 j v hv).al _).drew.below h
    have bz := fun j v hv => (At.new ((w.alloc (.cells #[.int .i64 l.x, .int .i64 l.z, .slice A l.ks.length c] 125)).alloc (.cells #[.int .i64 x0, .int .i64 x1, .int .i64 x2] 63)) #[.int .i64 l.x, .int .i64 l.x] 56 j v hv).drew.below h
    exact ⟨⟨(bx 0 _ rfl).1, (bx 1 _ rfl).1, (bx 2 _ rfl).1⟩, ⟨by simpa using (by' 0 _ rfl).1, by simpa using (by' 1 _ rfl).1, by simpa using (by' 2 _ rfl).1⟩, ⟨by simpa using (bz 0 _ rfl).1, by simpa using (bz 1 _ rfl).1⟩, HS.out.below hb, HU.out.below hb, hb⟩
  clear hW0
  refine wp_region_mono 10 [17, 18, 19, 20, 21, 22, 23, 24, 25, 26] [[], [], [], [2], [3], [], [0, 1, 4, 5], [], [7], [6, 8]] [fun v _ => v = .agg #[.int .i64 l.x, .int .i64 l.z, .slice A l.ks.length c], fun v _ => v = .agg #[.int .i64 l.x, .int .i64 l.x], fun v _ => v = .pointer (some ⟨w.heap.size + 1, 0, none⟩), fun v _ => v = .int .i64 x0, fun v _ => v = .int .i64 (x0 + 1), fun v _ => v = .slice A' b.length c', fun v _ => v = .agg #[.int .i64 q1, .int .i64 q2], fun v _ => v = .pointer (some ⟨w.heap.size + 1, 1, none⟩), fun v _ => v = .agg #[.int .i64 x1, .int .i64 x2], fun v _ => v = .int .i64 (apartR (q1, q2) (x1, x2))] (by kernel_rfl) (by kernel_rfl) ⟨st_eq _, st_eq _, st_eq _, st_eq _, st_eq _, st_eq _, st_eq _, st_eq _, st_eq _, st_eq _, trivial⟩ ?_ ?_
  · simp only [List.take_succ_cons, List.take_zero, steps, and_true]
    refine ⟨?_, ?_, ?_, ?_, ?_, ?_, ?_, ?_, ?_, ?_⟩
    · intro x W hB _; simp only [putX, setX, List.foldl_cons, List.foldl_nil]; obtain ⟨⟨c0, c1, c2⟩, _⟩ := HX.out W hB; refine ⟨?_⟩; go_simp; exact ⟨rfl, Below.refl _ _⟩
    · intro x W hB _; simp only [putX, setX, List.foldl_cons, List.foldl_nil]; obtain ⟨_, _, ⟨c0, c1⟩, _⟩ := HX.out W hB; refine ⟨?_⟩; go_simp; exact ⟨rfl, Below.refl _ _⟩
    · intro x W hB _; simp only [putX, setX, List.foldl_cons, List.foldl_nil]; refine ⟨?_⟩; go_simp; exact ⟨rfl, Below.refl _ _⟩
    · intro x W hB hN; simp only [needs, sAt, dAt] at hN; simp only [putX, setX, List.foldl_cons, List.foldl_nil]; obtain ⟨_, ⟨c0, c1, c2⟩, _⟩ := HX.out W hB; refine ⟨?_⟩; go_simp; exact ⟨rfl, Below.refl _ _⟩
    · intro x W hB hN; simp only [needs, sAt, dAt] at hN; simp only [putX, setX, List.foldl_cons, List.foldl_nil]; refine ⟨?_⟩; go_simp; exact ⟨rfl, Below.refl _ _⟩
    · intro x W hB _; simp only [putX, setX, List.foldl_cons, List.foldl_nil]; refine ⟨?_⟩; go_simp; exact ⟨rfl, Below.refl _ _⟩
    · intro x W hB hN; simp only [needs, sAt, dAt] at hN; simp only [putX, setX, List.foldl_cons, List.foldl_nil]; refine ⟨?_⟩; go_simp; refine (HCR.out _ (HX.out W hB).2.2.2.1 (HX.out W hB).2.2.2.2.1).mono ?_; rintro e w' ⟨rfl, b1⟩; exact ⟨_, rfl, rfl, b1⟩
    · intro x W hB _; simp only [putX, setX, List.foldl_cons, List.foldl_nil]; refine ⟨?_⟩; go_simp; exact ⟨rfl, Below.refl _ _⟩
    · intro x W hB hN; simp only [needs, sAt, dAt] at hN; simp only [putX, setX, List.foldl_cons, List.foldl_nil]; obtain ⟨_, ⟨c0, c1, c2⟩, _⟩ := HX.out W hB; refine ⟨?_⟩; go_simp; exact ⟨rfl, Below.refl _ _⟩
    · intro x W hB hN; simp only [needs, sAt, dAt] at hN; simp only [putX, setX, List.foldl_cons, List.foldl_nil]; refine ⟨?_⟩; go_simp; refine (HAP.out _).mono ?_; rintro e w' ⟨rfl, b1⟩; exact ⟨_, rfl, rfl, b1⟩
  · intro x W hB hA
    simp only [allSp] at hA
    have s1 := hA.2.2.2.2.2.2.2.2.2.1
    have hb := (HX.out W hB).2.2.2.2.2
    clear hA hB HX
    simp only [putX, setX, List.foldl_cons, List.foldl_nil, List.drop_succ_cons, List.drop_zero]
    go_wp2_with fail
    go_ret
    exact ⟨ret_int E.out.symm, hb⟩
set_option maxRecDepth 100000 in
set_option maxHeartbeats 8000000 in
theorem apartFromEachOther_any (v vb : Value) (l : Ln) (b : List (Int × Int)) (x y : Rd) (w : World) (hs : Sl e3 3 w v l.ks) (hu : Sl e2 2 w vb b) (hl : LnOk l) (hb : BoxOk l b) (hx : RdOk l.ks.length x) (hy : RdOk l.ks.length y) :
    Calls Try.prog 56 #[.agg #[.int .i64 l.x, .int .i64 l.z, v], vb, .agg #[.int .i64 x.1, .int .i64 x.2.1, .int .i64 x.2.2], .agg #[.int .i64 y.1, .int .i64 y.2.1, .int .i64 y.2.2]] w fun e w' => e = .returned (.int .i64 (max 0 (twoD l b x y))) ∧ Below w.heap.size w w' := by
  have HS := Lib.hid hs
  have HU := Lib.hid hu
  obtain ⟨A, c, rfl, _⟩ := hs.form
  obtain ⟨A', c', rfl, _⟩ := hu.form
  have hx0 := hx.k0
  have hx1 := hx.k1
  have hy0 := hy.k0
  have hy1 := hy.k1
  have hn1 := hl.n1
  have key : ∀ lo hi : Rd, RdOk l.ks.length lo → RdOk l.ks.length hi → lo.1 ≤ hi.1 → ∃ q1 q2 : Int, max 0 (pairD l b lo hi) = apartR (q1, q2) hi.2 ∧
      Hid (∀ W, Sl e3 3 W (.slice A l.ks.length c) l.ks → Sl e2 2 W (.slice A' b.length c') b → Calls Try.prog 104 #[.agg #[.int .i64 l.x, .int .i64 l.z, .slice A l.ks.length c], .agg #[.int .i64 lo.2.1, .int .i64 lo.2.2], .int .i64 (lo.1 + 1), .int .i64 (hi.1 + 1), .slice A' b.length c'] W fun e w' => e = .returned (.agg #[.int .i64 q1, .int .i64 q2]) ∧ Below W.heap.size W w') ∧
      Hid (∀ W, Calls Try.prog 103 #[.agg #[.int .i64 q1, .int .i64 q2], .agg #[.int .i64 hi.2.1, .int .i64 hi.2.2]] W fun e w' => e = .returned (.int .i64 (apartR (q1, q2) hi.2)) ∧ Below W.heap.size W w') := by
    intro lo hi h1 h2 h3
    have a0 := h1.k0
    have a1 := h2.k1
    have hn : (lo.1 + 1).toNat + (hi.1 - lo.1).toNat ≤ l.ks.length := by omega
    have hbd := carr_rd hl hb lo.2 (by have := h1.lo; have := h1.le; have := h1.hi; omega) _ _ hn
    have HCR := fun W k1 k2 => carried_any (.slice A l.ks.length c) (.slice A' b.length c') l b lo.2 (lo.1 + 1).toNat (hi.1 - lo.1).toNat (hi.1 + 1) (by omega) W k1 k2 hl hb (by have := h1.lo; have := h1.le; have := h1.hi; omega) hn
    rw [show (((lo.1 + 1).toNat : Nat) : Int) = lo.1 + 1 by omega] at HCR
    exact ⟨_, _, rfl, HCR, fun W => apart_any _ hi.2 W hbd.1 hbd.2 (by have := h2.lo; have := h2.le; have := h2.hi; omega) (by have := h2.lo; have := h2.le; have := h2.hi; omega)⟩
  have hw1 : IntKind.i64.wrap (x.1 + 1) = x.1 + 1 := IntWalk.i64_in _ (by omega)
  have hw2 : IntKind.i64.wrap (y.1 + 1) = y.1 + 1 := IntWalk.i64_in _ (by omega)
  by_cases hc : y.1 < x.1
  · obtain ⟨q1, q2, E0, HCR, HAP⟩ := key y x hy hx (by omega)
    have E : Hid (max 0 (twoD l b x y) = apartR (q1, q2) x.2) := by unfold Hid twoD; rw [if_pos hc]; exact E0
    clear key E0 hs hu hl hb hx hy hx0 hx1 hy0 hy1
    obtain ⟨x0, x1, x2⟩ := x
    obtain ⟨y0, y1, y2⟩ := y
    simp only at *
    go_enter Try.func56, Try.ntmps56
    go_wp2_with fail
    obtain ⟨W0, hW0⟩ : ∃ W0, W0 = ((w.alloc (.cells #[.int .i64 l.x, .int .i64 l.z, .slice A l.ks.length c] 125)).alloc (.cells #[.int .i64 y0, .int .i64 y1, .int .i64 y2] 63)).alloc (.cells #[.int .i64 x0, .int .i64 x1, .int .i64 x2] 63) := ⟨_, rfl⟩
    rw [← hW0]
    have HX : Hid (∀ W, Below W0.drew.heap.size W0.drew W → (W.cell? ⟨w.heap.size, 0, none⟩ = some (.int .i64 l.x) ∧ W.cell? ⟨w.heap.size, 1, none⟩ = some (.int .i64 l.z) ∧ W.cell? ⟨w.heap.size, 2, none⟩ = some (.slice A l.ks.length c)) ∧
        (W.cell? ⟨w.heap.size + 1, 0, none⟩ = some (.int .i64 y0) ∧ W.cell? ⟨w.heap.size + 1, 1, none⟩ = some (.int .i64 y1) ∧ W.cell? ⟨w.heap.size + 1, 2, none⟩ = some (.int .i64 y2)) ∧
        (W.cell? ⟨w.heap.size + 1 + 1, 0, none⟩ = some (.int .i64 x0) ∧ W.cell? ⟨w.heap.size + 1 + 1, 1, none⟩ = some (.int .i64 x1) ∧ W.cell? ⟨w.heap.size + 1 + 1, 2, none⟩ = some (.int .i64 x2)) ∧ Sl e3 3 W (.slice A l.ks.length c) l.ks ∧ Sl e2 2 W (.slice A' b.length c') b ∧ Below w.heap.size w W) := by
      intro W h
      have hb0 : Below w.heap.size w W0 := by rw [hW0]; exact below_al (below_al (below_alloc1 _ _) _) _
      have hb : Below w.heap.size w W := below_tr hb0 (Below.trans (Below.drew (Below.refl _ _)) h)
      rw [hW0] at h
      have bx := fun j v hv => (((At.new w #[.int .i64 l.x, .int .i64 l.z, .slice A l.ks.length c] 125 j v hv).al _).al _).drew.below h
      have by' := fun j v hv => ((At.new (w.alloc (.cells #[.int .i64 l.x, .int .i64 l.z, .slice A l.ks.length c] 125)) #[.int .i64 y0, .int .i64 y1, .int .i64 y2] 63 j v hv).al _).drew.below h
      have bz := fun j v hv => (At.new ((w.alloc (.cells #[.int .i64 l.x, .int .i64 l.z, .slice A l.ks.length c] 125)).alloc (.cells #[.int .i64 y0, .int .i64 y1, .int .i64 y2] 63)) #[.int .i64 x0, .int .i64 x1, .int .i64 x2] 63 j v hv).drew.below h
      exact ⟨⟨(bx 0 _ rfl).1, (bx 1 _ rfl).1, (bx 2 _ rfl).1⟩, ⟨by simpa using (by' 0 _ rfl).1, by simpa using (by' 1 _ rfl).1, by simpa using (by' 2 _ rfl).1⟩, ⟨by simpa using (bz 0 _ rfl).1, by simpa using (bz 1 _ rfl).1, by simpa using (bz 2 _ rfl).1⟩, HS.out.below hb, HU.out.below hb, hb⟩
    clear hW0
    refine wp_region_mono 14 [16, 17, 18, 19, 20, 21, 22, 23, 24, 25, 26, 27, 28, 29] [[], [], [1], [], [3], [4], [], [6], [7], [], [0, 2, 5, 8, 9], [], [11], [10, 12]] [fun v _ => v = .agg #[.int .i64 l.x, .int .i64 l.z, .slice A l.ks.length c], fun v _ => v = .pointer (some ⟨w.heap.size + 1, 1, none⟩), fun v _ => v = .agg #[.int .i64 y1, .int .i64 y2], fun v _ => v = .pointer (some ⟨w.heap.size + 1, 0, none⟩), fun v _ => v = .int .i64 y0, fun v _ => v = .int .i64 (y0 + 1), fun v _ => v = .pointer (some ⟨w.heap.size + 1 + 1, 0, none⟩), fun v _ => v = .int .i64 x0, fun v _ => v = .int .i64 (x0 + 1), fun v _ => v = .slice A' b.length c', fun v _ => v = .agg #[.int .i64 q1, .int .i64 q2], fun v _ => v = .pointer (some ⟨w.heap.size + 1 + 1, 1, none⟩), fun v _ => v = .agg #[.int .i64 x1, .int .i64 x2], fun v _ => v = .int .i64 (apartR (q1, q2) (x1, x2))] (by kernel_rfl) (by kernel_rfl) ⟨st_eq _, st_eq _, st_eq _, st_eq _, st_eq _, st_eq _, st_eq _, st_eq _, st_eq _, st_eq _, st_eq _, st_eq _, st_eq _, st_eq _, trivial⟩ ?_ ?_
    · simp only [List.take_succ_cons, List.take_zero, steps, and_true]
      refine ⟨?_, ?_, ?_, ?_, ?_, ?_, ?_, ?_, ?_, ?_, ?_, ?_, ?_, ?_⟩
      · intro x W hB _; simp only [putX, setX, List.foldl_cons, List.foldl_nil]; obtain ⟨⟨c0, c1, c2⟩, _⟩ := HX.out W hB; refine ⟨?_⟩; go_simp; exact ⟨rfl, Below.refl _ _⟩
      · intro x W hB _; simp only [putX, setX, List.foldl_cons, List.foldl_nil]; refine ⟨?_⟩; go_simp; exact ⟨rfl, Below.refl _ _⟩
      · intro x W hB hN; simp only [needs, sAt, dAt] at hN; simp only [putX, setX, List.foldl_cons, List.foldl_nil]; obtain ⟨_, ⟨c0, c1, c2⟩, _⟩ := HX.out W hB; refine ⟨?_⟩; go_simp; exact ⟨rfl, Below.refl _ _⟩
      · intro x W hB _; simp only [putX, setX, List.foldl_cons, List.foldl_nil]; refine ⟨?_⟩; go_simp; exact ⟨rfl, Below.refl _ _⟩
      · intro x W hB hN; simp only [needs, sAt, dAt] at hN; simp only [putX, setX, List.foldl_cons, List.foldl_nil]; obtain ⟨_, ⟨c0, c1, c2⟩, _⟩ := HX.out W hB; refine ⟨?_⟩; go_simp; exact ⟨rfl, Below.refl _ _⟩
      · intro x W hB hN; simp only [needs, sAt, dAt] at hN; simp only [putX, setX, List.foldl_cons, List.foldl_nil]; refine ⟨?_⟩; go_simp; exact ⟨rfl, Below.refl _ _⟩
      · intro x W hB _; simp only [putX, setX, List.foldl_cons, List.foldl_nil]; refine ⟨?_⟩; go_simp; exact ⟨rfl, Below.refl _ _⟩
      · intro x W hB hN; simp only [needs, sAt, dAt] at hN; simp only [putX, setX, List.foldl_cons, List.foldl_nil]; obtain ⟨_, _, ⟨c0, c1, c2⟩, _⟩ := HX.out W hB; refine ⟨?_⟩; go_simp; exact ⟨rfl, Below.refl _ _⟩
      · intro x W hB hN; simp only [needs, sAt, dAt] at hN; simp only [putX, setX, List.foldl_cons, List.foldl_nil]; refine ⟨?_⟩; go_simp; exact ⟨rfl, Below.refl _ _⟩
      · intro x W hB _; simp only [putX, setX, List.foldl_cons, List.foldl_nil]; refine ⟨?_⟩; go_simp; exact ⟨rfl, Below.refl _ _⟩
      · intro x W hB hN; simp only [needs, sAt, dAt] at hN; simp only [putX, setX, List.foldl_cons, List.foldl_nil]; refine ⟨?_⟩; go_simp; refine (HCR.out _ (HX.out W hB).2.2.2.1 (HX.out W hB).2.2.2.2.1).mono ?_; rintro e w' ⟨rfl, b1⟩; exact ⟨_, rfl, rfl, b1⟩
      · intro x W hB _; simp only [putX, setX, List.foldl_cons, List.foldl_nil]; refine ⟨?_⟩; go_simp; exact ⟨rfl, Below.refl _ _⟩
      · intro x W hB hN; simp only [needs, sAt, dAt] at hN; simp only [putX, setX, List.foldl_cons, List.foldl_nil]; obtain ⟨_, _, ⟨c0, c1, c2⟩, _⟩ := HX.out W hB; refine ⟨?_⟩; go_simp; exact ⟨rfl, Below.refl _ _⟩
      · intro x W hB hN; simp only [needs, sAt, dAt] at hN; simp only [putX, setX, List.foldl_cons, List.foldl_nil]; refine ⟨?_⟩; go_simp; refine (HAP.out _).mono ?_; rintro e w' ⟨rfl, b1⟩; exact ⟨_, rfl, rfl, b1⟩
    · intro x W hB hA
      simp only [allSp] at hA
      have s1 := hA.2.2.2.2.2.2.2.2.2.2.2.2.2.1
      have hb := (HX.out W hB).2.2.2.2.2
      clear hA hB HX
      simp only [putX, setX, List.foldl_cons, List.foldl_nil, List.drop_succ_cons, List.drop_zero]
      go_wp2_with fail
      go_ret
      exact ⟨ret_int E.out.symm, hb⟩
  · obtain ⟨q1, q2, E0, HCR, HAP⟩ := key x y hx hy (by omega)
    have E : Hid (max 0 (twoD l b x y) = apartR (q1, q2) y.2) := by unfold Hid twoD; rw [if_neg hc]; exact E0
    clear key E0 hs hu hl hb hx hy hx0 hx1 hy0 hy1
    obtain ⟨x0, x1, x2⟩ := x
    obtain ⟨y0, y1, y2⟩ := y
    simp only at *
    go_enter Try.func56, Try.ntmps56
    go_wp2_with fail
    obtain ⟨W0, hW0⟩ : ∃ W0, W0 = ((w.alloc (.cells #[.int .i64 l.x, .int .i64 l.z, .slice A l.ks.length c] 125)).alloc (.cells #[.int .i64 x0, .int .i64 x1, .int .i64 x2] 63)).alloc (.cells #[.int .i64 y0, .int .i64 y1, .int .i64 y2] 63) := ⟨_, rfl⟩
    rw [← hW0]
    have HX : Hid (∀ W, Below W0.drew.heap.size W0.drew W → (W.cell? ⟨w.heap.size, 0, none⟩ = some (.int .i64 l.x) ∧ W.cell? ⟨w.heap.size, 1, none⟩ = some (.int .i64 l.z) ∧ W.cell? ⟨w.heap.size, 2, none⟩ = some (.slice A l.ks.length c)) ∧
        (W.cell? ⟨w.heap.size + 1, 0, none⟩ = some (.int .i64 x0) ∧ W.cell? ⟨w.heap.size + 1, 1, none⟩ = some (.int .i64 x1) ∧ W.cell? ⟨w.heap.size + 1, 2, none⟩ = some (.int .i64 x2)) ∧
        (W.cell? ⟨w.heap.size + 1 + 1, 0, none⟩ = some (.int .i64 y0) ∧ W.cell? ⟨w.heap.size + 1 + 1, 1, none⟩ = some (.int .i64 y1) ∧ W.cell? ⟨w.heap.size + 1 + 1, 2, none⟩ = some (.int .i64 y2)) ∧ Sl e3 3 W (.slice A l.ks.length c) l.ks ∧ Sl e2 2 W (.slice A' b.length c') b ∧ Below w.heap.size w W) := by
      intro W h
      have hb0 : Below w.heap.size w W0 := by rw [hW0]; exact below_al (below_al (below_alloc1 _ _) _) _
      have hb : Below w.heap.size w W := below_tr hb0 (Below.trans (Below.drew (Below.refl _ _)) h)
      rw [hW0] at h
      have bx := fun j v hv => (((At.new w #[.int .i64 l.x, .int .i64 l.z, .slice A l.ks.length c] 125 j v hv).al _).al _).drew.below h
      have by' := fun j v hv => ((At.new (w.alloc (.cells #[.int .i64 l.x, .int .i64 l.z, .slice A l.ks.length c] 125)) #[.int .i64 x0, .int .i64 x1, .int .i64 x2] 63 j v hv).al _).drew.below h
      have bz := fun j v hv => (At.new ((w.alloc (.cells #[.int .i64 l.x, .int .i64 l.z, .slice A l.ks.length c] 125)).alloc (.cells #[.int .i64 x0, .int .i64 x1, .int .i64 x2] 63)) #[.int .i64 y0, .int .i64 y1, .int .i64 y2] 63 j v hv).drew.below h
      exact ⟨⟨(bx 0 _ rfl).1, (bx 1 _ rfl).1, (bx 2 _ rfl).1⟩, ⟨by simpa using (by' 0 _ rfl).1, by simpa using (by' 1 _ rfl).1, by simpa using (by' 2 _ rfl).1⟩, ⟨by simpa using (bz 0 _ rfl).1, by simpa using (bz 1 _ rfl).1, by simpa using (bz 2 _ rfl).1⟩, HS.out.below hb, HU.out.below hb, hb⟩
    clear hW0
    refine wp_region_mono 14 [16, 17, 18, 19, 20, 21, 22, 23, 24, 25, 26, 27, 28, 29] [[], [], [1], [], [3], [4], [], [6], [7], [], [0, 2, 5, 8, 9], [], [11], [10, 12]] [fun v _ => v = .agg #[.int .i64 l.x, .int .i64 l.z, .slice A l.ks.length c], fun v _ => v = .pointer (some ⟨w.heap.size + 1, 1, none⟩), fun v _ => v = .agg #[.int .i64 x1, .int .i64 x2], fun v _ => v = .pointer (some ⟨w.heap.size + 1, 0, none⟩), fun v _ => v = .int .i64 x0, fun v _ => v = .int .i64 (x0 + 1), fun v _ => v = .pointer (some ⟨w.heap.size + 1 + 1, 0, none⟩), fun v _ => v = .int .i64 y0, fun v _ => v = .int .i64 (y0 + 1), fun v _ => v = .slice A' b.length c', fun v _ => v = .agg #[.int .i64 q1, .int .i64 q2], fun v _ => v = .pointer (some ⟨w.heap.size + 1 + 1, 1, none⟩), fun v _ => v = .agg #[.int .i64 y1, .int .i64 y2], fun v _ => v = .int .i64 (apartR (q1, q2) (y1, y2))] (by kernel_rfl) (by kernel_rfl) ⟨st_eq _, st_eq _, st_eq _, st_eq _, st_eq _, st_eq _, st_eq _, st_eq _, st_eq _, st_eq _, st_eq _, st_eq _, st_eq _, st_eq _, trivial⟩ ?_ ?_
    · simp only [List.take_succ_cons, List.take_zero, steps, and_true]
      refine ⟨?_, ?_, ?_, ?_, ?_, ?_, ?_, ?_, ?_, ?_, ?_, ?_, ?_, ?_⟩
      · intro x W hB _; simp only [putX, setX, List.foldl_cons, List.foldl_nil]; obtain ⟨⟨c0, c1, c2⟩, _⟩ := HX.out W hB; refine ⟨?_⟩; go_simp; exact ⟨rfl, Below.refl _ _⟩
      · intro x W hB _; simp only [putX, setX, List.foldl_cons, List.foldl_nil]; refine ⟨?_⟩; go_simp; exact ⟨rfl, Below.refl _ _⟩
      · intro x W hB hN; simp only [needs, sAt, dAt] at hN; simp only [putX, setX, List.foldl_cons, List.foldl_nil]; obtain ⟨_, ⟨c0, c1, c2⟩, _⟩ := HX.out W hB; refine ⟨?_⟩; go_simp; exact ⟨rfl, Below.refl _ _⟩
      · intro x W hB _; simp only [putX, setX, List.foldl_cons, List.foldl_nil]; refine ⟨?_⟩; go_simp; exact ⟨rfl, Below.refl _ _⟩
      · intro x W hB hN; simp only [needs, sAt, dAt] at hN; simp only [putX, setX, List.foldl_cons, List.foldl_nil]; obtain ⟨_, ⟨c0, c1, c2⟩, _⟩ := HX.out W hB; refine ⟨?_⟩; go_simp; exact ⟨rfl, Below.refl _ _⟩
      · intro x W hB hN; simp only [needs, sAt, dAt] at hN; simp only [putX, setX, List.foldl_cons, List.foldl_nil]; refine ⟨?_⟩; go_simp; exact ⟨rfl, Below.refl _ _⟩
      · intro x W hB _; simp only [putX, setX, List.foldl_cons, List.foldl_nil]; refine ⟨?_⟩; go_simp; exact ⟨rfl, Below.refl _ _⟩
      · intro x W hB hN; simp only [needs, sAt, dAt] at hN; simp only [putX, setX, List.foldl_cons, List.foldl_nil]; obtain ⟨_, _, ⟨c0, c1, c2⟩, _⟩ := HX.out W hB; refine ⟨?_⟩; go_simp; exact ⟨rfl, Below.refl _ _⟩
      · intro x W hB hN; simp only [needs, sAt, dAt] at hN; simp only [putX, setX, List.foldl_cons, List.foldl_nil]; refine ⟨?_⟩; go_simp; exact ⟨rfl, Below.refl _ _⟩
      · intro x W hB _; simp only [putX, setX, List.foldl_cons, List.foldl_nil]; refine ⟨?_⟩; go_simp; exact ⟨rfl, Below.refl _ _⟩
      · intro x W hB hN; simp only [needs, sAt, dAt] at hN; simp only [putX, setX, List.foldl_cons, List.foldl_nil]; refine ⟨?_⟩; go_simp; refine (HCR.out _ (HX.out W hB).2.2.2.1 (HX.out W hB).2.2.2.2.1).mono ?_; rintro e w' ⟨rfl, b1⟩; exact ⟨_, rfl, rfl, b1⟩
      · intro x W hB _; simp only [putX, setX, List.foldl_cons, List.foldl_nil]; refine ⟨?_⟩; go_simp; exact ⟨rfl, Below.refl _ _⟩
      · intro x W hB hN; simp only [needs, sAt, dAt] at hN; simp only [putX, setX, List.foldl_cons, List.foldl_nil]; obtain ⟨_, _, ⟨c0, c1, c2⟩, _⟩ := HX.out W hB; refine ⟨?_⟩; go_simp; exact ⟨rfl, Below.refl _ _⟩
      · intro x W hB hN; simp only [needs, sAt, dAt] at hN; simp only [putX, setX, List.foldl_cons, List.foldl_nil]; refine ⟨?_⟩; go_simp; refine (HAP.out _).mono ?_; rintro e w' ⟨rfl, b1⟩; exact ⟨_, rfl, rfl, b1⟩
    · intro x W hB hA
      simp only [allSp] at hA
      have s1 := hA.2.2.2.2.2.2.2.2.2.2.2.2.2.1
      have hb := (HX.out W hB).2.2.2.2.2
      clear hA hB HX
      simp only [putX, setX, List.foldl_cons, List.foldl_nil, List.drop_succ_cons, List.drop_zero]
      go_wp2_with fail
      go_ret
      exact ⟨ret_int E.out.symm, hb⟩
end Go.Proofs.Ytekinmafdhgmpaa

namespace Go.Proofs.Ytekinmafdhgmpaa
open Go.RowKit Go.Shelf

set_option maxHeartbeats 1000000 in
theorem rd1_any (Bx n : Nat) (A : Option Addr) (c : Nat) (x : Rd) (w : World) (hc : w.cell? ⟨Bx, 2, none⟩ = some (.slice A n c)) :
    Calls Try.prog 101 #[.agg #[.int .i64 x.1, .int .i64 x.2.1, .int .i64 x.2.2], .pointer (some ⟨Bx, 0, none⟩)] w fun e w' => e = .returned (.int .i64 (rdErr n x)) ∧ Below w.heap.size w w' := by
  have hl := cell_lt hc
  simp only at hl
  have HR := Lib.hid (fun W => RangeError_any x.2 20000 W (by omega) (by omega))
  by_cases h1 : 0 ≤ x.1
  · by_cases h2 : x.1 < (n : Int)
    · have E : Hid (rdErr n x = rangeErr 20000 x.2) := by unfold Hid rdErr; rw [if_pos ⟨h1, h2⟩]
      generalize rangeErr 20000 x.2 = q at *
      obtain ⟨x0, x1, x2⟩ := x
      simp only at *
      have n1 : ¬ x0 < 0 := by omega
      have n1' : decide (x0 < 0) = false := decide_eq_false n1
      have n2 : ¬ (n : Int) ≤ x0 := by omega
      have n2' : decide ((n : Int) ≤ x0) = false := decide_eq_false n2
      clear h1 h2
      go_enter Try.func101, Try.ntmps101
      go_wp2_with (go_at_call 102; refine (HR.out _).mono ?_; rintro e w1 ⟨rfl, b1⟩)
      go_ret
      exact ⟨ret_int E.out.symm, below_tr (below_alloc1 _ _) b1⟩
    · have E : Hid (rdErr n x = 6) := by unfold Hid rdErr; rw [if_neg (fun h => h2 h.2)]
      obtain ⟨x0, x1, x2⟩ := x
      simp only at *
      have n1 : ¬ x0 < 0 := by omega
      have n1' : decide (x0 < 0) = false := decide_eq_false n1
      have n2 : (n : Int) ≤ x0 := by omega
      have n2' : decide ((n : Int) ≤ x0) = true := decide_eq_true n2
      clear h1 h2
      go_enter Try.func101, Try.ntmps101
      go_wp2_with fail
      go_ret
      exact ⟨ret_int E.out.symm, below_alloc1 _ _⟩
  · have E : Hid (rdErr n x = 6) := by unfold Hid rdErr; rw [if_neg (fun h => h1 h.1)]
    obtain ⟨x0, x1, x2⟩ := x
    simp only at *
    have n1 : x0 < 0 := by omega
    have n1' : decide (x0 < 0) = true := decide_eq_true n1
    clear h1
    go_enter Try.func101, Try.ntmps101
    go_wp2_with fail
    go_ret
    exact ⟨ret_int E.out.symm, below_alloc1 _ _⟩
set_option maxHeartbeats 1000000 in
theorem readingsError_any (v u t : Value) (l : Ln) (b : List (Int × Int)) (r : List Rd) (w : World) (hs : Sl e3 3 w v l.ks) (hu : Sl e2 2 w u b) (ht : Sl e3 3 w t r) (hbig : l.ks.length ≤ 1000) (hbig' : b.length ≤ 1000) (hbig'' : r.length ≤ 1000) :
    Calls Try.prog 54 #[.agg #[.int .i64 l.x, .int .i64 l.z, v], u, t] w fun e w' => e = .returned (.int .i64 (readingsErr l b r)) ∧ Below w.heap.size w w' := by
  have HC := Lib.hid (boxError_any v u l b _ (hs.alloc (.cells #[.int .i64 l.x, .int .i64 l.z, v] 26)) (hu.alloc (.cells #[.int .i64 l.x, .int .i64 l.z, v] 26)) hbig hbig')
  obtain ⟨A, c, rfl, _⟩ := hs.form
  obtain ⟨A', c', rfl, _⟩ := hu.form
  obtain ⟨A'', c'', rfl, _⟩ := ht.form
  have HT := Lib.hid ht
  clear hs hu ht
  by_cases h1 : boxErr l b = 0
  · have E0 : readingsErr l b r = rdsErr l r := if_pos h1
    rw [h1] at HC
    clear h1
    by_cases h2 : 12 < r.length
    · have E : Hid (readingsErr l b r = 8) := by rw [E0]; exact if_pos h2
      have d1 : (12 : Int) < (r.length : Int) := by omega
      have d1' : decide ((12 : Int) < (r.length : Int)) = true := decide_eq_true d1
      clear E0 h2
      go_enter Try.func54, Try.ntmps54
      go_wp2_with (go_at_call 64; refine HC.out.mono ?_; rintro e w1 ⟨rfl, hb1⟩)
      go_ret
      exact ⟨ret_int E.out.symm, below_tr (below_alloc1 _ _) hb1⟩
    · have E : Hid (readingsErr l b r = (fb (rdErr l.ks.length) r 0).2) := by rw [E0]; exact if_neg h2
      have d1 : ¬ (12 : Int) < (r.length : Int) := by omega
      have d1' : decide ((12 : Int) < (r.length : Int)) = false := decide_eq_false d1
      clear E0 h2
      go_enter Try.func54, Try.ntmps54
      go_wp2_with (first
        | (go_at_call 64; refine HC.out.mono ?_; rintro e w1 ⟨rfl, hb1⟩; obtain ⟨q1, _⟩ := (At.new w #[.int .i64 l.x, .int .i64 l.z, .slice A l.ks.length c] 26 2 _ rfl).below hb1; have HB1 := Lib.hid (below_tr (below_alloc1 _ _) hb1); clear hb1)
        | (go_at_call 100; refine (fbx_any 101 #[.pointer (some ⟨w.heap.size, 0, none⟩)] (enters_of Try.func101 (by kernel_rfl) rfl) (rdErr l.ks.length) _ r _ (HT.out.below HB1.out) hbig'' (fun W => W.cell? ⟨w.heap.size, 2, none⟩ = some (.slice A l.ks.length c)) (fun W W' h hb => (hb.cell (p := ⟨w.heap.size, 2, none⟩) (cell_lt h)).trans h) q1 (fun x _ W h => rd1_any w.heap.size l.ks.length A c x W h)).mono ?_; rintro e w2 ⟨rfl, hb2⟩))
      go_ret
      exact ⟨ret_int E.out.symm, below_tr HB1.out hb2⟩
  · have E : Hid (readingsErr l b r = boxErr l b) := if_neg h1
    have h1' := ne1 h1
    generalize boxErr l b = q at *
    clear h1
    go_enter Try.func54, Try.ntmps54
    go_wp2_with (go_at_call 64; refine HC.out.mono ?_; rintro e w1 ⟨rfl, hb1⟩)
    go_ret
    exact ⟨ret_int E.out.symm, below_tr (below_alloc1 _ _) hb1⟩

/-! ### a closure that remembers -/
def fbk (err : Nat → Int) : Nat → Nat → Int × Int
  | 0, _ => (0, 0)
  | m + 1, k => if err k = 0 then fbk err m (k + 1) else ((k : Int), err k)
set_option maxHeartbeats 1000000 in
theorem fbs_any (K : FuncId) (caps : Array Value) (eg : ∀ (args : Array Value) (w : World), (callFunc K args).run Try.prog w = .ok (.enter K args) w) (err : Nat → Int) (v : Value) (xs : List Int) (w w0 : World) (hn : xs.length ≤ 1000)
    (Inv : Nat → World → Prop) (hInv : ∀ k W, Inv k W → Sl e1 1 W v xs ∧ Below w0.heap.size w0 W) (h0 : Inv 0 w)
    (hcl : ∀ k (h : k < xs.length) W, Inv k W → Calls Try.prog K (#[.int .i64 xs[k]] ++ caps) W fun e W' => e = .returned (.int .i64 (err k)) ∧ (err k = 0 → Inv (k + 1) W') ∧ Below w0.heap.size w0 W') :
    Calls Try.prog 73 #[v, .func (.func K) #[] caps] w fun e w' => e = .returned (.tuple #[.int .i64 (fbk err xs.length 0).1, .int .i64 (fbk err xs.length 0).2]) ∧ Below w0.heap.size w0 w' := by
  obtain ⟨A, c, rfl, hcap⟩ := (hInv 0 w h0).1.form
  have HI := Lib.hid hInv
  have HC := Lib.hid hcl
  clear hInv hcl
  go_enter Try.func73, Try.ntmps73
  go_wp2_with fail
  go_loopw [6, 7, 8, 11] (fun _ _ _ i wr => ∃ k : Nat, k ≤ xs.length ∧ i = .int .i64 k ∧ fbk err (xs.length - k) k = fbk err xs.length 0 ∧ Inv k wr) (fun _ _ _ i _ => xs.length - (intOf i).toNat)
  case atStart => exact ⟨0, Nat.zero_le _, rfl, rfl, h0⟩
  case round =>
    obtain ⟨k, hk, rfl, hfb, hi⟩ := hrel
    have HF := Lib.hid hfb
    have HV := Lib.hid hi
    clear hfb hi
    by_cases hlt : k < xs.length
    · obtain ⟨b, off, rfl, hbl, hc0⟩ := (HI.out k wr HV.out).1.at1 hlt
      have HK := Lib.hid (HC.out k hlt wr HV.out)
      have hd : fbk err (xs.length - k) k = if err k = 0 then fbk err (xs.length - (k + 1)) (k + 1) else ((k : Int), err k) := by
        rw [show xs.length - k = (xs.length - (k + 1)) + 1 by omega]; rfl
      have HD := Lib.hid hd
      clear hd
      by_cases he : err k = 0
      · have he' : (err k != 0) = false := ne0 he
        generalize err k = er at *
        go_wp2_with (refine HK.out.mono ?_; rintro e w1 ⟨rfl, hi1, _⟩; have HN := Lib.hid hi1; clear hi1)
        go_roundw
        case rel => exact ⟨k + 1, by omega, by go_num, by rw [← HF.out, HD.out, if_pos he], HN.out he⟩
        case measure => simp [intOf]; omega
      · have he' : (err k != 0) = true := ne1 he
        generalize err k = er at *
        go_wp2_with (refine HK.out.mono ?_; rintro e w1 ⟨rfl, _, hb1⟩)
        go_ret2
        exact ⟨by rw [← HF.out, HD.out, if_neg he]; rfl, hb1⟩
    · obtain rfl : k = xs.length := by omega
      go_wp2
      go_ret2
      exact ⟨by rw [← HF.out, Nat.sub_self]; rfl, (HI.out _ wr HV.out).2⟩
/-- The error of a number of a set, behind the one before. -/
def stErr (n : Nat) (before i : Int) : Int := if 0 ≤ i ∧ i < (n : Int) then (if i ≤ before then 9 else 0) else 6
set_option maxHeartbeats 1000000 in
theorem set1_any (Br Bp n : Nat) (A : Option Addr) (c : Nat) (before i : Int) (w : World) (hc : w.cell? ⟨Br, 0, none⟩ = some (.slice A n c)) (hp : At w ⟨Bp, 0, none⟩ (.int .i64 before)) (hne : Br ≠ Bp) :
    Calls Try.prog 105 #[.int .i64 i, .pointer (some ⟨Br, 0, none⟩), .pointer (some ⟨Bp, 0, none⟩)] w fun e w' => e = .returned (.int .i64 (stErr n before i)) ∧ (stErr n before i = 0 → w' = w.setCell ⟨Bp, 0, none⟩ (.int .i64 i)) ∧ (stErr n before i ≠ 0 → w' = w) := by
  obtain ⟨hp1, hp2⟩ := hp
  by_cases h1 : 0 ≤ i
  · have n1 : ¬ i < 0 := by omega
    have n1' : decide (i < 0) = false := decide_eq_false n1
    by_cases h2 : i < (n : Int)
    · have n2 : ¬ (n : Int) ≤ i := by omega
      have n2' : decide ((n : Int) ≤ i) = false := decide_eq_false n2
      by_cases h3 : i ≤ before
      · have E : Hid (stErr n before i = 9) := by unfold Hid stErr; rw [if_pos ⟨h1, h2⟩, if_pos h3]
        have n3 : decide (i ≤ before) = true := decide_eq_true h3
        clear h1 h2
        go_enter Try.func105, Try.ntmps105
        go_wp2_with fail
        go_ret
        exact ⟨ret_int E.out.symm, fun h => (by rw [E.out] at h; omega), fun _ => rfl⟩
      · have E : Hid (stErr n before i = 0) := by unfold Hid stErr; rw [if_pos ⟨h1, h2⟩, if_neg h3]
        have n3 : decide (i ≤ before) = false := decide_eq_false h3
        clear h1 h2
        go_enter Try.func105, Try.ntmps105
        go_wp2_with fail
        go_ret
        exact ⟨ret_int E.out.symm, fun _ => rfl, fun h => absurd E.out h⟩
    · have E : Hid (stErr n before i = 6) := by unfold Hid stErr; rw [if_neg (fun h => h2 h.2)]
      have n2 : (n : Int) ≤ i := by omega
      have n2' : decide ((n : Int) ≤ i) = true := decide_eq_true n2
      clear h1 h2
      go_enter Try.func105, Try.ntmps105
      go_wp2_with fail
      go_ret
      exact ⟨ret_int E.out.symm, fun h => (by rw [E.out] at h; omega), fun _ => rfl⟩
  · have E : Hid (stErr n before i = 6) := by unfold Hid stErr; rw [if_neg (fun h => h1 h.1)]
    have n1 : i < 0 := by omega
    have n1' : decide (i < 0) = true := decide_eq_true n1
    clear h1
    go_enter Try.func105, Try.ntmps105
    go_wp2_with fail
    go_ret
    exact ⟨ret_int E.out.symm, fun h => (by rw [E.out] at h; omega), fun _ => rfl⟩
/-- The error of a set. -/
def setErr (n : Nat) : List Int → Int
  | [i] => stErr n (-1) i
  | [i, j] => if stErr n (-1) i = 0 then stErr n i j else stErr n (-1) i
  | _ => 10
theorem setErr_len {n : Nat} {s : List Int} (h : setErr n s ≠ 10) : s.length = 1 ∨ s.length = 2 := by
  match s, h with
  | [], h => exact absurd rfl h
  | [_], _ => exact .inl rfl
  | [_, _], _ => exact .inr rfl
  | _ :: _ :: _ :: _, h => exact absurd rfl h
/-- The number before. -/
def befor (s : List Int) (k : Nat) : Int := if h : 0 < k ∧ k ≤ s.length then s[k - 1]'(by omega) else -1
def SetInv (w : World) (A : Option Addr) (n c : Nat) (A' : Option Addr) (c' : Nat) (s : List Int) (k : Nat) (W : World) : Prop :=
  W.cell? ⟨w.heap.size, 0, none⟩ = some (.slice A n c) ∧ At W ⟨w.heap.size + 1, 0, none⟩ (.int .i64 (befor s k)) ∧ Sl e1 1 W (.slice A' s.length c') s ∧ Below w.heap.size w W
theorem setInv_start {w : World} {A : Option Addr} {n c : Nat} {A' : Option Addr} {c' : Nat} {s : List Int} (hu : Sl e1 1 w (.slice A' s.length c') s) (t1 t2 : TypeId) :
    SetInv w A n c A' c' s 0 ((w.alloc (.cells #[.slice A n c] t1)).alloc (.cells #[.int .i64 (-1)] t2)) := by
  have b := At.new (w.alloc (.cells #[.slice A n c] t1)) #[.int .i64 (-1)] t2 0 _ rfl
  refine ⟨((At.new w #[.slice A n c] t1 0 _ rfl).al _).1, ?_, (hu.alloc _).alloc _, below_al (below_alloc1 _ _) _⟩
  have e : befor s 0 = -1 := by unfold befor; rw [dif_neg (by omega)]
  rw [e]
  simpa using b
theorem setInv_step {w : World} {A : Option Addr} {n c : Nat} {A' : Option Addr} {c' : Nat} {s : List Int} (hu : Sl e1 1 w (.slice A' s.length c') s) (err : Nat → Int) (he : ∀ k (h : k < s.length), err k = stErr n (befor s k) s[k]) :
    ∀ k (h : k < s.length) W, SetInv w A n c A' c' s k W → Calls Try.prog 105 (#[.int .i64 s[k]] ++ #[.pointer (some ⟨w.heap.size, 0, none⟩), .pointer (some ⟨w.heap.size + 1, 0, none⟩)]) W fun e W' => e = .returned (.int .i64 (err k)) ∧ (err k = 0 → SetInv w A n c A' c' s (k + 1) W') ∧ Below w.heap.size w W' := by
  rintro k hk W ⟨h1, h2, h3, h4⟩
  rw [he k hk]
  refine (set1_any w.heap.size (w.heap.size + 1) n A c (befor s k) s[k] W h1 h2 (by omega)).mono fun e W' ⟨g1, g2, g3⟩ => ⟨g1, fun h => ?_, ?_⟩
  · rw [g2 h]
    have hb := below_set h4 (p := ⟨w.heap.size + 1, 0, none⟩) (by simp) (.int .i64 s[k])
    have e : befor s (k + 1) = s[k] := by unfold befor; rw [dif_pos ⟨by omega, by omega⟩]; rfl
    exact ⟨(World.cell?_setCell_other W _ _ _ (by simp)).trans h1, by rw [e]; exact h2.set, hu.below hb, hb⟩
  · by_cases h : stErr n (befor s k) s[k] = 0
    · rw [g2 h]; exact below_set h4 (by simp) _
    · rw [g3 h]; exact h4
set_option maxHeartbeats 1000000 in
theorem setError_any (t u : Value) (r : List Rd) (s : List Int) (w : World) (ht : Sl e3 3 w t r) (hu : Sl e1 1 w u s) (hbig : s.length ≤ 1000) :
    Calls Try.prog 57 #[t, u] w fun e w' => e = .returned (.int .i64 (setErr r.length s)) ∧ Below w.heap.size w w' := by
  obtain ⟨A, c, rfl, _⟩ := ht.form
  obtain ⟨A', c', rfl, _⟩ := hu.form
  have HU := Lib.hid hu
  clear ht hu
  by_cases h : s.length = 1 ∨ s.length = 2
  · obtain ⟨err, hE, hErr⟩ : ∃ err : Nat → Int, (fbk err s.length 0).2 = setErr r.length s ∧ ∀ k (hk : k < s.length), err k = stErr r.length (befor s k) s[k] := by
      match s, h with
      | [i], _ =>
        refine ⟨fun _ => stErr r.length (-1) i, ?_, fun k hk => ?_⟩
        · show (if stErr r.length (-1) i = 0 then ((0, 0) : Int × Int) else (0, stErr r.length (-1) i)).2 = stErr r.length (-1) i
          split
          · next h => exact h.symm
          · rfl
        · obtain rfl : k = 0 := by simpa using hk
          rfl
      | [i, j], _ =>
        refine ⟨fun k => if k = 0 then stErr r.length (-1) i else stErr r.length i j, ?_, fun k hk => ?_⟩
        · show (if stErr r.length (-1) i = 0 then (if stErr r.length i j = 0 then ((0, 0) : Int × Int) else (1, stErr r.length i j)) else (0, stErr r.length (-1) i)).2 = if stErr r.length (-1) i = 0 then stErr r.length i j else stErr r.length (-1) i
          by_cases h1 : stErr r.length (-1) i = 0
          · rw [if_pos h1, if_pos h1]
            split
            · next h => exact h.symm
            · rfl
          · rw [if_neg h1, if_neg h1]
        · have : k = 0 ∨ k = 1 := by simp at hk; omega
          rcases this with rfl | rfl <;> rfl
      | [], h => exact absurd h (by simp)
      | _ :: _ :: _ :: _, h => exact absurd h (by simp)
    have HE := Lib.hid hE
    have HST := Lib.hid (setInv_step (A := A) (n := r.length) (c := c) HU.out err hErr)
    clear hE hErr
    have hd : ((s.length : Int) != 1) = false ∨ ((s.length : Int) != 1) = true ∧ ((s.length : Int) != 2) = false := by
      rcases h with h | h
      · left; rw [h]; rfl
      · right; rw [h]; exact ⟨rfl, rfl⟩
    clear h
    rcases hd with h1 | ⟨h1, h2⟩
    · go_enter Try.func57, Try.ntmps57
      go_wp2_with (go_at_call 73; refine (fbs_any 105 #[.pointer (some ⟨w.heap.size, 0, none⟩), .pointer (some ⟨w.heap.size + 1, 0, none⟩)] (enters_of Try.func105 (by kernel_rfl) rfl) err _ s _ w hbig (SetInv w A r.length c A' c' s) (fun k W h => ⟨h.2.2.1, h.2.2.2⟩) (setInv_start HU.out _ _) HST.out).mono ?_; rintro e w2 ⟨rfl, hb2⟩)
      go_ret
      exact ⟨ret_int HE.out, hb2⟩
    · go_enter Try.func57, Try.ntmps57
      go_wp2_with (go_at_call 73; refine (fbs_any 105 #[.pointer (some ⟨w.heap.size, 0, none⟩), .pointer (some ⟨w.heap.size + 1, 0, none⟩)] (enters_of Try.func105 (by kernel_rfl) rfl) err _ s _ w hbig (SetInv w A r.length c A' c' s) (fun k W h => ⟨h.2.2.1, h.2.2.2⟩) (setInv_start HU.out _ _) HST.out).mono ?_; rintro e w2 ⟨rfl, hb2⟩)
      go_ret
      exact ⟨ret_int HE.out, hb2⟩
  · have E : Hid (setErr r.length s = 10) := by
      unfold Hid
      match s, h with
      | [], _ => rfl
      | [_], h => exact absurd (.inl rfl) h
      | [_, _], h => exact absurd (.inr rfl) h
      | _ :: _ :: _ :: _, _ => rfl
    have h1 : ((s.length : Int) != 1) = true := by rw [bne_iff_ne]; omega
    have h2 : ((s.length : Int) != 2) = true := by rw [bne_iff_ne]; omega
    clear h
    go_enter Try.func57, Try.ntmps57
    go_wp2_with fail
    go_ret
    exact ⟨ret_int E.out.symm, below_alloc1 _ _⟩
end Go.Proofs.Ytekinmafdhgmpaa

namespace Go.Proofs.Ytekinmafdhgmpaa

/-- What is found: one alone, or else two, or nothing. -/
def IsC (f : Nat → Int) (g : Nat → Nat → Int) (n : Nat) (s : List Int) (e : Int) : Prop :=
  (∃ i, i < n ∧ 0 < f i ∧ (∀ j, j < i → ¬ 0 < f j) ∧ s = [(i : Int)] ∧ e = 0) ∨
  ((∀ j, j < n → ¬ 0 < f j) ∧ ∃ i k, i < k ∧ k < n ∧ 0 < g i k ∧ (∀ a b, a < b → b < n → (a < i ∨ a = i ∧ b < k) → ¬ 0 < g a b) ∧ s = [(i : Int), (k : Int)] ∧ e = 0) ∨
  ((∀ j, j < n → ¬ 0 < f j) ∧ (∀ a b, a < b → b < n → ¬ 0 < g a b) ∧ s = [] ∧ e = 12)
section
variable {f : Nat → Int} {g : Nat → Nat → Int} {n : Nat} {s : List Int} {e : Int}
theorem IsC.at1 (h : IsC f g n s e) {i : Nat} (hi : i < n) (hp : 0 < f i) (hq : ∀ j, j < i → ¬ 0 < f j) : s = [(i : Int)] ∧ e = 0 := by
  rcases h with ⟨i', h1, h2, h3, h4, h5⟩ | ⟨h1, _⟩ | ⟨h1, _⟩
  · have : i' = i := by
      rcases Nat.lt_trichotomy i' i with h | h | h
      · exact absurd h2 (hq i' h)
      · exact h
      · exact absurd hp (h3 i h)
    subst this
    exact ⟨h4, h5⟩
  · exact absurd hp (h1 i hi)
  · exact absurd hp (h1 i hi)
theorem IsC.at2 (h : IsC f g n s e) (hall : ∀ j, j < n → ¬ 0 < f j) {i k : Nat} (hik : i < k) (hk : k < n) (hp : 0 < g i k) (hq : ∀ a b, a < b → b < n → (a < i ∨ a = i ∧ b < k) → ¬ 0 < g a b) : s = [(i : Int), (k : Int)] ∧ e = 0 := by
  rcases h with ⟨i', h1, h2, _⟩ | ⟨_, i', k', h1, h2, h3, h4, h5, h6⟩ | ⟨_, h2, _⟩
  · exact absurd h2 (hall i' h1)
  · have : i' = i ∧ k' = k := by
      rcases Nat.lt_trichotomy i' i with h | h | h
      · exact absurd h3 (hq i' k' h1 h2 (.inl h))
      · subst h
        rcases Nat.lt_trichotomy k' k with h' | h' | h'
        · exact absurd h3 (hq i' k' h1 h2 (.inr ⟨rfl, h'⟩))
        · exact ⟨rfl, h'⟩
        · exact absurd hp (h4 i' k hik hk (.inr ⟨rfl, h'⟩))
      · exact absurd hp (h4 i k hik hk (.inl h))
    obtain ⟨rfl, rfl⟩ := this
    exact ⟨h5, h6⟩
  · exact absurd hp (h2 i k hik hk)
theorem IsC.at0 (h : IsC f g n s e) (hall : ∀ j, j < n → ¬ 0 < f j) (hq : ∀ a b, a < b → b < n → ¬ 0 < g a b) : s = [] ∧ e = 12 := by
  rcases h with ⟨i', h1, h2, _⟩ | ⟨_, i', k', h1, h2, h3, _⟩ | ⟨_, _, h3, h4⟩
  · exact absurd h2 (hall i' h1)
  · exact absurd h3 (hq i' k' h1 h2)
  · exact ⟨h3, h4⟩
theorem first_ex (p : Nat → Prop) (n : Nat) : (∃ i, i < n ∧ p i ∧ ∀ j, j < i → ¬ p j) ∨ ∀ j, j < n → ¬ p j := by
  induction n with
  | zero => exact .inr fun j h => absurd h (Nat.not_lt_zero j)
  | succ n ih =>
    rcases ih with ⟨i, h1, h2, h3⟩ | h
    · exact .inl ⟨i, by omega, h2, h3⟩
    · by_cases hp : p n
      · exact .inl ⟨n, by omega, hp, h⟩
      · refine .inr fun j hj => ?_
        by_cases hjn : j = n
        · subst hjn; exact hp
        · exact h j (by omega)
theorem isC_ex (f : Nat → Int) (g : Nat → Nat → Int) (n : Nat) : ∃ s e, IsC f g n s e ∧ s.length ≤ 2 := by
  rcases first_ex (fun i => 0 < f i) n with ⟨i, h1, h2, h3⟩ | h
  · exact ⟨_, _, .inl ⟨i, h1, h2, h3, rfl, rfl⟩, by simp⟩
  · rcases first_ex (fun i => ∃ k, i < k ∧ k < n ∧ 0 < g i k) n with ⟨i, h1, ⟨k0, hk0, hk0n, hk0p⟩, h3⟩ | h'
    · rcases first_ex (fun k => i < k ∧ 0 < g i k) n with ⟨k, k1, ⟨k2, k3⟩, k4⟩ | hn
      · refine ⟨_, _, .inr (.inl ⟨h, i, k, k2, k1, k3, fun a b hab hb hc hp => ?_, rfl, rfl⟩), by simp⟩
        rcases hc with hc | ⟨rfl, hc⟩
        · exact h3 a hc ⟨b, hab, hb, hp⟩
        · exact k4 b hc ⟨hab, hp⟩
      · exact absurd ⟨hk0, hk0p⟩ (hn k0 hk0n)
    · exact ⟨_, _, .inr (.inr ⟨h, fun a b hab hb hp => h' a (by omega) ⟨b, hab, hb, hp⟩, rfl, rfl⟩), by simp⟩
end
/-- The readings' own distances. -/
def fR (l : Ln) (b : List (Int × Int)) (r : List Rd) (i : Nat) : Int := loadD l b (r.getD i (0, 0, 0))
def gR (l : Ln) (b : List (Int × Int)) (r : List Rd) (i k : Nat) : Int := twoD l b (r.getD i (0, 0, 0)) (r.getD k (0, 0, 0))
end Go.Proofs.Ytekinmafdhgmpaa

namespace Go.Proofs.Ytekinmafdhgmpaa
open Go.RowKit Go.Shelf
attribute [local go_sem] monoUpon_value monoUpon_skip monoUpon_enter

theorem readingsErr_ok {l : Ln} {b : List (Int × Int)} {r : List Rd} (h : readingsErr l b r = 0) : LnOk l ∧ BoxOk l b ∧ boxErr l b = 0 ∧ r.length ≤ 12 ∧ ∀ x ∈ r, RdOk l.ks.length x := by
  unfold readingsErr at h
  by_cases h1 : boxErr l b = 0
  · rw [if_pos h1] at h
    obtain ⟨a1, a2⟩ := boxOk_of h1
    obtain ⟨a3, a4⟩ := rdsErr_ok h
    exact ⟨a1, a2, h1, a3, a4⟩
  · rw [if_neg h1] at h; exact absurd h h1
theorem max0 (d : Int) : (0 < d → (0 : Int) < max 0 d) ∧ (¬ 0 < d → max 0 d = 0) := by omega
set_option maxRecDepth 100000 in
set_option maxHeartbeats 1000000 in
theorem Contra_bad (v u t : Value) (l : Ln) (b : List (Int × Int)) (r : List Rd) (w : World) (hs : Sl e3 3 w v l.ks) (hu : Sl e2 2 w u b) (ht : Sl e3 3 w t r) (hbig : l.ks.length ≤ 1000) (hbig' : b.length ≤ 1000) (hbig'' : r.length ≤ 1000) (hne : ¬ readingsErr l b r = 0) :
    Calls Try.prog 11 #[.agg #[.int .i64 l.x, .int .i64 l.z, v], u, t] w fun e w' => e = .returned (.tuple #[.slice none 0 0, .int .i64 (readingsErr l b r)]) ∧ Below w.heap.size w w' := by
  have HC := Lib.hid (readingsError_any v u t l b r _ (hs.alloc (.cells #[.int .i64 l.x, .int .i64 l.z, v] 26)) (hu.alloc (.cells #[.int .i64 l.x, .int .i64 l.z, v] 26)) (ht.alloc (.cells #[.int .i64 l.x, .int .i64 l.z, v] 26)) hbig hbig' hbig'')
  obtain ⟨A, c, rfl, _⟩ := hs.form
  obtain ⟨A', c', rfl, _⟩ := hu.form
  obtain ⟨A'', c'', rfl, _⟩ := ht.form
  have h1' := ne1 hne
  clear hs hu ht hne
  generalize readingsErr l b r = q at *
  go_enter Try.func11, Try.ntmps11
  go_wp2_with (go_at_call 54; refine HC.out.mono ?_; rintro e w1 ⟨rfl, hb1⟩)
  go_ret2
  exact ⟨rfl, below_tr (below_alloc1 _ _) hb1⟩
set_option maxRecDepth 100000 in
set_option maxHeartbeats 8000000 in
theorem Contra_any (v u t : Value) (l : Ln) (b : List (Int × Int)) (r : List Rd) (s : List Int) (ec : Int) (w : World) (hs : Sl e3 3 w v l.ks) (hu : Sl e2 2 w u b) (ht : Sl e3 3 w t r) (hok : readingsErr l b r = 0) (hc : IsC (fR l b r) (gR l b r) r.length s ec) :
    Calls Try.prog 11 #[.agg #[.int .i64 l.x, .int .i64 l.z, v], u, t] w fun e w' => ∃ q, e = .returned (.tuple #[q, .int .i64 ec]) ∧ Sl e1 1 w' q s ∧ Below w.heap.size w w' := by
  obtain ⟨hl, hb, _, hr12, hrd⟩ := readingsErr_ok hok
  have hn1 := hl.n1
  have hbl := hb.len
  have HC := Lib.hid (readingsError_any v u t l b r _ (hs.alloc (.cells #[.int .i64 l.x, .int .i64 l.z, v] 26)) (hu.alloc (.cells #[.int .i64 l.x, .int .i64 l.z, v] 26)) (ht.alloc (.cells #[.int .i64 l.x, .int .i64 l.z, v] 26)) (by omega) (by omega) (by omega))
  rw [hok] at HC
  have HS := Lib.hid hs
  have HU := Lib.hid hu
  have HT := Lib.hid ht
  obtain ⟨A, c, rfl, _⟩ := hs.form
  obtain ⟨A', c', rfl, _⟩ := hu.form
  obtain ⟨A'', c'', rfl, _⟩ := ht.form
  have HIC := Lib.hid hc
  have HL : Hid (∀ k (h : k < r.length) W, Sl e3 3 W (.slice A l.ks.length c) l.ks → Sl e2 2 W (.slice A' b.length c') b → Calls Try.prog 55 #[.agg #[.int .i64 l.x, .int .i64 l.z, .slice A l.ks.length c], .slice A' b.length c', .agg #[.int .i64 r[k].1, .int .i64 r[k].2.1, .int .i64 r[k].2.2]] W fun e w' => e = .returned (.int .i64 (max 0 (fR l b r k))) ∧ Below W.heap.size W w') := by
    intro k h W k1 k2
    have := apartFromLoad_any _ _ l b r[k] W k1 k2 hl hb (hrd _ (List.getElem_mem h))
    unfold fR
    rwa [getD_eq _ _ _ h]
  have HE : Hid (∀ i k (hi : i < r.length) (h : k < r.length) W, Sl e3 3 W (.slice A l.ks.length c) l.ks → Sl e2 2 W (.slice A' b.length c') b → Calls Try.prog 56 #[.agg #[.int .i64 l.x, .int .i64 l.z, .slice A l.ks.length c], .slice A' b.length c', .agg #[.int .i64 r[i].1, .int .i64 r[i].2.1, .int .i64 r[i].2.2], .agg #[.int .i64 r[k].1, .int .i64 r[k].2.1, .int .i64 r[k].2.2]] W fun e w' => e = .returned (.int .i64 (max 0 (gR l b r i k))) ∧ Below W.heap.size W w') := by
    intro i k hi h W k1 k2
    have := apartFromEachOther_any _ _ l b r[i] r[k] W k1 k2 hl hb (hrd _ (List.getElem_mem hi)) (hrd _ (List.getElem_mem h))
    unfold gR
    rwa [getD_eq _ _ _ h, getD_eq _ _ _ hi]
  generalize fR l b r = f at *
  generalize gR l b r = g at *
  clear hs hu ht hok hc hl hb hrd hbl
  go_enter Try.func11, Try.ntmps11
  go_wp2_with (go_at_call 54; refine HC.out.mono ?_; rintro e w1 ⟨rfl, hb1⟩; have HB1 := Lib.hid hb1; clear hb1)
  have HX : Hid (∀ W, Below w1.heap.size w1 W → (W.cell? ⟨w.heap.size, 0, none⟩ = some (.int .i64 l.x) ∧ W.cell? ⟨w.heap.size, 1, none⟩ = some (.int .i64 l.z) ∧ W.cell? ⟨w.heap.size, 2, none⟩ = some (.slice A l.ks.length c)) ∧ Sl e3 3 W (.slice A l.ks.length c) l.ks ∧ Sl e2 2 W (.slice A' b.length c') b ∧ Sl e3 3 W (.slice A'' r.length c'') r ∧ Below w.heap.size w W) := by
    intro W h
    have hb : Below w.heap.size w W := below_tr (below_tr (below_alloc1 _ _) HB1.out) h
    have bx := fun j v hv => ((At.new w #[.int .i64 l.x, .int .i64 l.z, .slice A l.ks.length c] 26 j v hv).below HB1.out).below h
    exact ⟨⟨(bx 0 _ rfl).1, (bx 1 _ rfl).1, (bx 2 _ rfl).1⟩, HS.out.below hb, HU.out.below hb, HT.out.below hb, hb⟩
  clear HS HU HT HC HB1
  go_loopw [9, 10, 23] (fun _ _ i wr => ∃ k : Nat, k ≤ r.length ∧ i = .int .i64 k ∧ (∀ j, j < k → ¬ 0 < f j) ∧ Below w1.heap.size w1 wr) (fun _ _ i _ => r.length - (intOf i).toNat)
  case atStart => exact ⟨0, Nat.zero_le _, rfl, fun j h => absurd h (Nat.not_lt_zero j), Below.refl _ _⟩
  case round =>
    obtain ⟨k, hk, rfl, hall, hb⟩ := hrel
    have HB := Lib.hid hb
    have HALL := Lib.hid hall
    clear hb hall
    by_cases hlt : k < r.length
    · obtain ⟨br, or', rfl, hbl', c0, c1, c2⟩ := (HX.out wr HB.out).2.2.2.1.at3 hlt
      have HK := Lib.hid (HL.out k hlt)
      obtain ⟨⟨g0, g1, g2⟩, _⟩ := HX.out wr HB.out
      have hkl : (k : Int) < (r.length : Int) := by omega
      have hk0 : (0 : Int) ≤ (k : Int) := by omega
      have hbx := cell_lt g0
      simp only at hbx
      generalize r[k] = x at *
      obtain ⟨x0, x1, x2⟩ := x
      simp only at HK c0 c1 c2
      have hHK : ∀ W, Below wr.heap.size wr W → Sl e3 3 W (.slice A l.ks.length c) l.ks ∧ Sl e2 2 W (.slice A' b.length c') b := fun W h => ⟨(HX.out W (below_tr HB.out h)).2.1, (HX.out W (below_tr HB.out h)).2.2.1⟩
      have HHK := Lib.hid hHK
      clear hHK
      by_cases hp : 0 < f k
      · obtain ⟨rfl, rfl⟩ := HIC.out.at1 hlt hp (fun j hj => by have := HALL.out j hj; omega)
        have hm := (max0 (f k)).1 hp
        generalize max 0 (f k) = d at *
        have hm' : decide (0 < d) = true := decide_eq_true hm
        clear hp
        go_wp2_with (go_at_call 55; refine (HK.out _ (HHK.out _ (below_alloc1 _ _)).1 (HHK.out _ (below_alloc1 _ _)).2).mono ?_; rintro e w2 ⟨rfl, b2⟩)
        go_ret2
        exact ⟨_, rfl, by simpa using sl1 w2 (k : Int) 3, below_al (below_tr (HX.out _ (below_al HB.out _)).2.2.2.2 b2) _⟩
      · have hm := (max0 (f k)).2 hp
        rw [hm] at HK
        clear hm
        go_wp2_with (go_at_call 55; refine (HK.out _ (HHK.out _ (below_alloc1 _ _)).1 (HHK.out _ (below_alloc1 _ _)).2).mono ?_; rintro e w2 ⟨rfl, b2⟩)
        go_roundw
        case rel =>
          refine ⟨k + 1, by omega, by go_num, fun j hj => ?_, below_tr (below_al HB.out _) b2⟩
          by_cases hjk : j = k
          · subst hjk; omega
          · have := HALL.out j (by omega); omega
        case measure => simp [intOf]; omega
    · obtain rfl : k = r.length := by omega
      generalize wr = wA at *
      have HPF := Lib.hid (fun W (h : Below wA.heap.size wA W) => HX.out W (below_tr HB.out h))
      go_wp2_with fail
      go_loopg [11, 12, 13, 39] r.length (fun gm _ _ _ i wq => ∃ k : Nat, k ≤ r.length ∧ gm = r.length - k ∧ i = .int .i64 k ∧ (∀ a b, a < b → b < r.length → a < k → ¬ 0 < g a b) ∧ Below wA.heap.size wA wq)
      case atStart => exact ⟨0, Nat.zero_le _, rfl, rfl, fun a b _ _ h => absurd h (Nat.not_lt_zero a), Below.refl _ _⟩
      case round =>
        obtain ⟨k, hk, rfl, rfl, hpr, hb⟩ := hrel
        generalize wr = wQ at *
        have HB2 := Lib.hid hb
        have HPR := Lib.hid hpr
        clear hb hpr
        by_cases hlt2 : k < r.length
        · obtain ⟨br, or', rfl, hbl', c0, c1, c2⟩ := (HPF.out wQ HB2.out).2.2.2.1.at3 hlt2
          obtain ⟨xk, exk⟩ : ∃ x, r[k] = x := ⟨_, rfl⟩
          rw [exk] at c0 c1 c2
          obtain ⟨x0, x1, x2⟩ := xk
          simp only at c0 c1 c2
          have hkl : (k : Int) < (r.length : Int) := by omega
          have hk0 : (0 : Int) ≤ (k : Int) := by omega
          have hwk : IntKind.i64.wrap ((k : Int) + 1) = (k : Int) + 1 := IntWalk.i64_in _ (by omega)
          have HKE : Hid (∀ j (h : j < r.length) W, Sl e3 3 W (.slice A l.ks.length c) l.ks → Sl e2 2 W (.slice A' b.length c') b → Calls Try.prog 56 #[.agg #[.int .i64 l.x, .int .i64 l.z, .slice A l.ks.length c], .slice A' b.length c', .agg #[.int .i64 x0, .int .i64 x1, .int .i64 x2], .agg #[.int .i64 r[j].1, .int .i64 r[j].2.1, .int .i64 r[j].2.2]] W fun e w' => e = .returned (.int .i64 (max 0 (g k j))) ∧ Below W.heap.size W w') := fun j h W k1 k2 => by
            have := HE.out k j hlt2 h W k1 k2
            rw [exk] at this
            exact this
          clear exk
          obtain ⟨wB, hwB⟩ : ∃ wB, wB = wQ.alloc (.cells #[.int .i64 x0, .int .i64 x1, .int .i64 x2] 63) := ⟨_, rfl⟩
          have HPB : Hid (∀ W, Below wB.heap.size wB W → (W.cell? ⟨wQ.heap.size, 0, none⟩ = some (.int .i64 x0) ∧ W.cell? ⟨wQ.heap.size, 1, none⟩ = some (.int .i64 x1) ∧ W.cell? ⟨wQ.heap.size, 2, none⟩ = some (.int .i64 x2)) ∧ Below wA.heap.size wA W) := by
            intro W h
            rw [hwB] at h
            have bx := fun j v hv => (At.new wQ #[.int .i64 x0, .int .i64 x1, .int .i64 x2] 63 j v hv).below h
            exact ⟨⟨(bx 0 _ rfl).1, (bx 1 _ rfl).1, (bx 2 _ rfl).1⟩, below_tr (below_al HB2.out _) h⟩
          go_wp2_with fail
          rw [← hwB]
          clear hwB c0 c1 c2
          go_loopg [13] (r.length - (k + 1)) (fun gm i wi => ∃ j : Nat, k + 1 ≤ j ∧ j ≤ r.length ∧ gm = r.length - j ∧ i = .int .i64 j ∧ (∀ b, k < b → b < j → g k b ≤ 0) ∧ Below wB.heap.size wB wi)
          case atStart => exact ⟨k + 1, Nat.le_refl _, by omega, rfl, by go_num, fun b h1 h2 => by omega, Below.refl _ _⟩
          case round =>
            obtain ⟨j, hj1, hj, rfl, rfl, hpq, hb⟩ := hrel
            generalize wr = wI at *
            have HB3 := Lib.hid hb
            have HPQ := Lib.hid hpq
            clear hb hpq
            by_cases hlt3 : j < r.length
            · have HK := Lib.hid (HKE.out j hlt3)
              have HYY := Lib.hid (fun W (h : Below wB.heap.size wB W) => (HPF.out W (HPB.out W h).2).2.2.2.1.at3 (k := j) hlt3)
              generalize r[j] = y at *
              obtain ⟨y0, y1, y2⟩ := y
              simp only at HK HYY
              have hjl : (j : Int) < (r.length : Int) := by omega
              have hj0 : (0 : Int) ≤ (j : Int) := by omega
              have HXI : Hid (∀ W, Below wI.drew.heap.size wI.drew W → Below wB.heap.size wB W) := fun W hW => below_tr HB3.out (Below.trans (Below.drew (Below.refl _ _)) hW)
              obtain ⟨dv, hdv⟩ : ∃ dv, dv = max 0 (g k j) := ⟨_, rfl⟩
              rw [← hdv] at HK
              have hdc : (0 < g k j ∧ decide (0 < dv) = true) ∨ (¬ 0 < g k j ∧ decide (0 < dv) = false) := by
                by_cases hp : 0 < g k j
                · exact .inl ⟨hp, decide_eq_true (by rw [hdv]; exact (max0 _).1 hp)⟩
                · exact .inr ⟨hp, decide_eq_false (by rw [hdv, (max0 _).2 hp]; omega)⟩
              have HDC := Lib.hid hdc
              clear hdv hdc
              go_wp2_with fail
              refine wp_region_mono 9 [52, 53, 54, 55, 56, 57, 58, 59, 60] [[], [0], [], [], [], [], [4, 5], [6], [1, 2, 3, 7]] [fun v _ => v = .agg #[.int .i64 l.x, .int .i64 l.z, .slice A l.ks.length c], fun v _ => v = .agg #[.int .i64 l.x, .int .i64 l.z, .slice A l.ks.length c], fun v _ => v = .slice A' b.length c', fun v _ => v = .agg #[.int .i64 x0, .int .i64 x1, .int .i64 x2], fun v _ => v = .slice (some ⟨br, or', none⟩) r.length c'', fun v _ => v = .int .i64 j, fun v _ => v = .pointer (some ⟨br, or' + j * 3, none⟩), fun v _ => v = .agg #[.int .i64 y0, .int .i64 y1, .int .i64 y2], fun v _ => v = .int .i64 dv] (by kernel_rfl) (by kernel_rfl) ⟨st_eq _, st_eq _, st_eq _, st_eq _, st_eq _, st_eq _, st_eq _, st_eq _, st_eq _, trivial⟩ ?_ ?_
              · simp only [List.take_succ_cons, List.take_zero, steps, and_true]
                refine ⟨?_, ?_, ?_, ?_, ?_, ?_, ?_, ?_, ?_⟩
                · intro x W hB _; simp only [putX, setX, List.foldl_cons, List.foldl_nil]; obtain ⟨⟨c0, c1, c2⟩, _⟩ := HPF.out W (HPB.out W (HXI.out W hB)).2; refine ⟨?_⟩; go_simp; exact ⟨rfl, Below.refl _ _⟩
                · intro x W hB hN; simp only [needs, sAt, dAt] at hN; simp only [putX, setX, List.foldl_cons, List.foldl_nil]; refine ⟨?_⟩; go_simp; exact ⟨rfl, Below.refl _ _⟩
                · intro x W hB _; simp only [putX, setX, List.foldl_cons, List.foldl_nil]; refine ⟨?_⟩; go_simp; exact ⟨rfl, Below.refl _ _⟩
                · intro x W hB _; simp only [putX, setX, List.foldl_cons, List.foldl_nil]; obtain ⟨⟨c0, c1, c2⟩, _⟩ := HPB.out W (HXI.out W hB); refine ⟨?_⟩; go_simp; exact ⟨rfl, Below.refl _ _⟩
                · intro x W hB _; simp only [putX, setX, List.foldl_cons, List.foldl_nil]; refine ⟨?_⟩; go_simp; exact ⟨rfl, Below.refl _ _⟩
                · intro x W hB _; simp only [putX, setX, List.foldl_cons, List.foldl_nil]; refine ⟨?_⟩; go_simp; exact ⟨rfl, Below.refl _ _⟩
                · intro x W hB hN; simp only [needs, sAt, dAt] at hN; simp only [putX, setX, List.foldl_cons, List.foldl_nil]; refine ⟨?_⟩; go_simp; exact ⟨rfl, Below.refl _ _⟩
                · intro x W hB hN; simp only [needs, sAt, dAt] at hN; simp only [putX, setX, List.foldl_cons, List.foldl_nil]; obtain ⟨_, _, ep, _, c0, c1, c2⟩ := HYY.out W (HXI.out W hB); injection ep with ep; injection ep with ep1 ep2; subst ep1; subst ep2; refine ⟨?_⟩; go_simp; exact ⟨rfl, Below.refl _ _⟩
                · intro x W hB hN; simp only [needs, sAt, dAt] at hN; simp only [putX, setX, List.foldl_cons, List.foldl_nil]; refine ⟨?_⟩; go_simp; refine (HK.out _ (HPF.out W (HPB.out W (HXI.out W hB)).2).2.1 (HPF.out W (HPB.out W (HXI.out W hB)).2).2.2.1).mono ?_; rintro e w' ⟨rfl, b1⟩; exact ⟨_, rfl, rfl, b1⟩
              · intro x W hB hA
                simp only [allSp] at hA
                have s1 := hA.2.2.2.2.2.2.2.2.1
                have HBW := Lib.hid (HXI.out W hB)
                clear hA hB HXI
                simp only [putX, setX, List.foldl_cons, List.foldl_nil, List.drop_succ_cons, List.drop_zero]
                rcases HDC.out with ⟨hp, hd1⟩ | ⟨hp, hd1⟩
                · obtain ⟨rfl, rfl⟩ := HIC.out.at2 (fun j hj => by have := HALL.out j hj; omega) (i := k) (k := j) (by omega) hlt3 hp (fun a b h1 h2 h3 => by
                    rcases h3 with h3 | ⟨rfl, h3⟩
                    · have := HPR.out a b h1 h2 h3; omega
                    · have := HPQ.out b h1 h3; omega)
                  clear hp
                  go_wp2_with fail
                  go_ret2
                  exact ⟨_, rfl, by simpa using sl2 W (k : Int) (j : Int) 3, below_al (HPF.out _ (HPB.out W HBW.out).2).2.2.2.2 _⟩
                · have HNP := Lib.hid hp
                  clear hp
                  go_wp2_with fail
                  go_roundg (r.length - (j + 1))
                  case measure => omega
                  case rel =>
                    refine ⟨j + 1, by omega, by omega, rfl, by go_num, fun b h1 h2 => ?_, HBW.out⟩
                    by_cases hbj : b = j
                    · subst hbj; have := HNP.out; omega
                    · exact HPQ.out b h1 (by omega)
            · obtain rfl : j = r.length := by omega
              go_wp2_with fail
              go_roundg (r.length - (k + 1))
              case measure => omega
              case rel =>
                refine ⟨k + 1, by omega, rfl, by go_num, fun a b h1 h2 h3 => ?_, (HPB.out _ HB3.out).2⟩
                by_cases hak : a = k
                · subst hak; exact HPQ.out b h1 h2
                · have := HPR.out a b h1 h2 (by omega); omega
        · obtain rfl : k = r.length := by omega
          obtain ⟨rfl, rfl⟩ := HIC.out.at0 (fun j hj => by have := HALL.out j hj; omega) fun a b h1 h2 => by have := HPR.out a b h1 h2 (by omega); omega
          go_wp2_with fail
          go_ret2
          exact ⟨_, rfl, Sl.nil _ _ _, (HPF.out _ HB2.out).2.2.2.2⟩
end Go.Proofs.Ytekinmafdhgmpaa

namespace Go.Proofs.Ytekinmafdhgmpaa
open Go.RowKit Go.Shelf
attribute [local go_sem] monoUpon_value monoUpon_skip monoUpon_enter

def dC (l : Ln) (b : List (Int × Int)) (r : List Rd) : List Int → Int
  | [i] => fR l b r i.toNat
  | [i, j] => gR l b r i.toNat j.toNat
  | _ => 0
def setRes (l : Ln) (b : List (Int × Int)) (r : List Rd) (s : List Int) : Int × Int := if setErr r.length s = 0 then (if 0 < dC l b r s then (dC l b r s, 0) else (0, 19)) else (0, setErr r.length s)
def checkC (l : Ln) (b : List (Int × Int)) (r : List Rd) (s : List Int) : Int × Int := if readingsErr l b r = 0 then setRes l b r s else (0, readingsErr l b r)
theorem stErr_ok {n : Nat} {p i : Int} (h : stErr n p i = 0) : (0 ≤ i ∧ i < (n : Int)) ∧ p < i := by
  unfold stErr at h
  by_cases h1 : 0 ≤ i ∧ i < (n : Int)
  · rw [if_pos h1] at h
    by_cases h2 : i ≤ p
    · rw [if_pos h2] at h; omega
    · exact ⟨h1, by omega⟩
  · rw [if_neg h1] at h; omega
theorem setErr_ok {n : Nat} {s : List Int} (h : setErr n s = 0) : (∃ i : Nat, i < n ∧ s = [(i : Int)]) ∨ ∃ i j : Nat, i < j ∧ j < n ∧ s = [(i : Int), (j : Int)] := by
  match s, h with
  | [], h => exact absurd (show (10 : Int) = 0 from h) (by decide)
  | [i], h =>
    obtain ⟨⟨h1, h2⟩, _⟩ := stErr_ok (show stErr n (-1) i = 0 from h)
    exact .inl ⟨i.toNat, by omega, by rw [show ((i.toNat : Nat) : Int) = i by omega]⟩
  | [i, j], h =>
    have h' : (if stErr n (-1) i = 0 then stErr n i j else stErr n (-1) i) = 0 := h
    by_cases h0 : stErr n (-1) i = 0
    · rw [if_pos h0] at h'
      obtain ⟨⟨h1, h2⟩, _⟩ := stErr_ok h0
      obtain ⟨⟨h3, h4⟩, h5⟩ := stErr_ok h'
      exact .inr ⟨i.toNat, j.toNat, by omega, by omega, by rw [show ((i.toNat : Nat) : Int) = i by omega, show ((j.toNat : Nat) : Int) = j by omega]⟩
    · rw [if_neg h0] at h'; exact absurd h' h0
  | _ :: _ :: _ :: _, h => exact absurd (show (10 : Int) = 0 from h) (by decide)
theorem ret_c {q : Int × Int} {a b : Int} (h : q = (a, b)) : Ending.returned (.tuple #[.int .i64 a, .int .i64 b]) = .returned (.tuple #[.int .i64 q.1, .int .i64 q.2]) := by rw [h]
set_option maxRecDepth 100000 in
set_option maxHeartbeats 8000000 in
theorem CheckC_any (v u t y : Value) (l : Ln) (b : List (Int × Int)) (r : List Rd) (s : List Int) (w : World) (hs : Sl e3 3 w v l.ks) (hu : Sl e2 2 w u b) (ht : Sl e3 3 w t r) (hy : Sl e1 1 w y s) (hbig : l.ks.length ≤ 1000) (hbig' : b.length ≤ 1000) (hbig'' : r.length ≤ 1000) (hbg : s.length ≤ 1000) :
    Calls Try.prog 15 #[.agg #[.int .i64 l.x, .int .i64 l.z, v], u, t, y] w fun e w' => e = .returned (.tuple #[.int .i64 (checkC l b r s).1, .int .i64 (checkC l b r s).2]) ∧ Below w.heap.size w w' := by
  have HC := Lib.hid (readingsError_any v u t l b r _ (hs.alloc (.cells #[.int .i64 l.x, .int .i64 l.z, v] 26)) (hu.alloc (.cells #[.int .i64 l.x, .int .i64 l.z, v] 26)) (ht.alloc (.cells #[.int .i64 l.x, .int .i64 l.z, v] 26)) hbig hbig' hbig'')
  have HS := Lib.hid hs
  have HU := Lib.hid hu
  have HT := Lib.hid ht
  have HY := Lib.hid hy
  by_cases h1 : readingsErr l b r = 0
  · have E0 : checkC l b r s = setRes l b r s := if_pos h1
    obtain ⟨hl, hb, _, hr12, hrd⟩ := readingsErr_ok h1
    rw [h1] at HC
    have HSE := Lib.hid (fun W h k => setError_any t y r s W h k hbg)
    by_cases h2 : setErr r.length s = 0
    · have E1 : setRes l b r s = if 0 < dC l b r s then (dC l b r s, 0) else (0, 19) := if_pos h2
      rw [E1] at E0
      rw [h2] at HSE
      obtain ⟨A, c, rfl, _⟩ := hs.form
      obtain ⟨A', c', rfl, _⟩ := hu.form
      obtain ⟨A'', c'', rfl, _⟩ := ht.form
      rcases setErr_ok h2 with ⟨i, hi, rfl⟩ | ⟨i, j, hij, hj, rfl⟩
      · have hd : dC l b r [(i : Int)] = fR l b r i := rfl
        rw [hd] at E0
        have HK : Hid (∀ W, Sl e3 3 W (.slice A l.ks.length c) l.ks → Sl e2 2 W (.slice A' b.length c') b → Calls Try.prog 55 #[.agg #[.int .i64 l.x, .int .i64 l.z, .slice A l.ks.length c], .slice A' b.length c', .agg #[.int .i64 r[i].1, .int .i64 r[i].2.1, .int .i64 r[i].2.2]] W fun e w' => e = .returned (.int .i64 (max 0 (fR l b r i))) ∧ Below W.heap.size W w') := by
          intro W k1 k2
          have := apartFromLoad_any _ _ l b r[i] W k1 k2 hl hb (hrd _ (List.getElem_mem hi))
          unfold fR
          rwa [getD_eq _ _ _ hi]
        have HTI := Lib.hid (fun W (h : Sl e3 3 W (.slice A'' r.length c'') r) => h.at3 (k := i) hi)
        generalize checkC l b r [(i : Int)] = res at *
        generalize fR l b r i = d at *
        clear hs hu ht h1 h2 E1 hl hb hrd hd
        generalize r[i] = xi at *
        obtain ⟨A3, c3, rfl, _⟩ := hy.form
        simp only [List.length_cons, List.length_nil, Nat.zero_add] at HY HSE
        obtain ⟨bs, os, rfl, _, _⟩ := HY.out.at1 (k := 0) (by simp)
        obtain ⟨br, or', rfl, _, _, _, _⟩ := HTI.out w HT.out
        obtain ⟨y0, y1, y2⟩ := xi
        simp only at HK HTI
        have hil : (i : Int) < (r.length : Int) := by omega
        have hi0 : (0 : Int) ≤ (i : Int) := by omega
        have hd2 : (0 < d ∧ (max 0 d == 0) = false) ∨ (¬ 0 < d ∧ (max 0 d == 0) = true) := by
          by_cases hp : 0 < d
          · exact .inl ⟨hp, eq1 (by omega)⟩
          · exact .inr ⟨hp, eq0 (by omega)⟩
        have HD2 := Lib.hid hd2
        have HE0 := Lib.hid E0
        clear hy E0 hd2
        go_enter Try.func15, Try.ntmps15
        go_wp2_with (first
          | (go_at_call 54; refine HC.out.mono ?_; rintro e w1 ⟨rfl, hb1⟩; have HAT := Lib.hid (fun j v hv => (At.new w #[.int .i64 l.x, .int .i64 l.z, .slice A l.ks.length c] 26 j v hv).below hb1); have HB1 := Lib.hid (below_tr (below_alloc1 _ _) hb1); clear hb1)
          | (go_at_call 57; refine (HSE.out _ (HT.out.below HB1.out) (HY.out.below HB1.out)).mono ?_; rintro e w2 ⟨rfl, hb2⟩; have HB2 := Lib.hid hb2; clear hb2))
        have HX : Hid (∀ W, Below w2.drew.heap.size w2.drew W → (W.cell? ⟨w.heap.size, 0, none⟩ = some (.int .i64 l.x) ∧ W.cell? ⟨w.heap.size, 1, none⟩ = some (.int .i64 l.z) ∧ W.cell? ⟨w.heap.size, 2, none⟩ = some (.slice A l.ks.length c)) ∧ Sl e3 3 W (.slice A l.ks.length c) l.ks ∧ Sl e2 2 W (.slice A' b.length c') b ∧ Sl e3 3 W (.slice (some ⟨br, or', none⟩) r.length c'') r ∧ Sl e1 1 W (.slice (some ⟨bs, os, none⟩) 1 c3) [(i : Int)] ∧ Below w.heap.size w W) := by
          intro W h
          have h' : Below w1.heap.size w1 W := below_tr HB2.out (Below.trans (Below.drew (Below.refl _ _)) h)
          have hb : Below w.heap.size w W := below_tr HB1.out h'
          exact ⟨⟨((HAT.out 0 _ rfl).below h').1, ((HAT.out 1 _ rfl).below h').1, ((HAT.out 2 _ rfl).below h').1⟩, HS.out.below hb, HU.out.below hb, HT.out.below hb, HY.out.below hb, hb⟩
        clear HC HSE
        refine wp_region_mono 10 [29, 30, 31, 32, 33, 34, 35, 36, 37, 38] [[], [0], [], [], [], [4], [5], [3, 6], [7], [1, 2, 8]] [fun v _ => v = .agg #[.int .i64 l.x, .int .i64 l.z, .slice A l.ks.length c], fun v _ => v = .agg #[.int .i64 l.x, .int .i64 l.z, .slice A l.ks.length c], fun v _ => v = .slice A' b.length c', fun v _ => v = .slice (some ⟨br, or', none⟩) r.length c'', fun v _ => v = .slice (some ⟨bs, os, none⟩) 1 c3, fun v _ => v = .pointer (some ⟨bs, os, none⟩), fun v _ => v = .int .i64 i, fun v _ => v = .pointer (some ⟨br, or' + i * 3, none⟩), fun v _ => v = .agg #[.int .i64 y0, .int .i64 y1, .int .i64 y2], fun v _ => v = .int .i64 (max 0 d)] (by kernel_rfl) (by kernel_rfl) ⟨st_eq _, st_eq _, st_eq _, st_eq _, st_eq _, st_eq _, st_eq _, st_eq _, st_eq _, st_eq _, trivial⟩ ?_ ?_
        · simp only [List.take_succ_cons, List.take_zero, steps, and_true]
          refine ⟨?_, ?_, ?_, ?_, ?_, ?_, ?_, ?_, ?_, ?_⟩
          · intro x W hB _; simp only [putX, setX, List.foldl_cons, List.foldl_nil]; obtain ⟨⟨c0, c1, c2⟩, _⟩ := HX.out W hB; refine ⟨?_⟩; go_simp; exact ⟨rfl, Below.refl _ _⟩
          · intro x W hB hN; simp only [needs, sAt, dAt] at hN; simp only [putX, setX, List.foldl_cons, List.foldl_nil]; refine ⟨?_⟩; go_simp; exact ⟨rfl, Below.refl _ _⟩
          · intro x W hB _; simp only [putX, setX, List.foldl_cons, List.foldl_nil]; refine ⟨?_⟩; go_simp; exact ⟨rfl, Below.refl _ _⟩
          · intro x W hB _; simp only [putX, setX, List.foldl_cons, List.foldl_nil]; refine ⟨?_⟩; go_simp; exact ⟨rfl, Below.refl _ _⟩
          · intro x W hB _; simp only [putX, setX, List.foldl_cons, List.foldl_nil]; refine ⟨?_⟩; go_simp; exact ⟨rfl, Below.refl _ _⟩
          · intro x W hB hN; simp only [needs, sAt, dAt] at hN; simp only [putX, setX, List.foldl_cons, List.foldl_nil]; refine ⟨?_⟩; go_simp; exact ⟨rfl, Below.refl _ _⟩
          · intro x W hB hN; simp only [needs, sAt, dAt] at hN; simp only [putX, setX, List.foldl_cons, List.foldl_nil]; obtain ⟨_, _, ep, _, c0⟩ := (HX.out W hB).2.2.2.2.1.at1 (k := 0) (by simp); injection ep with ep; injection ep with ep1 ep2; subst ep1; subst ep2; simp only [Nat.add_zero, List.getElem_cons_zero] at c0; refine ⟨?_⟩; go_simp; exact ⟨rfl, Below.refl _ _⟩
          · intro x W hB hN; simp only [needs, sAt, dAt] at hN; simp only [putX, setX, List.foldl_cons, List.foldl_nil]; refine ⟨?_⟩; go_simp; exact ⟨rfl, Below.refl _ _⟩
          · intro x W hB hN; simp only [needs, sAt, dAt] at hN; simp only [putX, setX, List.foldl_cons, List.foldl_nil]; obtain ⟨_, _, ep, _, c0, c1, c2⟩ := HTI.out W (HX.out W hB).2.2.2.1; injection ep with ep; injection ep with ep1 ep2; subst ep1; subst ep2; refine ⟨?_⟩; go_simp; exact ⟨rfl, Below.refl _ _⟩
          · intro x W hB hN; simp only [needs, sAt, dAt] at hN; simp only [putX, setX, List.foldl_cons, List.foldl_nil]; refine ⟨?_⟩; go_simp; refine (HK.out _ (HX.out W hB).2.1 (HX.out W hB).2.2.1).mono ?_; rintro e w' ⟨rfl, b1⟩; exact ⟨_, rfl, rfl, b1⟩
        · intro x W hB hA
          simp only [allSp] at hA
          have s1 := hA.2.2.2.2.2.2.2.2.2.1
          have HBW := Lib.hid (HX.out W hB).2.2.2.2.2
          clear hA hB HX
          simp only [putX, setX, List.foldl_cons, List.foldl_nil, List.drop_succ_cons, List.drop_zero]
          rcases HD2.out with ⟨hp, hm⟩ | ⟨hp, hm⟩
          · have E : Hid (res = (max 0 d, 0)) := by
              have h := HE0.out
              rw [if_pos hp] at h
              rw [show max 0 d = d by omega]
              exact h
            generalize max 0 d = m at *
            clear hp
            go_wp2_with fail
            go_ret2
            exact ⟨ret_c E.out, HBW.out⟩
          · have E : Hid (res = (0, 19)) := by
              have h := HE0.out
              rw [if_neg (by omega)] at h
              exact h
            generalize max 0 d = m at *
            clear hp
            go_wp2_with fail
            go_ret2
            exact ⟨ret_c E.out, HBW.out⟩
      · have hi : i < r.length := by omega
        have hd : dC l b r [(i : Int), (j : Int)] = gR l b r i j := rfl
        rw [hd] at E0
        have HK : Hid (∀ W, Sl e3 3 W (.slice A l.ks.length c) l.ks → Sl e2 2 W (.slice A' b.length c') b → Calls Try.prog 56 #[.agg #[.int .i64 l.x, .int .i64 l.z, .slice A l.ks.length c], .slice A' b.length c', .agg #[.int .i64 r[i].1, .int .i64 r[i].2.1, .int .i64 r[i].2.2], .agg #[.int .i64 r[j].1, .int .i64 r[j].2.1, .int .i64 r[j].2.2]] W fun e w' => e = .returned (.int .i64 (max 0 (gR l b r i j))) ∧ Below W.heap.size W w') := by
          intro W k1 k2
          have := apartFromEachOther_any _ _ l b r[i] r[j] W k1 k2 hl hb (hrd _ (List.getElem_mem hi)) (hrd _ (List.getElem_mem hj))
          unfold gR
          rwa [getD_eq _ _ _ hi, getD_eq _ _ _ hj]
        have HTI := Lib.hid (fun W (h : Sl e3 3 W (.slice A'' r.length c'') r) => h.at3 (k := i) hi)
        have HTJ := Lib.hid (fun W (h : Sl e3 3 W (.slice A'' r.length c'') r) => h.at3 (k := j) hj)
        generalize checkC l b r [(i : Int), (j : Int)] = res at *
        generalize gR l b r i j = d at *
        clear hs hu ht h1 h2 E1 hl hb hrd hd
        generalize r[i] = xi at *
        generalize r[j] = xj at *
        obtain ⟨A3, c3, rfl, _⟩ := hy.form
        simp only [List.length_cons, List.length_nil, Nat.zero_add, Nat.reduceAdd] at HY HSE
        obtain ⟨bs, os, rfl, _, _⟩ := HY.out.at1 (k := 0) (by simp)
        obtain ⟨br, or', rfl, _, _, _, _⟩ := HTI.out w HT.out
        obtain ⟨y0, y1, y2⟩ := xi
        obtain ⟨z0, z1, z2⟩ := xj
        simp only at HK HTI HTJ
        have hil : (i : Int) < (r.length : Int) := by omega
        have hi0 : (0 : Int) ≤ (i : Int) := by omega
        have hjl : (j : Int) < (r.length : Int) := by omega
        have hj0 : (0 : Int) ≤ (j : Int) := by omega
        have hd2 : (0 < d ∧ (max 0 d == 0) = false) ∨ (¬ 0 < d ∧ (max 0 d == 0) = true) := by
          by_cases hp : 0 < d
          · exact .inl ⟨hp, eq1 (by omega)⟩
          · exact .inr ⟨hp, eq0 (by omega)⟩
        have HD2 := Lib.hid hd2
        have HE0 := Lib.hid E0
        clear hy E0 hd2
        go_enter Try.func15, Try.ntmps15
        go_wp2_with (first
          | (go_at_call 54; refine HC.out.mono ?_; rintro e w1 ⟨rfl, hb1⟩; have HAT := Lib.hid (fun j v hv => (At.new w #[.int .i64 l.x, .int .i64 l.z, .slice A l.ks.length c] 26 j v hv).below hb1); have HB1 := Lib.hid (below_tr (below_alloc1 _ _) hb1); clear hb1)
          | (go_at_call 57; refine (HSE.out _ (HT.out.below HB1.out) (HY.out.below HB1.out)).mono ?_; rintro e w2 ⟨rfl, hb2⟩; have HB2 := Lib.hid hb2; clear hb2))
        have HX : Hid (∀ W, Below w2.drew.heap.size w2.drew W → (W.cell? ⟨w.heap.size, 0, none⟩ = some (.int .i64 l.x) ∧ W.cell? ⟨w.heap.size, 1, none⟩ = some (.int .i64 l.z) ∧ W.cell? ⟨w.heap.size, 2, none⟩ = some (.slice A l.ks.length c)) ∧ Sl e3 3 W (.slice A l.ks.length c) l.ks ∧ Sl e2 2 W (.slice A' b.length c') b ∧ Sl e3 3 W (.slice (some ⟨br, or', none⟩) r.length c'') r ∧ Sl e1 1 W (.slice (some ⟨bs, os, none⟩) 2 c3) [(i : Int), (j : Int)] ∧ Below w.heap.size w W) := by
          intro W h
          have h' : Below w1.heap.size w1 W := below_tr HB2.out (Below.trans (Below.drew (Below.refl _ _)) h)
          have hb : Below w.heap.size w W := below_tr HB1.out h'
          exact ⟨⟨((HAT.out 0 _ rfl).below h').1, ((HAT.out 1 _ rfl).below h').1, ((HAT.out 2 _ rfl).below h').1⟩, HS.out.below hb, HU.out.below hb, HT.out.below hb, HY.out.below hb, hb⟩
        clear HC HSE
        refine wp_region_mono 16 [39, 40, 41, 42, 43, 44, 45, 46, 47, 48, 49, 50, 51, 52, 53, 54] [[], [0], [], [], [], [4], [5], [3, 6], [7], [], [], [10], [11], [9, 12], [13], [1, 2, 8, 14]] [fun v _ => v = .agg #[.int .i64 l.x, .int .i64 l.z, .slice A l.ks.length c], fun v _ => v = .agg #[.int .i64 l.x, .int .i64 l.z, .slice A l.ks.length c], fun v _ => v = .slice A' b.length c', fun v _ => v = .slice (some ⟨br, or', none⟩) r.length c'', fun v _ => v = .slice (some ⟨bs, os, none⟩) 2 c3, fun v _ => v = .pointer (some ⟨bs, os, none⟩), fun v _ => v = .int .i64 i, fun v _ => v = .pointer (some ⟨br, or' + i * 3, none⟩), fun v _ => v = .agg #[.int .i64 y0, .int .i64 y1, .int .i64 y2], fun v _ => v = .slice (some ⟨br, or', none⟩) r.length c'', fun v _ => v = .slice (some ⟨bs, os, none⟩) 2 c3, fun v _ => v = .pointer (some ⟨bs, os + 1, none⟩), fun v _ => v = .int .i64 j, fun v _ => v = .pointer (some ⟨br, or' + j * 3, none⟩), fun v _ => v = .agg #[.int .i64 z0, .int .i64 z1, .int .i64 z2], fun v _ => v = .int .i64 (max 0 d)] (by kernel_rfl) (by kernel_rfl) ⟨st_eq _, st_eq _, st_eq _, st_eq _, st_eq _, st_eq _, st_eq _, st_eq _, st_eq _, st_eq _, st_eq _, st_eq _, st_eq _, st_eq _, st_eq _, st_eq _, trivial⟩ ?_ ?_
        · simp only [List.take_succ_cons, List.take_zero, steps, and_true]
          refine ⟨?_, ?_, ?_, ?_, ?_, ?_, ?_, ?_, ?_, ?_, ?_, ?_, ?_, ?_, ?_, ?_⟩
          · intro x W hB _; simp only [putX, setX, List.foldl_cons, List.foldl_nil]; obtain ⟨⟨c0, c1, c2⟩, _⟩ := HX.out W hB; refine ⟨?_⟩; go_simp; exact ⟨rfl, Below.refl _ _⟩
          · intro x W hB hN; simp only [needs, sAt, dAt] at hN; simp only [putX, setX, List.foldl_cons, List.foldl_nil]; refine ⟨?_⟩; go_simp; exact ⟨rfl, Below.refl _ _⟩
          · intro x W hB _; simp only [putX, setX, List.foldl_cons, List.foldl_nil]; refine ⟨?_⟩; go_simp; exact ⟨rfl, Below.refl _ _⟩
          · intro x W hB _; simp only [putX, setX, List.foldl_cons, List.foldl_nil]; refine ⟨?_⟩; go_simp; exact ⟨rfl, Below.refl _ _⟩
          · intro x W hB _; simp only [putX, setX, List.foldl_cons, List.foldl_nil]; refine ⟨?_⟩; go_simp; exact ⟨rfl, Below.refl _ _⟩
          · intro x W hB hN; simp only [needs, sAt, dAt] at hN; simp only [putX, setX, List.foldl_cons, List.foldl_nil]; refine ⟨?_⟩; go_simp; exact ⟨rfl, Below.refl _ _⟩
          · intro x W hB hN; simp only [needs, sAt, dAt] at hN; simp only [putX, setX, List.foldl_cons, List.foldl_nil]; obtain ⟨_, _, ep, _, c0⟩ := (HX.out W hB).2.2.2.2.1.at1 (k := 0) (by simp); injection ep with ep; injection ep with ep1 ep2; subst ep1; subst ep2; simp only [Nat.add_zero, List.getElem_cons_zero] at c0; refine ⟨?_⟩; go_simp; exact ⟨rfl, Below.refl _ _⟩
          · intro x W hB hN; simp only [needs, sAt, dAt] at hN; simp only [putX, setX, List.foldl_cons, List.foldl_nil]; refine ⟨?_⟩; go_simp; exact ⟨rfl, Below.refl _ _⟩
          · intro x W hB hN; simp only [needs, sAt, dAt] at hN; simp only [putX, setX, List.foldl_cons, List.foldl_nil]; obtain ⟨_, _, ep, _, c0, c1, c2⟩ := HTI.out W (HX.out W hB).2.2.2.1; injection ep with ep; injection ep with ep1 ep2; subst ep1; subst ep2; refine ⟨?_⟩; go_simp; exact ⟨rfl, Below.refl _ _⟩
          · intro x W hB _; simp only [putX, setX, List.foldl_cons, List.foldl_nil]; refine ⟨?_⟩; go_simp; exact ⟨rfl, Below.refl _ _⟩
          · intro x W hB _; simp only [putX, setX, List.foldl_cons, List.foldl_nil]; refine ⟨?_⟩; go_simp; exact ⟨rfl, Below.refl _ _⟩
          · intro x W hB hN; simp only [needs, sAt, dAt] at hN; simp only [putX, setX, List.foldl_cons, List.foldl_nil]; refine ⟨?_⟩; go_simp; exact ⟨rfl, Below.refl _ _⟩
          · intro x W hB hN; simp only [needs, sAt, dAt] at hN; simp only [putX, setX, List.foldl_cons, List.foldl_nil]; obtain ⟨_, _, ep, _, c0⟩ := (HX.out W hB).2.2.2.2.1.at1 (k := 1) (by simp); injection ep with ep; injection ep with ep1 ep2; subst ep1; subst ep2; simp only [List.getElem_cons_succ, List.getElem_cons_zero] at c0; refine ⟨?_⟩; go_simp; exact ⟨rfl, Below.refl _ _⟩
          · intro x W hB hN; simp only [needs, sAt, dAt] at hN; simp only [putX, setX, List.foldl_cons, List.foldl_nil]; refine ⟨?_⟩; go_simp; exact ⟨rfl, Below.refl _ _⟩
          · intro x W hB hN; simp only [needs, sAt, dAt] at hN; simp only [putX, setX, List.foldl_cons, List.foldl_nil]; obtain ⟨_, _, ep, _, c0, c1, c2⟩ := HTJ.out W (HX.out W hB).2.2.2.1; injection ep with ep; injection ep with ep1 ep2; subst ep1; subst ep2; refine ⟨?_⟩; go_simp; exact ⟨rfl, Below.refl _ _⟩
          · intro x W hB hN; simp only [needs, sAt, dAt] at hN; simp only [putX, setX, List.foldl_cons, List.foldl_nil]; refine ⟨?_⟩; go_simp; refine (HK.out _ (HX.out W hB).2.1 (HX.out W hB).2.2.1).mono ?_; rintro e w' ⟨rfl, b1⟩; exact ⟨_, rfl, rfl, b1⟩
        · intro x W hB hA
          simp only [allSp] at hA
          have s1 := hA.2.2.2.2.2.2.2.2.2.2.2.2.2.2.2.1
          have HBW := Lib.hid (HX.out W hB).2.2.2.2.2
          clear hA hB HX
          simp only [putX, setX, List.foldl_cons, List.foldl_nil, List.drop_succ_cons, List.drop_zero]
          rcases HD2.out with ⟨hp, hm⟩ | ⟨hp, hm⟩
          · have E : Hid (res = (max 0 d, 0)) := by
              have h := HE0.out
              rw [if_pos hp] at h
              rw [show max 0 d = d by omega]
              exact h
            generalize max 0 d = m at *
            clear hp
            go_wp2_with fail
            go_ret2
            exact ⟨ret_c E.out, HBW.out⟩
          · have E : Hid (res = (0, 19)) := by
              have h := HE0.out
              rw [if_neg (by omega)] at h
              exact h
            generalize max 0 d = m at *
            clear hp
            go_wp2_with fail
            go_ret2
            exact ⟨ret_c E.out, HBW.out⟩
    · have E1 : setRes l b r s = (0, setErr r.length s) := if_neg h2
      have E : Hid (checkC l b r s = (0, setErr r.length s)) := E0.trans E1
      have h2' := ne1 h2
      obtain ⟨A, c, rfl, _⟩ := hs.form
      clear hs hu ht hy h1 h2 E0 E1 hl hb hrd
      generalize setErr r.length s = q at *
      go_enter Try.func15, Try.ntmps15
      go_wp2_with (first
        | (go_at_call 54; refine HC.out.mono ?_; rintro e w1 ⟨rfl, hb1⟩; have HB1 := Lib.hid (below_tr (below_alloc1 _ _) hb1); clear hb1)
        | (go_at_call 57; refine (HSE.out _ (HT.out.below HB1.out) (HY.out.below HB1.out)).mono ?_; rintro e w2 ⟨rfl, hb2⟩))
      go_ret2
      exact ⟨ret_c E.out, below_tr HB1.out hb2⟩
  · have E : Hid (checkC l b r s = (0, readingsErr l b r)) := if_neg h1
    have h1' := ne1 h1
    obtain ⟨A, c, rfl, _⟩ := hs.form
    clear hs hu ht hy h1
    generalize readingsErr l b r = q at *
    go_enter Try.func15, Try.ntmps15
    go_wp2_with (go_at_call 54; refine HC.out.mono ?_; rintro e w1 ⟨rfl, hb1⟩)
    go_ret2
    exact ⟨ret_c E.out, below_tr (below_alloc1 _ _) hb1⟩
end Go.Proofs.Ytekinmafdhgmpaa
