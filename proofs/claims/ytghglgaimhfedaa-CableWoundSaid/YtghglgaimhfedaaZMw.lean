/-
  The law CableBalance: plain mathematics of balances, of upper links, and of mirrored lines.
-/
import Derived.Test.YtghglgaimhfedaaZMv
import Derived.Test.YtghglgaimhfedaaZMg
namespace Go.Proofs.Ytghglgaimhfedaa
open Go.RowKit Go.Shelf

/-! ### balances -/
theorem balF_self (xs : List (Int × Int)) (i : Nat) : balF xs xs i = (0, 0) := by
  induction xs generalizing i with
  | nil => rfl
  | cons x r ih => rw [balF, if_pos rfl]; exact ih _
theorem balF_set (xs : List (Int × Int)) (i a : Nat) (h : a < xs.length) (q : Int × Int) (hq : q ≠ xs[a]) : balF (xs.set a q) xs i = (((i + a : Nat) : Int), 19) := by
  induction xs generalizing i a with
  | nil => simp at h
  | cons x r ih =>
    cases a with
    | zero => simp only [List.set_cons_zero]; rw [balF, if_neg (by simpa using hq)]; simp
    | succ a =>
      simp only [List.set_cons_succ]
      rw [balF, if_pos rfl, ih (i + 1) a (by simpa using h) (by simpa using hq)]
      congr 2
      omega
theorem balErr_self {l : Ln} {c : List Int} (h : CuOk l c) : balErr l c (tens l c) = (0, 0) := by
  unfold balErr
  rw [if_pos (tens_len l c h.len)]
  exact balF_self _ _
theorem balErr_set {l : Ln} {c : List Int} (h : CuOk l c) (a : Nat) (ha : a < (tens l c).length) (q : Int × Int) (hq : q ≠ (tens l c)[a]) : balErr l c ((tens l c).set a q) = ((a : Int), 19) := by
  unfold balErr
  rw [if_pos (by rw [List.length_set]; exact tens_len l c h.len)]
  have := balF_set (tens l c) 0 a ha q hq
  rwa [Nat.zero_add] at this

/-! ### upper links -/
theorem tensF_take (x z : Int) (ks : List Lk) (c : List Int) (n : Nat) : tensF x z (ks.take n) (c.take n) = (tensF x z ks c).take n := by
  induction n generalizing x z ks c with
  | zero => simp [tensF]
  | succ n ih =>
    cases ks with
    | nil => simp [tensF]
    | cons k r =>
      cases c with
      | nil => simp [tensF]
      | cons m c => simp only [List.take_succ_cons, tensF]; rw [ih]
theorem checkLine_part {l : Ln} (h : lineErr l = 0) {ks : List Lk} (h0 : 0 < ks.length) (h1 : ks.length ≤ 10) (hk : ∀ k ∈ ks, k ∈ l.ks) (x : Int) (hx : -10000 ≤ x ∧ x ≤ 10000) : lineErr ⟨x, l.z, ks⟩ = 0 := by
  have hl := lineErr_ok h
  unfold lineErr checkLine
  rw [if_pos ⟨inR_iff.2 hx, inR_iff.2 ⟨hl.z0, hl.z1⟩⟩]
  simp only
  rw [if_neg (by omega), if_neg (by omega)]
  refine (fb_ok _ _ _).2 fun k hk' => ?_
  unfold linkErr
  rw [if_pos (hl.ok k (hk k hk'))]
theorem cursErr_of {l : Ln} {c : List Int} (h : c.length = l.ks.length) (h' : ∀ n ∈ c, -50 ≤ n ∧ n ≤ 50) : cursErr l c = 0 := by
  unfold cursErr
  rw [if_pos h]
  exact (fb_ok _ _ _).2 fun n hn => by unfold curErr; rw [if_pos (inR_iff.2 (h' n hn))]
theorem currentsErr_of {l : Ln} {c : List Int} (h : lineErr l = 0) (h' : cursErr l c = 0) : currentsErr l c = 0 := (if_pos h).trans h'
theorem tensionsOf_ok {l : Ln} {c : List Int} (h : currentsErr l c = 0) : tensionsOf l c = (tens l c, 0) := (if_pos h).trans (by rw [tensions_eq])
def halfL (l : Ln) (n : Nat) : Ln := ⟨l.x, l.z, l.ks.take n⟩
theorem half_ok {l : Ln} {c : List Int} (h1 : lineErr l = 0) (h2 : cursErr l c = 0) (n : Nat) (hn : 0 < n) (hn' : n ≤ l.ks.length) : tensionsOf (halfL l n) (c.take n) = ((tens l c).take n, 0) := by
  have hl := lineErr_ok h1
  have hc := cursErr_cu h2
  have hlen : (l.ks.take n).length = n := by rw [List.length_take]; omega
  have e1 : lineErr (halfL l n) = 0 := checkLine_part h1 (by rw [hlen]; exact hn) (by rw [hlen]; have := hl.n1; omega) (fun k hk => List.mem_of_mem_take hk) l.x ⟨hl.x0, hl.x1⟩
  have e2 : cursErr (halfL l n) (c.take n) = 0 := cursErr_of (by show (c.take n).length = (l.ks.take n).length; rw [List.length_take, List.length_take, hc.len]) (fun m hm => hc.ok m (List.mem_of_mem_take hm))
  rw [tensionsOf_ok (currentsErr_of e1 e2)]
  congr 1
  exact tensF_take _ _ _ _ _

/-! ### mirrored -/
def mirL (l : Ln) : Ln := ⟨-l.x, l.z, l.ks⟩
def mirC (c : List Int) : List Int := c.map fun n => -n
def mirT (t : Int × Int) : Int × Int := (-t.1, t.2)
theorem mir_line {l : Ln} (h : lineErr l = 0) : lineErr (mirL l) = 0 := by
  have hl := lineErr_ok h
  exact checkLine_part h hl.n0 hl.n1 (fun _ hk => hk) (-l.x) (by have := hl.x0; have := hl.x1; omega)
theorem mir_curs {l : Ln} {c : List Int} (h : cursErr l c = 0) : cursErr (mirL l) (mirC c) = 0 := by
  have hc := cursErr_cu h
  refine cursErr_of (by show (c.map _).length = l.ks.length; rw [List.length_map, hc.len]) fun n hn => ?_
  obtain ⟨m, hm, rfl⟩ := List.mem_map.1 hn
  have := hc.ok m hm
  omega
theorem tensF_mir (x z : Int) (ks : List Lk) (c : List Int) : tensF (-x) z ks (mirC c) = (tensF x z ks c).map mirT := by
  induction ks generalizing x z c with
  | nil => cases c <;> rfl
  | cons k r ih =>
    cases c with
    | nil => rfl
    | cons n c =>
      simp only [mirC, List.map_cons, tensF]
      have e : -x + k.2.2 * -n = -(x + k.2.2 * n) := by rw [Int.mul_neg]; omega
      rw [e]
      have := ih (x + k.2.2 * n) (z + k.2.1) c
      unfold mirC at this
      rw [this]
      rfl
theorem tens_mir (l : Ln) (c : List Int) : tens (mirL l) (mirC c) = (tens l c).map mirT := tensF_mir _ _ _ _
def mirP (p : Pl) : Pl := ⟨p.h, p.wt, p.d, -p.lo, -p.hi, p.z⟩
theorem pullsF_mir (lo hi z : Int) (ks : List Lk) (c : List Int) : pullsF (-lo) (-hi) z ks (still (mirC c)) = (pullsF lo hi z ks (still c)).map mirP := by
  induction ks generalizing lo hi z c with
  | nil => cases c <;> rfl
  | cons k r ih =>
    cases c with
    | nil => rfl
    | cons n c =>
      simp only [mirC, still, List.map_cons, pullsF]
      have e : ∀ y : Int, -y + k.2.2 * -n = -(y + k.2.2 * n) := fun y => by rw [Int.mul_neg]; omega
      rw [e, e]
      have := ih (lo + k.2.2 * n) (hi + k.2.2 * n) (z + k.2.1) c
      unfold mirC still at this
      rw [this]
      rfl
theorem pullsF_one (x z : Int) (ks : List Lk) (c : List Int) : ∀ p ∈ pullsF x x z ks (still c), p.lo = p.hi := by
  induction ks generalizing x z c with
  | nil => intro p hp; cases c <;> simp [still, pullsF] at hp
  | cons k r ih =>
    cases c with
    | nil => intro p hp; simp [still, pullsF] at hp
    | cons n c =>
      intro p hp
      simp only [still, List.map_cons, pullsF, List.mem_cons] at hp
      rcases hp with rfl | hp
      · rfl
      · exact ih _ _ _ _ hp
theorem pulls_one (l : Ln) (c : List Int) : ∀ p ∈ pulls l (still c), p.lo = p.hi := pullsF_one _ _ _ _
theorem pulls_mir (l : Ln) (c : List Int) : pulls (mirL l) (still (mirC c)) = (pulls l (still c)).map mirP := pullsF_mir _ _ _ _ _
theorem offR_mir {p : Pl} (h : p.lo = p.hi) : offR (mirP p) = (-(offR p).2, -(offR p).1) := by
  unfold offR mirP
  simp only
  rw [h]
  rw [Int.mul_neg, Int.neg_neg, Int.neg_neg]
theorem lenR_mir {p : Pl} (h : p.lo = p.hi) : lenR (mirP p) = lenR p := by
  have e : sqR (mirP p) = sqR p := by
    unfold sqR mirP
    simp only
    rw [h, Int.neg_mul_neg]
    congr 2
    by_cases h0 : p.hi = 0
    · rw [h0]; simp
    · rw [if_neg (by omega), if_neg (by omega)]
  unfold lenR
  rw [e]
  rfl
theorem totR_mir_off (ps : List Pl) (h : ∀ p ∈ ps, p.lo = p.hi) : totR offR (ps.map mirP) = (-(totR offR ps).2, -(totR offR ps).1) := by
  induction ps with
  | nil => rfl
  | cons p r ih =>
    simp only [List.map_cons, totR]
    rw [ih (fun q hq => h q (by simp [hq])), offR_mir (h p (by simp))]
    simp only
    congr 1 <;> omega
theorem totR_mir_len (ps : List Pl) (h : ∀ p ∈ ps, p.lo = p.hi) : totR lenR (ps.map mirP) = totR lenR ps := by
  induction ps with
  | nil => rfl
  | cons p r ih =>
    simp only [List.map_cons, totR]
    rw [ih (fun q hq => h q (by simp [hq])), lenR_mir (h p (by simp))]
theorem zs_mir (l : Ln) : zs (mirL l) = zs l := rfl
theorem shapeErr_mir {l : Ln} {c : List Int} (h1 : lineErr l = 0) (h2 : cursErr l c = 0) : shapeErr (mirL l) (mirC c) = shapeErr l c := by
  unfold shapeErr
  rw [if_pos (currentsErr_of h1 h2), if_pos (currentsErr_of (mir_line h1) (mir_curs h2))]
  rfl
theorem layback_mir {l : Ln} {c : List Int} (h1 : lineErr l = 0) (h2 : cursErr l c = 0) : laybackOf (mirL l) (mirC c) = ((-(laybackOf l c).1.2, -(laybackOf l c).1.1), (laybackOf l c).2) := by
  unfold laybackOf
  rw [shapeErr_mir h1 h2, pulls_mir]
  by_cases h : shapeErr l c = 0
  · rw [if_pos h, if_pos h, totR_mir_off _ (pulls_one l c)]
  · rw [if_neg h, if_neg h]; rfl
theorem length_mir {l : Ln} {c : List Int} (h1 : lineErr l = 0) (h2 : cursErr l c = 0) : lengthOf (mirL l) (mirC c) = lengthOf l c := by
  unfold lengthOf
  rw [shapeErr_mir h1 h2, pulls_mir, totR_mir_len _ (pulls_one l c)]
theorem bend_mir (a b : Int × Int) : bend (mirT a) (mirT b) = bend a b := by
  have e1 : across (mirT a) (mirT b) = -across a b := by unfold across mirT; simp only; rw [Int.neg_mul, Int.neg_mul]; omega
  have e2 : ∀ t : Int × Int, sq (mirT t) = sq t := fun t => by unfold sq mirT; simp only; rw [Int.neg_mul_neg]
  unfold bend
  rw [e1, e2, e2, Int.neg_mul_neg]
theorem bendsF_mir : ∀ ts : List (Int × Int), bendsF (ts.map mirT) = bendsF ts
  | [] => rfl
  | [_] => rfl
  | a :: b :: r => by
    have := bendsF_mir (b :: r)
    simp only [List.map_cons] at this ⊢
    rw [bendsF, bendsF, this, bend_mir]
theorem bends_mir {l : Ln} {c : List Int} (h1 : lineErr l = 0) (h2 : cursErr l c = 0) : bendsOf (mirL l) (mirC c) = bendsOf l c := by
  unfold bendsOf bends
  rw [shapeErr_mir h1 h2, tensions_eq, tensions_eq, tens_mir, bendsF_mir]

/-! ### parts of rows; a row of the call's own, written in place -/
theorem Sl.take {α : Type} {enc : α → List Value} {s : Nat} {w : World} {A : Option Addr} {n c : Nat} {xs : List α} (h : Sl enc s w (.slice A n c) xs) (k : Nat) (hk : k ≤ xs.length) : Sl enc s w (.slice A k c) (xs.take k) := by
  obtain ⟨A', c', e, h2, h3⟩ := h
  injection e with eA en ec
  subst eA; subst ec
  have hl : (xs.take k).length = k := by rw [List.length_take]; omega
  refine ⟨A, c, by rw [hl], by omega, fun hne => ?_⟩
  have hx : xs ≠ [] := by rintro rfl; simp at hne
  obtain ⟨b, off, hA, hb, hc⟩ := h3 hx
  refine ⟨b, off, hA, hb, fun i hi j hj => ?_⟩
  rw [hl] at hi
  rw [List.getElem_take]
  exact hc i (by omega) j hj
theorem Ow.at2 {e : TypeId} {base : Nat} {w : World} {v : Value} {xs : List (Int × Int)} (h : Ow e2 2 e base w v xs) (hne : 0 < xs.length) :
    ∃ g cap, v = .slice (some ⟨g, 0, none⟩) xs.length cap ∧ base ≤ g ∧ g < w.heap.size ∧ xs.length ≤ cap ∧ Row2 w g xs := by
  have hs := h.sl e2_len
  rcases h.2 with ⟨rfl, hn⟩ | ⟨g, cap, cur, rfl, hb, hh, hnc, _⟩
  · rw [hn] at hne; simp at hne
  · have hg : g < w.heap.size := by
      rcases Nat.lt_or_ge g w.heap.size with hlt | hge
      · exact hlt
      · rw [Array.getElem?_eq_none hge] at hh; cases hh
    refine ⟨g, cap, rfl, hb, hg, hnc, fun i hi => ?_⟩
    obtain ⟨b, off, e', _, c0, c1⟩ := hs.at2 hi
    injection e' with e'
    injection e' with e1' e2'
    subst e1'; subst e2'
    rw [Nat.zero_add] at c0 c1
    exact ⟨⟨c0, frozen_of_row _ _ _ _ _ hh⟩, c1, frozen_of_row _ _ _ _ _ hh⟩
theorem Row2.slc {W : World} {g : Nat} {xs : List (Int × Int)} (h : Row2 W g xs) (hg : g < W.heap.size) (cap : Nat) (hc : xs.length ≤ cap) : Sl e2 2 W (.slice (some ⟨g, 0, none⟩) xs.length cap) xs := by
  refine ⟨_, _, rfl, hc, fun _ => ⟨g, 0, rfl, hg, fun i hi j hj => ?_⟩⟩
  obtain ⟨h1, h2⟩ := h i hi
  match j, hj with
  | 0, _ => simpa [e2] using h1.1
  | 1, _ => simpa [e2] using h2.1
theorem Row2.set1 {W : World} {g : Nat} {xs : List (Int × Int)} (h : Row2 W g xs) (i : Nat) (hi : i < xs.length) (x : Int) : Row2 (W.setCell ⟨g, i * 2, none⟩ (.int .i64 x)) g (xs.set i (x, xs[i].2)) := by
  intro j hj
  have hj' : j < xs.length := by simpa using hj
  rw [List.getElem_set]
  by_cases e : i = j
  · subst e
    rw [if_pos rfl]
    exact ⟨(h i hi).1.set, (h i hi).2.other (by simp)⟩
  · rw [if_neg e]
    exact ⟨(h j hj').1.other (by simp <;> omega), (h j hj').2.other (by simp <;> omega)⟩
theorem Row2.set2 {W : World} {g : Nat} {xs : List (Int × Int)} (h : Row2 W g xs) (i : Nat) (hi : i < xs.length) (y : Int) : Row2 (W.setCell ⟨g, i * 2 + 1, none⟩ (.int .i64 y)) g (xs.set i (xs[i].1, y)) := by
  intro j hj
  have hj' : j < xs.length := by simpa using hj
  rw [List.getElem_set]
  by_cases e : i = j
  · subst e
    rw [if_pos rfl]
    exact ⟨(h i hi).1.other (by simp), (h i hi).2.set⟩
  · rw [if_neg e]
    exact ⟨(h j hj').1.other (by simp <;> omega), (h j hj').2.other (by simp <;> omega)⟩
end Go.Proofs.Ytghglgaimhfedaa
