/-
  'CableAgreed': currents of a box, tensions, pulls, readings around them.
-/
import Derived.Test.YthffbfkcmbgghaaZC1s
import Derived.Test.YthffbfkcmbgghaaZC1l
set_option linter.all false
namespace Go.Proofs.Ythffbfkcmbgghaa
open Go Go.RowKit
def inE (m : Int) (l : List Int) : Int := fstF (fun x => if -m ≤ x ∧ x ≤ m then 0 else 2) l
theorem x_size (fu : Nat) (m : Int) (hm : 0 ≤ m ∧ m ≤ 1000000) (l : List Int) (h : l.length < fu) (hl : l.length < 4611686018427387904) : u_SizeError fu m l = some (inE m l) := by
  obtain ⟨o, e1, e2⟩ := fb_run l (fun n i => u_SizeError_L1 fu l m (l.length : Int) n (i : Int)) (Sum.elim (fun _ => 2) (fun _ => 0)) (fun x => if -m ≤ x ∧ x ≤ m then 0 else 2)
    (fun n => ⟨.inr (), by rw [u_SizeError_L1, if_neg (by omega)], rfl⟩)
    (fun n i e he => by
      obtain ⟨h1, h2, h3⟩ := idx he
      rw [u_SizeError_L1, if_pos h1, if_pos h2, if_pos h1, h3, Option.bind_some, x_uwithin _ _ hm, Option.bind_some]
      by_cases c : -m ≤ e ∧ e ≤ m
      · rw [decide_eq_true c, if_pos rfl, wrapS (by omega), if_pos c]; exact .inl ⟨rfl, rfl⟩
      · rw [decide_eq_false c, if_neg Bool.false_ne_true, if_neg c]; exact .inr ⟨by omega, _, rfl, rfl⟩) fu 0 (by omega) (by omega)
  rw [show ((0 : Nat) : Int) = 0 from rfl] at e1
  rw [List.drop_zero] at e2
  unfold u_SizeError inE
  rw [e1, ← e2]
  cases o <;> rfl
theorem fstF_zero {α : Type} {f : α → Int} : ∀ {l : List α}, (∀ e ∈ l, f e = 0) → fstF f l = 0
  | [], _ => rfl
  | a :: r, h => by
    unfold fstF
    rw [if_pos (h a List.mem_cons_self)]
    exact fstF_zero fun e he => h e (List.mem_cons_of_mem _ he)
theorem b_mod {a m : Int} (h : 1 ≤ m ∧ m ≤ 1000) : ∃ r, b_Mod a m = some r ∧ 0 ≤ r ∧ r < m := by
  unfold b_Mod
  rw [if_neg (by omega)]
  have h1 : (Int.tmod a m).natAbs < m.natAbs := by rw [Int.natAbs_tmod]; exact Nat.mod_lt _ (by omega)
  by_cases c : Int.tmod a m < 0
  · rw [if_pos c, wrapB (by omega) (by omega)]; exact ⟨_, rfl, by omega, by omega⟩
  · rw [if_neg c]; exact ⟨_, rfl, by omega, by omega⟩
theorem cur_run (fu : Nat) (p0 : List Lk) {b : List Rg} (p2 : List Int) (p3 : List Lk) (p4 p5 : Int) (hb : b.length < 100) (h2 : p2.length ≤ 20) (hx : ∀ r ∈ b, rgE 50 r = 0) : ∀ (m n i : Nat) (acc : List Int), i + m = b.length → acc.length = i → m < n → ∃ t, l1_CableAgreed_L1 fu p0 b p2 p3 p4 p5 n acc (i : Int) = some (acc ++ t) ∧ t.length = m ∧ ∀ k, k < m → ∀ r, b[i + k]? = some r → ∃ q, t[k]? = some q ∧ r.1 ≤ q ∧ q ≤ r.2
  | _, 0, _, _, _, _, h => by omega
  | 0, n + 1, i, acc, hi, _, _ => by
    rw [l1_CableAgreed_L1, if_neg (by omega)]
    exact ⟨[], by simp, rfl, fun k hk => by omega⟩
  | m + 1, n + 1, i, acc, hi, ha, hn => by
    have e1 : b[i]? = some (b[i]'(by omega)) := List.getElem?_eq_getElem (by omega)
    obtain ⟨h1, h2', h3⟩ := at_nat e1
    obtain ⟨r1, r2, r3⟩ := rgE_ok (hx _ (List.getElem_mem (show i < b.length by omega)))
    have next : ∀ q : Int, (b[i]'(by omega)).1 ≤ q → q ≤ (b[i]'(by omega)).2 → l1_CableAgreed_L1 fu p0 b p2 p3 p4 p5 (n + 1) acc (i : Int) = l1_CableAgreed_L1 fu p0 b p2 p3 p4 p5 n (acc ++ [q]) ((i + 1 : Nat) : Int) → ∃ t, l1_CableAgreed_L1 fu p0 b p2 p3 p4 p5 (n + 1) acc (i : Int) = some (acc ++ t) ∧ t.length = m + 1 ∧ ∀ k, k < m + 1 → ∀ r, b[i + k]? = some r → ∃ q, t[k]? = some q ∧ r.1 ≤ q ∧ q ≤ r.2 := fun q hq1 hq2 e => by
      obtain ⟨t, t1, t2, t3⟩ := cur_run fu p0 p2 p3 p4 p5 hb h2 hx m n (i + 1) (acc ++ [q]) (by omega) (by simp [ha]) (by omega)
      refine ⟨q :: t, by rw [e, t1]; simp, by simp [t2], fun k hk r hr => ?_⟩
      cases k with
      | zero =>
        rw [Nat.add_zero, e1] at hr
        injection hr with hr; subst hr
        exact ⟨q, rfl, hq1, hq2⟩
      | succ k =>
        rw [List.getElem?_cons_succ]
        exact t3 k (by omega) r (by rw [show i + 1 + k = i + (k + 1) by omega]; exact hr)
    by_cases c : 0 < (p2.length : Int)
    · have z0 : 0 ≤ Int.tmod (i : Int) (p2.length : Int) := Int.tmod_nonneg _ (by omega)
      have z1 : Int.tmod (i : Int) (p2.length : Int) < (p2.length : Int) := Int.tmod_lt_of_pos _ c
      obtain ⟨j, hj⟩ := Int.eq_ofNat_of_zero_le z0
      have e2 : p2[j]? = some (p2[j]'(by omega)) := List.getElem?_eq_getElem (by omega)
      obtain ⟨k1, k2, k3⟩ := at_nat e2
      obtain ⟨r, m1, m2, m3⟩ := b_mod (a := p2[j]'(by omega)) (m := (b[i]'(by omega)).2 - (b[i]'(by omega)).1 + 1) (by omega)
      refine next ((b[i]'(by omega)).1 + r) (by omega) (by omega) ?_
      rw [l1_CableAgreed_L1, if_pos h2', if_pos c, hj, if_pos k1, if_pos k2, k3, Option.bind_some, if_pos h1, h3, Option.bind_some, wrapB (x := (b[i]'(by omega)).2 - (b[i]'(by omega)).1) (by omega) (by omega), wrapB (x := (b[i]'(by omega)).2 - (b[i]'(by omega)).1 + 1) (by omega) (by omega), m1, Option.bind_some, if_pos (by omega), wrapB (x := (b[i]'(by omega)).1 + r) (by omega) (by omega), wrapS (by omega)]
    · refine next (b[i]'(by omega)).1 (by omega) (by omega) ?_
      rw [l1_CableAgreed_L1, if_pos h2', if_neg c, if_pos h1, h3, Option.bind_some, if_pos (by omega), Int.add_zero, wrapB (x := (b[i]'(by omega)).1) (by omega) (by omega), wrapS (by omega)]
def stl (c : List Int) : List Rg := c.map fun q => (q, q)
theorem still_run (fu : Nat) {c : List Int} (hc : c.length < 100) : ∀ (m n i : Nat), i + m = c.length → m < n → c_still_L1 fu c (c.length : Int) n ((stl c).take i ++ List.replicate m (0, 0)) (i : Int) = some (stl c)
  | _, 0, _, _, h => by omega
  | 0, n + 1, i, hi, _ => by
    rw [c_still_L1, if_neg (by omega)]
    rw [List.take_of_length_le (by unfold stl; simp; omega)]; simp
  | m + 1, n + 1, i, hi, hn => by
    have e1 : c[i]? = some (c[i]'(by omega)) := List.getElem?_eq_getElem (by omega)
    obtain ⟨h1, h2, h3⟩ := at_nat e1
    have hl : (stl c).length = c.length := by unfold stl; simp
    have ht : ((stl c).take i).length = i := by rw [List.length_take]; omega
    have e2 : ((stl c).take i ++ List.replicate (m + 1) ((0 : Int), (0 : Int)))[i]? = some (0, 0) := by
      rw [List.getElem?_append_right (by omega), ht, Nat.sub_self]; rfl
    obtain ⟨k1, k2, k3⟩ := at_nat e2
    rw [c_still_L1, if_pos h2, if_pos h1, if_pos h2, h3, Option.bind_some, if_pos k2, k3, Option.bind_some, wrapS (by omega)]
    have e3 : ((stl c).take i ++ List.replicate (m + 1) ((0 : Int), (0 : Int))).set (0 + ((i : Int)).toNat) (c[i]'(by omega), c[i]'(by omega)) = (stl c).take (i + 1) ++ List.replicate m (0, 0) := by
      rw [show 0 + ((i : Int)).toNat = i by omega, List.set_append_right _ _ (by omega), ht, Nat.sub_self, List.replicate_succ, List.set_cons_zero]
      have : (stl c)[i]? = some (c[i]'(by omega), c[i]'(by omega)) := by unfold stl; rw [List.getElem?_map, e1]; rfl
      rw [List.take_add_one, this]; simp
    rw [e3]
    exact still_run fu hc m n (i + 1) (by omega) (by omega)
theorem still_eq {fu : Nat} (hf : 1000 ≤ fu) {c : List Int} (hc : c.length < 100) : c_still fu c = some (stl c) := by
  have := still_run fu hc c.length fu 0 (by omega) (by omega)
  rw [List.take_zero, List.nil_append, show ((0 : Nat) : Int) = 0 from rfl] at this
  unfold c_still
  rw [if_pos (by omega), if_pos (by omega), Int.toNat_natCast, this]; rfl
theorem car1 {fu : Nat} (hf : 1000 ≤ fu) {X : Int} {l : List Lk} {b : List Rg} (v : VB X l b) (p3 p4 : Int) {i : Nat} (hi : i < l.length) {y z : Int} (hy : Bd 1 y) (hz : Bd 1 z) : c_line_carried fu p3 p4 l y z (i : Int) (IntKind.wrap .i64 ((i : Int) + 1)) b = some (y + gL l b i, z + gH l b i) := by
  have := v.ll
  have e1 := p_car fu v p3 p4 (t := i + 1) (by omega) 1 fu i y z (by omega) (by omega) hy hz
  unfold c_line_carried
  rw [wrapS (by omega), e1]; rfl
theorem S_in {X : Int} {l : List Lk} {b : List Rg} (v : VB X l b) {k : Nat} (hk : k ≤ l.length) : (-20000 ≤ S (gL l b) k 0 X ∧ S (gL l b) k 0 X ≤ 20000) ∧ (-20000 ≤ S (gH l b) k 0 X ∧ S (gH l b) k 0 X ≤ 20000) := by
  have h1 := S_b (g := gL l b) (L := l.length) (fun i hi => by obtain ⟨e, r, _, _, _, _, a, _⟩ := v.at hi; exact a) k 0 X 10000 (by omega) v.ld
  have h2 := S_b (g := gH l b) (L := l.length) (fun i hi => by obtain ⟨e, r, _, _, _, _, _, a⟩ := v.at hi; exact a) k 0 X 10000 (by omega) v.ld
  have := v.ll
  omega
theorem S_last (g : Nat → Int) (k : Nat) (X : Int) : S g (k + 1) 0 X = S g k 0 X + g k := by
  rw [S_add g k 1 0 X, Nat.zero_add]; rfl
theorem ten_run {fu : Nat} (hf : 1000 ≤ fu) {X : Int} {l : List Lk} {b : List Rg} (v : VB X l b) (p2 p3 p7 p8 : Int) : ∀ (m n i : Nat) (acc : List Rg) (z : Int), i + m = l.length → acc.length = i → m < n → ∃ t u w, c_line_lifts_1_L1 fu l b p2 p3 p7 p8 (l.length : Int) n acc (S (gL l b) i 0 X) (S (gH l b) i 0 X) z (i : Int) = some (acc ++ t, u, w) ∧ t.length = m ∧ ∀ k, k < m → ∃ y, t[k]? = some (tn (gL l b) X (i + k), y)
  | _, 0, _, _, _, _, _, h => by omega
  | 0, n + 1, i, acc, z, hi, _, _ => by
    rw [c_line_lifts_1_L1, if_neg (by omega)]
    exact ⟨[], _, _, by simp; exact ⟨rfl, rfl⟩, rfl, fun k hk => by omega⟩
  | m + 1, n + 1, i, acc, z, hi, ha, hn => by
    have e1 : l[i]? = some (l[i]'(by omega)) := List.getElem?_eq_getElem (by omega)
    obtain ⟨h1, h2, h3⟩ := at_nat e1
    obtain ⟨b1, b2⟩ := S_in v (show i ≤ l.length by omega)
    have hll := v.ll
    obtain ⟨t, u, w, t1, t2, t3⟩ := ten_run hf v p2 p3 p7 p8 m n (i + 1) (acc ++ [(S (gL l b) (i + 1) 0 X, IntKind.wrap .i64 (z + (l[i]'(by omega)).2.1))]) (IntKind.wrap .i64 (z + (l[i]'(by omega)).2.1)) (by omega) (by simp [ha]) (by omega)
    rw [c_line_lifts_1_L1, if_pos h2, if_pos h1, if_pos h2, h3, Option.bind_some, car1 hf v p2 p3 (by omega) ⟨by omega, by omega⟩ ⟨by omega, by omega⟩, Option.bind_some]
    simp only []
    rw [if_pos (by omega), ← S_last, ← S_last, wrapS (by omega), t1]
    refine ⟨(S (gL l b) (i + 1) 0 X, IntKind.wrap .i64 (z + (l[i]'(by omega)).2.1)) :: t, u, w, by simp, by simp [t2], fun k hk => ?_⟩
    cases k with
    | zero => exact ⟨_, rfl⟩
    | succ k =>
      obtain ⟨y, hy⟩ := t3 k (by omega)
      exact ⟨y, by rw [List.getElem?_cons_succ, hy, show i + 1 + k = i + (k + 1) by omega]⟩
theorem pul_run {fu : Nat} (hf : 1000 ≤ fu) {X : Int} {l : List Lk} {b : List Rg} (v : VB X l b) (p2 p3 p7 p8 : Int) : ∀ (m n i : Nat) (acc : List Rg) (z : Int), i + m = l.length → acc.length = i → m < n → ∃ t u w, c_line_lifts_1_2_L1 fu l b p2 p3 p7 p8 (l.length : Int) n acc (S (gL l b) i 0 X) (S (gH l b) i 0 X) z (i : Int) = some (acc ++ t, u, w) ∧ t.length = m ∧ ∀ k, k < m → t[k]? = some (cI l b (i + k + 1) 0 (X, X))
  | _, 0, _, _, _, _, _, h => by omega
  | 0, n + 1, i, acc, z, hi, _, _ => by
    rw [c_line_lifts_1_2_L1, if_neg (by omega)]
    exact ⟨[], _, _, by simp; exact ⟨rfl, rfl⟩, rfl, fun k hk => by omega⟩
  | m + 1, n + 1, i, acc, z, hi, ha, hn => by
    have e1 : l[i]? = some (l[i]'(by omega)) := List.getElem?_eq_getElem (by omega)
    obtain ⟨h1, h2, h3⟩ := at_nat e1
    obtain ⟨b1, b2⟩ := S_in v (show i ≤ l.length by omega)
    have hll := v.ll
    obtain ⟨t, u, w, t1, t2, t3⟩ := pul_run hf v p2 p3 p7 p8 m n (i + 1) (acc ++ [(S (gL l b) (i + 1) 0 X, S (gH l b) (i + 1) 0 X)]) (IntKind.wrap .i64 (z + (l[i]'(by omega)).2.1)) (by omega) (by simp [ha]) (by omega)
    rw [c_line_lifts_1_2_L1, if_pos h2, if_pos h1, if_pos h2, h3, Option.bind_some, car1 hf v p2 p3 (by omega) ⟨by omega, by omega⟩ ⟨by omega, by omega⟩, Option.bind_some]
    simp only []
    rw [if_pos (by omega), ← S_last, ← S_last, wrapS (by omega), t1]
    refine ⟨(S (gL l b) (i + 1) 0 X, S (gH l b) (i + 1) 0 X) :: t, u, w, by simp, by simp [t2], fun k hk => ?_⟩
    cases k with
    | zero => rfl
    | succ k => rw [List.getElem?_cons_succ, t3 k (by omega), show i + 1 + k = i + (k + 1) by omega]
end Go.Proofs.Ythffbfkcmbgghaa
