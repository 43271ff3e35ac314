/-
  Chapter 7: the document's schedule of messages.
-/
import Derived.Test.YthffbfkcmbgghaaGreatZK7e
import Derived.Test.YthffbfkcmbgghaaGreatQKm
import Derived.Test.YthffbfkcmbgghaaGreatZIa
set_option linter.all false
namespace Go.Proofs.YthffbfkcmbgghaaGreat
open Go Go.RowKit
set_option maxHeartbeats 1000000
namespace Bs
abbrev Str := Int × Int × Int × Int
structure OkS (l : List Str) (s : List Int) : Prop where
  len : s.length = l.length
  few : l.length ≤ 6
  ok : ∀ (i : Nat) x, l[i]? = some x → 1 ≤ x.2.1 ∧ x.2.1 ≤ 60 ∧ 1 ≤ x.2.2.1 ∧ x.2.2.1 ≤ 60 ∧ 1 ≤ x.2.2.2 ∧ x.2.2.2 ≤ 20
  st : ∀ (i : Nat) x, s[i]? = some x → 0 ≤ x ∧ x ≤ 400
def gs (l : List Str) (i : Nat) : Str := l[i]?.getD (0, 0, 0, 0)
theorem gs_at {l : List Str} {i : Nat} {x : Str} (h : l[i]? = some x) : gs l i = x := by rw [gs, h]; rfl
def sy {l : List Str} {s : List Int} (h : OkS l s) : Sy where
  n := l.length
  P i := (gs l i).2.1
  D i := (gs l i).2.2.1
  L i := (gs l i).2.2.2
  S i := s[i]?.getD 0
  hP := fun i hi => by
    have e := List.getElem?_eq_getElem hi
    rw [gs_at e]
    have := h.ok i _ e
    omega
  hL := fun i hi => by
    have e := List.getElem?_eq_getElem hi
    rw [gs_at e]
    have := h.ok i _ e
    omega
  hS := fun i hi => by
    have e := List.getElem?_eq_getElem (show i < s.length by rw [h.len]; exact hi)
    rw [e]
    exact (h.st i _ e).1
variable {l : List Str} {s : List Int} (h : OkS l s)
theorem z_new (fu : Nat) (p2 : Int) (p3 : Bool) (p4 : List Int) {t : Nat} (ht : t ≤ 400) : ∀ (m i n : Nat) (v : List (Int × Int × Int × Int)), i + m = l.length → m < n → v.length + m < 65536 → r7_Carried_L3 fu l s p2 p3 p4 (t : Int) n v (i : Int) = some (p4, v ++ (((List.range' i m).filter (sends (sy h) t)).map fun (i : Nat) => ((i : Int), (t : Int), (sy h).L i, (0 : Int))))
  | _, _, 0, _, _, hn, _ => absurd hn (by omega)
  | 0, i, n + 1, v, hi, _, _ => by
    rw [r7_Carried_L3, if_neg (by omega)]
    simp
  | m + 1, i, n + 1, v, hi, hn, hv => by
    have hx := List.getElem?_eq_getElem (show i < l.length by omega)
    have hu := List.getElem?_eq_getElem (show i < s.length by rw [h.len]; omega)
    have ox := h.ok i _ hx
    have ou := h.st i _ hu
    have eP : (sy h).P i = (l[i]'(by omega)).2.1 := by show (gs l i).2.1 = _; rw [gs_at hx]
    have eL : (sy h).L i = (l[i]'(by omega)).2.2.2 := by show (gs l i).2.2.2 = _; rw [gs_at hx]
    have eS : (sy h).S i = s[i]'(by rw [h.len]; omega) := by show s[i]?.getD 0 = _; rw [hu]; rfl
    generalize (l[i]'(by omega)) = x at hx ox eP eL
    generalize (s[i]'(by rw [h.len]; omega)) = u at hu ou eS
    have W : IntKind.wrap .i64 ((i : Int) + 1) = ((i + 1 : Nat) : Int) := wrapS (by have := h.few; omega)
    rw [r7_Carried_L3, if_pos (idx hx).1, if_pos (idx hx).2.1, if_pos (idx hu).1, (idx hu).2.2, Option.bind_some, (idx hx).2.2, W, List.range'_succ, List.filter_cons]
    by_cases h1 : u ≤ (t : Int)
    · rw [if_pos h1, Option.bind_some, if_neg (by omega), wrapB (by omega) (by omega), Int.tmod_eq_emod_of_nonneg (by omega)]
      by_cases h2 : ((t : Int) - u) % x.2.1 = 0
      · have hs : sends (sy h) t i = true := by simp only [sends, eS, eP, h1, h2, decide_true, Bool.and_true]
        rw [if_pos h2, if_pos (by omega), z_new fu p2 p3 p4 ht m (i + 1) n _ (by omega) (by omega) (by simp only [List.length_append, List.length_cons, List.length_nil]; omega), hs, if_pos rfl, List.map_cons, eL]
        simp
      · have hs : sends (sy h) t i = false := by simp only [sends, eS, eP, h2, decide_false, Bool.and_false]
        rw [if_neg h2, z_new fu p2 p3 p4 ht m (i + 1) n _ (by omega) (by omega) (by omega), hs, if_neg (by simp)]
    · have hs : sends (sy h) t i = false := by simp only [sends, eS, h1, decide_false, Bool.false_and]
      rw [if_neg h1, z_new fu p2 p3 p4 ht m (i + 1) n _ (by omega) (by omega) (by omega), hs, if_neg (by simp)]
theorem z_before {e : Bool} {t : Nat} (ht : t ≤ 401) {a b : Nat × Int} (ha : a ∈ keys (sy h) t) (hb : b ∈ keys (sy h) t) (u v u' v' : Int) : r7_before l (a.1 : Int) a.2 u v (b.1 : Int) b.2 u' v' e = some (decide (bf (sy h) e a b)) := by
  obtain ⟨a1, a2⟩ := a; obtain ⟨b1, b2⟩ := b
  have ka := (mem_keys (sy h) t).1 ha
  have kb := (mem_keys (sy h) t).1 hb
  have ra := (sy h).hS a1 ka.1
  have rb := (sy h).hS b1 kb.1
  obtain ⟨x, hx⟩ : ∃ x, l[a1]? = some x := ⟨_, List.getElem?_eq_getElem (show a1 < l.length from ka.1)⟩
  obtain ⟨z, hz⟩ : ∃ x, l[b1]? = some x := ⟨_, List.getElem?_eq_getElem (show b1 < l.length from kb.1)⟩
  have ox := h.ok _ _ hx
  have oz := h.ok _ _ hz
  have eA : (sy h).D a1 = x.2.2.1 := by show (gs l a1).2.2.1 = _; rw [gs_at hx]
  have eB : (sy h).D b1 = z.2.2.1 := by show (gs l b1).2.2.1 = _; rw [gs_at hz]
  show r7_before l (a1 : Int) a2 u v (b1 : Int) b2 u' v' e = some (decide (if e = true ∧ a2 + (sy h).D a1 ≠ b2 + (sy h).D b1 then a2 + (sy h).D a1 < b2 + (sy h).D b1 else if a1 ≠ b1 then a1 < b1 else a2 < b2))
  unfold r7_before
  cases e with
  | true =>
    rw [if_pos rfl, if_pos (idx hx).2.1, if_pos (idx hx).1, (idx hx).2.2, Option.bind_some, if_pos (idx hz).2.1, if_pos (idx hz).1, (idx hz).2.2, Option.bind_some, ← eA, ← eB, wrapB (by omega) (by omega), wrapB (by omega) (by omega)]
    simp only [true_and, ne_eq, ite_not]
    by_cases h1 : a2 + (sy h).D a1 = b2 + (sy h).D b1
    · rw [if_pos h1]
      by_cases h2 : a1 = b1
      · subst h2
        by_cases h3 : a2 < b2 <;> simp [h1, h3]
      · by_cases h3 : a1 < b1 <;> simp [h1, h2, h3, Int.ofNat_inj]
    · rw [if_neg h1]
      by_cases h3 : a2 + (sy h).D a1 < b2 + (sy h).D b1 <;> simp [h1, h3]
  | false =>
    rw [if_neg (by simp)]
    by_cases h2 : a1 = b1
    · subst h2
      by_cases h3 : a2 < b2 <;> simp [h3]
    · by_cases h3 : a1 < b1 <;> simp [h2, h3, Int.ofNat_inj]
def Bst (y : Sy) (c : Nat → Int) (e : Bool) (t : Nat) (m : Nat) (v : Int) : Prop :=
  (v = -1 ∧ ∀ j, j < m → ∀ a, (keys y t)[j]? = some a → ¬0 < left y c a.1 a.2) ∨
  ∃ (j : Nat) (a : Nat × Int), v = (j : Int) ∧ (keys y t)[j]? = some a ∧ 0 < left y c a.1 a.2 ∧ ∀ j', j' < m → ∀ b, (keys y t)[j']? = some b → 0 < left y c b.1 b.2 → b = a ∨ bf y e a b
theorem z_scan (fu : Nat) (p2 : Int) (e : Bool) (p4 : List Int) (p6 : Int) {t : Nat} (ht : t ≤ 401) (c : Nat → Int) (R : Nat × Int → Int) : ∀ (m i n : Nat) (v : Int), i + m = (keys (sy h) t).length → m < n → Bst (sy h) c e t i v → ∃ v', r7_Carried_L4 fu l s p2 e p4 (jobs (sy h) c R t) p6 n v (i : Int) = some (p4, jobs (sy h) c R t, v') ∧ Bst (sy h) c e t (keys (sy h) t).length v'
  | _, _, 0, _, _, hn, _ => absurd hn (by omega)
  | 0, i, n + 1, v, hi, _, hb => by
    have hl : (jobs (sy h) c R t).length = (keys (sy h) t).length := List.length_map _
    rw [r7_Carried_L4, if_neg (by omega)]
    exact ⟨v, rfl, by rw [← hi]; exact hb⟩
  | m + 1, i, n + 1, v, hi, hn, hb => by
    have hl : (jobs (sy h) c R t).length = (keys (sy h) t).length := List.length_map _
    have hkl := keys_len (sy h) t
    have hfew : (keys (sy h) t).length ≤ 2406 := Nat.le_trans hkl (Nat.le_trans (Nat.mul_le_mul ht h.few) (by omega))
    have hk := List.getElem?_eq_getElem (show i < (keys (sy h) t).length by omega)
    have hm := List.mem_of_getElem? hk
    generalize ((keys (sy h) t)[i]'(by omega)) = a at hk hm
    have hj : (jobs (sy h) c R t)[i]? = some (job (sy h) c R a) := by rw [jobs, List.getElem?_map, hk]; rfl
    have W : IntKind.wrap .i64 ((i : Int) + 1) = ((i + 1 : Nat) : Int) := wrapS (by omega)
    rw [r7_Carried_L4, if_pos (idx hj).1, if_pos (idx hj).2.1, (idx hj).2.2, Option.bind_some, W]
    show ∃ v', (if 0 < left (sy h) c a.1 a.2 then _ else _) = _ ∧ _
    have skip : ∀ w, Bst (sy h) c e t (i + 1) w → ∃ v', r7_Carried_L4 fu l s p2 e p4 (jobs (sy h) c R t) p6 n w ((i + 1 : Nat) : Int) = some (p4, jobs (sy h) c R t, v') ∧ Bst (sy h) c e t (keys (sy h) t).length v' := fun w hw => z_scan fu p2 e p4 p6 ht c R m (i + 1) n w (by omega) (by omega) hw
    have same : ∀ {j : Nat} {b}, j < i + 1 → (keys (sy h) t)[j]? = some b → j < i ∨ b = a := fun {j b} h1 h2 => by
      by_cases h3 : j = i
      · subst h3; rw [hk] at h2; injection h2 with h2; exact .inr h2.symm
      · exact .inl (by omega)
    by_cases h1 : 0 < left (sy h) c a.1 a.2
    · rw [if_pos h1]
      rcases hb with ⟨hv, hb⟩ | ⟨j, b, hv, hjb, hlb, hb⟩
      · subst hv
        rw [if_pos (by omega)]
        refine skip _ (.inr ⟨i, a, rfl, hk, h1, fun j' hj' b hb' hlb => ?_⟩)
        rcases same hj' hb' with g | g
        · exact absurd hlb (hb j' g b hb')
        · exact .inl g
      · subst hv
        have hjj : (jobs (sy h) c R t)[j]? = some (job (sy h) c R b) := by rw [jobs, List.getElem?_map, hjb]; rfl
        have hmb := List.mem_of_getElem? hjb
        have B := z_before h (e := e) ht hm hmb (left (sy h) c a.1 a.2) (R a) (left (sy h) c b.1 b.2) (R b)
        have key : ∀ X Y : Option (List Int × List (Int × Int × Int × Int) × Int), (Option.bind (r7_before l (job (sy h) c R a).1 (job (sy h) c R a).2.1 (job (sy h) c R a).2.2.1 (job (sy h) c R a).2.2.2 (job (sy h) c R b).1 (job (sy h) c R b).2.1 (job (sy h) c R b).2.2.1 (job (sy h) c R b).2.2.2 e) fun r10 => if r10 = true then X else Y) = if bf (sy h) e a b then X else Y := by
          intro X Y
          show (Option.bind (r7_before l (a.1 : Int) a.2 (left (sy h) c a.1 a.2) (R a) (b.1 : Int) b.2 (left (sy h) c b.1 b.2) (R b) e) _) = _
          rw [B, Option.bind_some]
          by_cases g : bf (sy h) e a b <;> simp [g]
        have goal : ∃ v', (if bf (sy h) e a b then r7_Carried_L4 fu l s p2 e p4 (jobs (sy h) c R t) p6 n (i : Int) ((i + 1 : Nat) : Int) else r7_Carried_L4 fu l s p2 e p4 (jobs (sy h) c R t) p6 n (j : Int) ((i + 1 : Nat) : Int)) = some (p4, jobs (sy h) c R t, v') ∧ Bst (sy h) c e t (keys (sy h) t).length v' := by
          by_cases g : bf (sy h) e a b
          · rw [if_pos g]
            refine skip _ (.inr ⟨i, a, rfl, hk, h1, fun j' hj' d hd hld => ?_⟩)
            rcases same hj' hd with q | q
            · rcases hb j' q d hd hld with q2 | q2
              · rw [q2]; exact .inr g
              · exact .inr (bf_trans (sy h) g q2)
            · exact .inl q
          · rw [if_neg g]
            refine skip _ (.inr ⟨j, b, rfl, hjb, hlb, fun j' hj' d hd hld => ?_⟩)
            rcases same hj' hd with q | q
            · exact hb j' q d hd hld
            · by_cases q2 : d = b
              · exact .inl q2
              · rw [q] at q2 ⊢
                exact .inr (bf_total (sy h) g q2)
        rw [if_neg (by omega), if_pos (idx hjj).1, (idx hjj).2.2, Option.bind_some]
        cases e with
        | true => rw [if_pos rfl, key]; exact goal
        | false => rw [if_neg (by simp), key]; exact goal
    · rw [if_neg h1]
      refine skip _ ?_
      rcases hb with ⟨hv, hb⟩ | ⟨j, b, hv, hjb, hlb, hb⟩
      · refine .inl ⟨hv, fun j hj d hd => ?_⟩
        rcases same hj hd with q | q
        · exact hb j q d hd
        · rw [q]; exact h1
      · refine .inr ⟨j, b, hv, hjb, hlb, fun j' hj' d hd hld => ?_⟩
        rcases same hj' hd with q | q
        · exact hb j' q d hd hld
        · rw [q] at hld; exact absurd hld h1
end Bs
end Go.Proofs.YthffbfkcmbgghaaGreat

namespace Go.Proofs.YthffbfkcmbgghaaGreat
open Go Go.RowKit
set_option maxHeartbeats 1000000
namespace Bs
variable {l : List Str} {s : List Int} (h : OkS l s)
theorem fin_iff {c L : Int} (hl : 0 < L) : (c + 1) % L = 0 ↔ L - c % L - 1 = 0 := by
  have m1 := Int.emod_nonneg c (show L ≠ 0 by omega)
  have m2 := Int.emod_lt_of_pos c hl
  rw [← Int.emod_add_emod]
  by_cases g : c % L + 1 < L
  · rw [Int.emod_eq_of_lt (by omega) g]
    omega
  · rw [show c % L + 1 = L by omega, Int.emod_self]
    omega
theorem new_range (y : Sy) (t : Nat) : (new y t).map (fun a => ((a.1 : Int), (t : Int), y.L a.1, (0 : Int))) = ((List.range' 0 y.n).filter (sends y t)).map fun (i : Nat) => ((i : Int), (t : Int), y.L i, (0 : Int)) := by
  rw [new, List.map_map, List.range_eq_range']
  rfl
theorem z_tick {fu : Nat} (hf : 5000 ≤ fu) (e : Bool) {T t : Nat} (hT : T ≤ 400) (ht : t < T) (n : Nat) {o : List Int} {c : Nat → Int} {R : Nat × Int → Int} (hr : Run (sy h) e t o c R) : ∃ o' c' R', r7_Carried_L5 fu l s (T : Int) e (n + 1) o (jobs (sy h) c R t) (t : Int) = r7_Carried_L5 fu l s (T : Int) e n o' (jobs (sy h) c' R' (t + 1)) ((t + 1 : Nat) : Int) ∧ Run (sy h) e (t + 1) o' c' R' := by
  have inv := run_inv (sy h) hr
  have hc : ∀ j, j < (sy h).n → 0 ≤ c j := fun j hj => (inv.2.1 j hj).1
  have hj0 : (jobs (sy h) c R t).length ≤ 2406 := by
    rw [jobs, List.length_map]
    exact Nat.le_trans (keys_len (sy h) t) (Nat.le_trans (Nat.mul_le_mul (show t ≤ 401 by omega) h.few) (by omega))
  have hk1 : (keys (sy h) (t + 1)).length ≤ 2406 := Nat.le_trans (keys_len (sy h) _) (Nat.le_trans (Nat.mul_le_mul (show t + 1 ≤ 401 by omega) h.few) (by omega))
  have few := h.few
  have E1 : r7_Carried_L3 fu l s (T : Int) e o (t : Int) fu (jobs (sy h) c R t) ((0 : Nat) : Int) = some (o, jobs (sy h) c R (t + 1)) := by
    rw [jobs_new (sy h) hr, new_range]
    exact z_new h fu (T : Int) e o (t := t) (by omega) l.length 0 fu (jobs (sy h) c R t) (by omega) (by omega) (by omega)
  obtain ⟨v, E2, hv⟩ := z_scan h fu (T : Int) e o (t : Int) (t := t + 1) (by omega) c R (keys (sy h) (t + 1)).length 0 fu (-1) (by omega) (by omega) (.inl ⟨rfl, fun j hj => absurd hj (by omega)⟩)
  have W : IntKind.wrap .i64 ((t : Int) + 1) = ((t + 1 : Nat) : Int) := wrapS (by omega)
  have ol : (o.length : Int) < 65536 := by rw [inv.1]; omega
  rw [r7_Carried_L5, if_pos (by omega), show (0 : Int) = ((0 : Nat) : Int) from rfl, E1, Option.bind_some]
  simp only
  rw [E2, Option.bind_some, W]
  simp only
  rcases hv with ⟨hv, hn⟩ | ⟨j, a, hv, hja, hla, hn⟩
  · subst hv
    rw [if_pos (by omega), if_pos ol]
    refine ⟨_, c, R, rfl, .idle hr (none_left (sy h) hc fun b hb => ?_)⟩
    obtain ⟨j, hj⟩ := List.getElem?_of_mem hb
    exact hn j (List.getElem?_eq_some_iff.1 hj).1 b hj
  · subst hv
    have hmem := List.mem_of_getElem? hja
    have least : Least (sy h) c e (t + 1) a := ⟨hmem, hla, fun b hb hlb => by
      obtain ⟨j', hj'⟩ := List.getElem?_of_mem hb
      exact hn j' (List.getElem?_eq_some_iff.1 hj').1 b hj' hlb⟩
    obtain ⟨ch, hs⟩ := least_chosen (sy h) hc least
    obtain ⟨i, q⟩ := a
    have hs : q = sent (sy h) c i := hs
    have ch : Chosen (sy h) c e (t + 1) i := ch
    have hk := (mem_keys (sy h) (t + 1)).1 hmem
    have hS := (sy h).hS i hk.1
    have hL := (sy h).hL i hk.1
    have hL2 : (sy h).L i ≤ 20 := by
      have e1 := List.getElem?_eq_getElem (show i < l.length from hk.1)
      have := h.ok i _ e1
      show (gs l i).2.2.2 ≤ 20
      rw [gs_at e1]
      exact this.2.2.2.2.2
    subst hs
    have hjj : (jobs (sy h) c R (t + 1))[j]? = some ((i : Int), sent (sy h) c i, left (sy h) c i (sent (sy h) c i), R (i, sent (sy h) c i)) := by rw [jobs, List.getElem?_map, hja]; rfl
    have jl := (List.getElem?_eq_some_iff.1 hjj).1
    have nl := left_now (sy h) c hk.1 (hc i hk.1)
    have fi := fin_iff (c := c i) hL
    have m1 := Int.emod_nonneg (c i) (show (sy h).L i ≠ 0 by omega)
    have m2 := Int.emod_lt_of_pos (c i) hL
    rw [if_neg (by omega), if_pos (idx hjj).1, (idx hjj).2.2, Option.bind_some, if_pos ol, Option.bind_some]
    simp only
    rw [show 0 + ((j : Int)).toNat = j by omega, List.getElem?_set_self jl, Option.bind_some, Option.bind_some]
    simp only
    rw [wrapB (x := left (sy h) c i (sent (sy h) c i) - 1) (by omega) (by omega), List.set_set, wrapB (x := (t : Int) - sent (sy h) c i) (by omega) (by omega), wrapB (x := (t : Int) - sent (sy h) c i + 1) (by omega) (by omega), jobs_put (sy h) hk.1 (hc i hk.1) hja, jobs_put (sy h) hk.1 (hc i hk.1) hja]
    by_cases g : left (sy h) c i (sent (sy h) c i) - 1 = ((0 : Nat) : Int)
    · rw [if_pos g]
      refine ⟨_, _, _, rfl, ?_⟩
      have := Run.one hr ch
      rw [done, if_pos (fi.2 (by omega))] at this
      exact this
    · rw [if_neg g]
      refine ⟨_, _, _, rfl, ?_⟩
      have := Run.one hr ch
      rw [done, if_neg (fun g2 => g (by have := fi.1 g2; omega))] at this
      exact this
theorem z_run {fu : Nat} (hf : 5000 ≤ fu) (e : Bool) {T : Nat} (hT : T ≤ 400) : ∀ (m t n : Nat) (o : List Int) (c : Nat → Int) (R : Nat × Int → Int), t + m = T → m < n → Run (sy h) e t o c R → ∃ o' c' R', r7_Carried_L5 fu l s (T : Int) e n o (jobs (sy h) c R t) (t : Int) = some (o', jobs (sy h) c' R' T) ∧ Run (sy h) e T o' c' R'
  | _, _, 0, _, _, _, _, hn, _ => absurd hn (by omega)
  | 0, t, n + 1, o, c, R, hi, _, hr => by
    have : t = T := by omega
    subst this
    rw [r7_Carried_L5, if_neg (by omega)]
    exact ⟨o, c, R, rfl, hr⟩
  | m + 1, t, n + 1, o, c, R, hi, hn, hr => by
    obtain ⟨o', c', R', E, hr'⟩ := z_tick h hf e hT (show t < T by omega) n hr
    rw [E]
    exact z_run hf e hT m (t + 1) n o' c' R' (by omega) (by omega) hr'
theorem z_carried {fu : Nat} (hf : 5000 ≤ fu) (e : Bool) {T : Nat} (hT : T ≤ 400) : ∃ o c R, r7_Carried fu l s (T : Int) e = some (o, jobs (sy h) c R T) ∧ Run (sy h) e T o c R := by
  obtain ⟨o, c, R, E, hr⟩ := z_run h hf e hT T 0 fu [] (fun _ => 0) (fun _ => 0) (by omega) (by omega) .zero
  refine ⟨o, c, R, ?_, hr⟩
  unfold r7_Carried
  have E' : r7_Carried_L5 fu l s (T : Int) e fu [] [] (0 : Int) = some (o, jobs (sy h) c R T) := E
  rw [E']
  rfl
end Bs
end Go.Proofs.YthffbfkcmbgghaaGreat

namespace Go.Proofs.YthffbfkcmbgghaaGreat
open Go Go.RowKit
set_option maxHeartbeats 1000000
namespace Bs
variable (y : Sy)
theorem up_div {c L : Int} (hl : 0 < L) : ((c + 1) % L = 0 → (c + 1) / L = c / L + 1) ∧ ((c + 1) % L ≠ 0 → (c + 1) / L = c / L) := by
  have m1 := Int.emod_nonneg c (show L ≠ 0 by omega)
  have m2 := Int.emod_lt_of_pos c hl
  have e := Int.ediv_mul_add_emod c L
  have f := fin_iff (c := c) hl
  refine ⟨fun g => ?_, fun g => ?_⟩
  · have r := f.1 g
    refine ((Int.ediv_emod_unique (a := c + 1) (r := 0) (q := c / L + 1) hl).2 ⟨?_, by omega, hl⟩).1
    rw [Int.mul_add, Int.mul_one, Int.mul_comm]
    omega
  · have r : c % L + 1 < L := by
      by_cases q : L - c % L - 1 = 0
      · exact absurd (f.2 q) g
      · omega
    refine ((Int.ediv_emod_unique (a := c + 1) (r := c % L + 1) (q := c / L) hl).2 ⟨?_, by omega, r⟩).1
    rw [Int.mul_comm]
    omega
theorem run_zero {e : Bool} {t : Nat} {o : List Int} {c : Nat → Int} {R : Nat × Int → Int} (h : Run y e t o c R) : ∀ i, i < y.n → ∀ s, sent y c i ≤ s → R (i, s) = 0 := by
  induction h with
  | zero => exact fun _ _ _ _ => rfl
  | idle h hn ih => exact ih
  | @one t o c R i h hn ih =>
    intro j hj s hs
    have hl := y.hL i hn.1
    have hp := y.hP i hn.1
    have u := up_div (c := c i) hl
    unfold putR
    by_cases g : j = i
    · subst g
      have eu : sent y (up c j) j = y.S j + (c j + 1) / y.L j * y.P j := by simp [sent, up]
      rw [eu] at hs
      by_cases g2 : (c j + 1) % y.L j = 0
      · rw [u.1 g2, Int.add_mul, Int.one_mul] at hs
        have : sent y c j < s := by unfold sent; omega
        rw [if_neg (fun q => by injection q with _ q; omega)]
        exact ih j hj s (by omega)
      · rw [u.2 g2] at hs
        have hs' : sent y c j ≤ s := by unfold sent; omega
        split
        · unfold done
          rw [if_neg g2]
          exact ih j hj _ (Int.le_refl _)
        · exact ih j hj s hs'
    · rw [if_neg (fun q => g (by injection q))]
      refine ih j hj s ?_
      have : sent y (up c i) j = sent y c j := by simp [sent, up, g]
      omega
def IsW (t : Nat) (R : Nat × Int → Int) (i : Nat) (w : Int) : Prop := 0 ≤ w ∧ (∀ s, (i, s) ∈ keys y t → R (i, s) ≤ w) ∧ (w = 0 ∨ ∃ s, (i, s) ∈ keys y t ∧ R (i, s) = w)
theorem isW_one {t : Nat} {R : Nat × Int → Int} {i : Nat} {w w' : Int} (h : IsW y t R i w) (h' : IsW y t R i w') : w = w' := by
  obtain ⟨a, b, c⟩ := h
  obtain ⟨a', b', c'⟩ := h'
  rcases c with c | ⟨s, hs, c⟩ <;> rcases c' with c' | ⟨s', hs', c'⟩
  · omega
  · have := b s' hs'; omega
  · have := b' s hs; omega
  · have h1 := b s' hs'; have h2 := b' s hs; omega
theorem isW_next {e : Bool} {t : Nat} {o : List Int} {c : Nat → Int} {R : Nat × Int → Int} (h : Run y e t o c R) {i : Nat} {w : Int} (hw : IsW y t R i w) : IsW y (t + 1) R i w := by
  have inv := run_inv y h
  obtain ⟨a, b, d⟩ := hw
  refine ⟨a, fun s hs => ?_, ?_⟩
  · rw [keys, List.mem_append] at hs
    rcases hs with hs | hs
    · exact b s hs
    · have := (mem_new y).1 hs
      rw [inv.2.2.2.2 (i, s) (by show (t : Int) ≤ s; omega)]
      exact a
  · rcases d with d | ⟨s, hs, d⟩
    · exact .inl d
    · exact .inr ⟨s, by rw [keys, List.mem_append]; exact .inl hs, d⟩
theorem isW_put {e : Bool} {t : Nat} {o : List Int} {c : Nat → Int} {R : Nat × Int → Int} (h : Run y e t o c R) {i : Nat} (ch : Chosen y c e (t + 1) i) {j : Nat} {w : Int} (hw : IsW y t R j w) : IsW y (t + 1) (putR R (i, sent y c i) (done y c R i t)) j (if j = i then max w (if (c i + 1) % y.L i = 0 then (t : Int) - sent y c i + 1 else 0) else w) := by
  have hn := isW_next y h hw
  have z := run_zero y h i ch.1 (sent y c i) (Int.le_refl _)
  have inv := run_inv y h
  have m := sent_mem y c ch.1 (inv.2.1 i ch.1).1 ch.2.1
  have lt := ch.2.1
  obtain ⟨a, b, d⟩ := hn
  by_cases g : j = i
  · subst g
    rw [if_pos rfl]
    have hv : done y c R j t = if (c j + 1) % y.L j = 0 then (t : Int) - sent y c j + 1 else 0 := by unfold done; rw [z]
    rw [hv]
    have v0 : 0 ≤ (if (c j + 1) % y.L j = 0 then (t : Int) - sent y c j + 1 else 0) := by split <;> omega
    generalize (if (c j + 1) % y.L j = 0 then (t : Int) - sent y c j + 1 else 0) = v at v0
    refine ⟨by omega, fun s hs => ?_, ?_⟩
    · unfold putR
      split
      · omega
      · have := b s hs; omega
    · by_cases q : w ≤ v
      · exact .inr ⟨_, m, by unfold putR; rw [if_pos rfl]; omega⟩
      · rcases d with d | ⟨s, hs, d⟩
        · omega
        · refine .inr ⟨s, hs, ?_⟩
          unfold putR
          rw [if_neg (fun g => by rw [g] at d; omega)]
          omega
  · rw [if_neg g]
    refine ⟨a, fun s hs => ?_, ?_⟩
    · unfold putR
      rw [if_neg (fun q => g (by injection q))]
      exact b s hs
    · rcases d with d | ⟨s, hs, d⟩
      · exact .inl d
      · refine .inr ⟨s, hs, ?_⟩
        unfold putR
        rw [if_neg (fun q => g (by injection q))]
        exact d
end Bs
end Go.Proofs.YthffbfkcmbgghaaGreat
