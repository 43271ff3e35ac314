/-
  Latches: whenever an event opens or closes one, it was unloaded long enough.
-/
import Derived.Test.YtefkmidmjofdcaaZU2d
import Derived.Test.YtefkmidmjofdcaaZIa
set_option linter.all false
namespace Go.Proofs.Ytefkmidmjofdcaa
open Go Go.RowKit

abbrev Ev := Int × Int × Int
theorem e_limit (a lo hi : Int) : u_LimitError a lo hi = some (limE a lo hi) := by
  unfold u_LimitError limE
  by_cases h1 : a < lo
  · rw [if_pos h1, if_pos (.inl h1)]
  · rw [if_neg h1]
    by_cases h2 : hi < a
    · rw [if_pos h2, if_pos (.inr h2)]
    · rw [if_neg h2, if_neg (by omega)]
theorem e_within (n lo hi : Int) : b_Within n lo hi = some (decide (lo ≤ n ∧ n ≤ hi)) := by
  unfold b_Within
  by_cases h1 : lo ≤ n
  · rw [if_pos h1]
    by_cases h2 : n ≤ hi
    · rw [if_pos h2]; simp [h1, h2]
    · rw [if_neg h2]; simp [h2]
  · rw [if_neg h1]; simp [h1]
theorem e_cons {α : Type} {l pre r : List α} {a : α} (h : l = pre ++ a :: r) : ((pre.length : Nat) : Int) < (l.length : Int) ∧ (0 : Int) ≤ ((pre.length : Nat) : Int) ∧ l[0 + (((pre.length : Nat) : Int)).toNat]? = some a ∧ pre.length < l.length := by
  subst h
  rw [Int.toNat_natCast, Nat.zero_add]
  simp
  omega
theorem e_first_L1 (fu : Nat) (l : List Int) (hl : l.length < 4611686018427387904) : ∀ (r pre : List Int) (n : Nat), l = pre ++ r → r.length < n → u_FirstError_L1 fu l (l.length : Int) n ((pre.length : Nat) : Int) = some (if firstE r = 0 then .inr () else .inl (firstE r))
  | _, _, 0, _, h => by omega
  | [], pre, n + 1, h, _ => by
    subst h
    rw [u_FirstError_L1, if_neg (by simp)]
    rfl
  | a :: r, pre, n + 1, h, hn => by
    obtain ⟨h1, h2, h3, h4⟩ := e_cons h
    rw [u_FirstError_L1, if_pos h1, if_pos h2, if_pos h1, h3, Option.bind_some]
    rw [List.length_cons] at hn
    by_cases ha : a = 0
    · rw [if_pos ha, wrapS (by omega), show pre.length + 1 = (pre ++ [a]).length by simp, e_first_L1 fu l hl r (pre ++ [a]) n (by simp [h]) (by omega)]
      simp only [firstE, ha, if_true]
    · rw [if_neg ha]
      simp only [firstE, ha, if_false]
theorem e_first (fu : Nat) (l : List Int) (h : l.length < fu) (hl : l.length < 4611686018427387904) : u_FirstError fu l = some (firstE l) := by
  have := e_first_L1 fu l hl l [] fu rfl h
  unfold u_FirstError
  rw [List.length_nil, show ((0 : Nat) : Int) = 0 from rfl] at this
  rw [this, Option.bind_some]
  by_cases h0 : firstE l = 0
  · rw [if_pos h0, h0]
  · rw [if_neg h0]
def latE (L H : Int) : Int := if (L < 0 ∨ 100000 < L) ∨ (H < 0 ∨ 100000 < H) then 2 else 0
theorem w_lat {fu : Nat} (hf : 8 ≤ fu) (L H : Int) : w_latchError fu L H = some (latE L H) := by
  unfold w_latchError latE
  rw [e_limit, e_limit, Option.bind_some, Option.bind_some, e_first _ _ (by simp; omega) (by simp), Option.bind_some]
  congr 1
  simp only [firstE, limE]
  (repeat' split) <;> first | rfl | (exfalso; omega)
theorem r2_lat (L H : Int) : r2_LatchErr L H = some (latE L H) := by
  unfold r2_LatchErr r2_isLoad latE
  simp only [e_within, Option.bind_some, decide_eq_true_eq]
  (repeat' split) <;> first | rfl | (exfalso; simp_all; done) | (exfalso; simp_all; omega) | (exfalso; omega)
def evE (e : Ev) : Int := if e.1 < 0 ∨ 1000000000000 < e.1 then 2 else if e.2.1 < 0 ∨ 3 ≤ e.2.1 then 15 else if e.2.1 = 0 then (if e.2.2 < 0 ∨ 100000 < e.2.2 then 2 else 0) else (if e.2.2 < 0 ∨ 0 < e.2.2 then 2 else 0)
theorem e_kind (k n : Int) : u_KindError k n = some (if k < 0 ∨ n ≤ k then 15 else 0) := by
  unfold u_KindError
  by_cases h1 : k < 0
  · rw [if_pos h1, if_pos (.inl h1)]
  · rw [if_neg h1]
    by_cases h2 : n ≤ k
    · rw [if_pos h2, if_pos (.inr h2)]
    · rw [if_neg h2, if_neg (by omega)]
theorem w_ev {fu : Nat} (hf : 8 ≤ fu) (t k v : Int) : w_eventError fu t k v = some (evE (t, k, v)) := by
  unfold w_eventError evE
  rw [e_limit, Option.bind_some, e_kind, Option.bind_some, e_first fu _ (by simp <;> omega) (by simp), Option.bind_some, e_limit, e_limit]
  unfold limE
  by_cases c1 : t < 0 ∨ 1000000000000 < t
  · simp [firstE, c1]
  · by_cases c2 : k < 0 ∨ 3 ≤ k
    · simp [firstE, c1, c2]
    · by_cases c3 : k = 0 <;> simp [firstE, c1, c2, c3]
theorem r2_ev (t k v : Int) : r2_EventErr t k v = some (evE (t, k, v)) := by
  unfold r2_EventErr b_IsTick r2_isLoad evE
  simp only [e_within, Option.bind_some, decide_eq_true_eq]
  (repeat' split) <;> first | rfl | (exfalso; simp_all; done) | (exfalso; simp_all; omega) | (exfalso; omega)
theorem evE_zero {e : Ev} (h : evE e = 0) : (0 ≤ e.1 ∧ e.1 ≤ 1000000000000) ∧ (0 ≤ e.2.1 ∧ e.2.1 ≤ 2) ∧ (e.2.1 = 0 → 0 ≤ e.2.2 ∧ e.2.2 ≤ 100000) := by
  unfold evE at h
  (repeat' split at h) <;> first | (exfalso; omega) | (refine ⟨⟨by omega, by omega⟩, ⟨by omega, by omega⟩, fun _ => ⟨by omega, by omega⟩⟩)
/-- The state after a valid event. -/
def nx (L H : Int) (c : Bool) (ld si : Int) (e : Ev) : Bool × Int × Int × Int :=
  if e.2.1 = 0 then (c, e.2.2, (if L < e.2.2 then -1 else if si = -1 then e.1 else si), 0)
  else if c = decide (e.2.1 = 2) then (false, 0, 0, 20)
  else if si = -1 then (false, 0, 0, 24)
  else if IntKind.wrap .i64 (e.1 - si) < H then (false, 0, 0, 24)
  else (decide (e.2.1 = 2), ld, si, 0)
theorem w_next (L H : Int) (c : Bool) (ld si t k v : Int) : w_latch_next L H c ld si t k v = some (nx L H c ld si (t, k, v)) := by
  unfold w_latch_next w_latch_loaded nx
  by_cases h0 : k = 0
  · simp only [h0, if_true]
    (repeat' split) <;> simp_all
  · by_cases h2 : k = 2
    · subst h2
      cases c <;> simp only [if_true, if_false, h0, decide_true, Bool.false_eq_true, Bool.true_eq_false, show ¬ ((2 : Int) = 0) by omega] <;> (repeat' split) <;> simp_all
    · cases c <;> simp only [if_true, if_false, h0, h2, decide_false, Bool.false_eq_true] <;> (repeat' split) <;> simp_all
def runU (L H : Int) : Int → Bool → Int → Int → List Ev → Int ⊕ (Int × Bool × Int × Int)
  | t, c, ld, si, [] => .inr (t, c, ld, si)
  | t, c, ld, si, e :: r => if evE e = 0 then (if e.1 < t then .inl 9 else if (nx L H c ld si e).2.2.2 = 0 then runU L H e.1 (nx L H c ld si e).1 (nx L H c ld si e).2.1 (nx L H c ld si e).2.2.1 r else .inl (nx L H c ld si e).2.2.2) else .inl (evE e)
theorem runU_app (L H : Int) : ∀ (l : List Ev) (t : Int) (c : Bool) (ld si : Int) (r : List Ev), runU L H t c ld si (l ++ r) = match runU L H t c ld si l with | .inl x => .inl x | .inr s => runU L H s.1 s.2.1 s.2.2.1 s.2.2.2 r
  | [], t, c, ld, si, r => rfl
  | e :: l, t, c, ld, si, r => by
    simp only [List.cons_append, runU]
    by_cases h1 : evE e = 0
    · simp only [if_pos h1]
      by_cases h2 : e.1 < t
      · simp only [if_pos h2]
      · simp only [if_neg h2]
        by_cases h3 : (nx L H c ld si e).2.2.2 = 0
        · simp only [if_pos h3]; exact runU_app L H l _ _ _ _ r
        · simp only [if_neg h3]
    · simp only [if_neg h1]
theorem u_closure {fu : Nat} (hf : 8 ≤ fu) (e : Ev) (t L H : Int) (c : Bool) (ld si : Int) : w_LatchedBy_1 fu e.1 e.2.1 e.2.2 t L H c ld si = some (if evE e = 0 then (if e.1 < t then (9, t, c, ld, si) else ((nx L H c ld si e).2.2.2, e.1, (nx L H c ld si e).1, (nx L H c ld si e).2.1, (nx L H c ld si e).2.2.1)) else (evE e, t, c, ld, si)) := by
  unfold w_LatchedBy_1
  rw [w_ev hf, Option.bind_some, w_next]
  (repeat' split) <;> rfl
theorem u_fb (fu : Nat) (hf : 8 ≤ fu) (l : List Ev) (hl : l.length < 4611686018427387904) (L H : Int) : ∀ (r pre : List Ev) (n : Nat) (t : Int) (c : Bool) (ld si : Int), l = pre ++ r → r.length < n →
    ∃ o, u_FirstBad_WinchEvent_LatchedBy_1_L1 fu l L H (l.length : Int) n t c ld si ((pre.length : Nat) : Int) = some o ∧ (match o with | .inl y => runU L H t c ld si r = .inl y.2.2.2.2.2 ∧ y.2.2.2.2.2 ≠ 0 | .inr y => runU L H t c ld si r = .inr y)
  | _, _, 0, _, _, _, _, _, h => by omega
  | [], pre, n + 1, t, c, ld, si, h, _ => by
    subst h
    rw [u_FirstBad_WinchEvent_LatchedBy_1_L1, if_neg (by simp)]
    exact ⟨_, rfl, rfl⟩
  | e :: r, pre, n + 1, t, c, ld, si, h, hn => by
    obtain ⟨g1, g2, g3, g4⟩ := e_cons h
    rw [List.length_cons] at hn
    rw [u_FirstBad_WinchEvent_LatchedBy_1_L1, if_pos g1, if_pos g2, if_pos g1, g3, Option.bind_some, u_closure hf, Option.bind_some]
    unfold runU
    by_cases h1 : evE e = 0
    · simp only [if_pos h1]
      by_cases h2 : e.1 < t
      · simp only [if_pos h2]
        exact ⟨_, rfl, rfl, by simp⟩
      · simp only [if_neg h2]
        by_cases h3 : (nx L H c ld si e).2.2.2 = 0
        · simp only [if_pos h3]
          rw [wrapS (by omega), show pre.length + 1 = (pre ++ [e]).length by simp]
          exact u_fb fu hf l hl L H r (pre ++ [e]) n _ _ _ _ (by simp [h]) (by omega)
        · simp only [if_neg h3]
          exact ⟨_, rfl, rfl, h3⟩
    · simp only [if_neg h1]
      exact ⟨_, rfl, rfl, h1⟩
def latV (L H : Int) (l : List Ev) : Bool × Int × Int × Int :=
  if latE L H = 0 then (if (40 : Int) < (l.length : Int) then (false, 0, 0, 8) else match runU L H 0 true 0 0 l with | .inl x => (false, 0, 0, x) | .inr s => (s.2.1, s.2.2.1, s.2.2.2, 0)) else (false, 0, 0, latE L H)
theorem w_latched {fu : Nat} (hf : 8 ≤ fu) (L H : Int) (l : List Ev) (hn : l.length < fu) (hl : l.length < 4611686018427387904) : w_LatchedBy fu L H l = some (latV L H l) := by
  unfold w_LatchedBy latV
  rw [w_lat hf, Option.bind_some]
  by_cases h1 : latE L H = 0
  · rw [if_pos h1, if_pos h1]
    by_cases h2 : (40 : Int) < (l.length : Int)
    · rw [if_pos h2, if_pos h2]
    · rw [if_neg h2, if_neg h2]
      obtain ⟨o, e1, e2⟩ := u_fb fu hf l hl L H l [] fu 0 true 0 0 rfl hn
      rw [List.length_nil, show ((0 : Nat) : Int) = 0 from rfl] at e1
      unfold u_FirstBad_WinchEvent_LatchedBy_1
      rw [e1]
      cases o with
      | inl y =>
        obtain ⟨e3, e4⟩ := e2
        simp only [Option.bind_some, if_neg e4, e3]
      | inr y =>
        simp only at e2
        simp only [Option.bind_some, if_true, e2]
  · rw [if_neg h1, if_neg h1]

/-! ### What holds on the way -/
structure IU (L : Int) (pre : List Ev) (t ld si : Int) : Prop where
  bt : 0 ≤ t ∧ t ≤ 1000000000000
  at' : ∀ k ∈ pre, 0 ≤ k.1 ∧ k.1 ≤ t
  bl : 0 ≤ ld ∧ ld ≤ 100000
  bs : (si = -1 ∧ L < ld) ∨ (0 ≤ si ∧ si ≤ t ∧ ld ≤ L)
  old : si = -1 ∨ ∀ k ∈ pre, k.2.1 = 0 → L < k.2.2 → k.1 ≤ si
theorem IU.step {L H : Int} {pre : List Ev} {t ld si : Int} {c : Bool} {e : Ev} (h : IU L pre t ld si) (h1 : evE e = 0) (h2 : ¬ e.1 < t) (h3 : (nx L H c ld si e).2.2.2 = 0) : IU L (pre ++ [e]) e.1 (nx L H c ld si e).2.1 (nx L H c ld si e).2.2.1 := by
  obtain ⟨z1, z2, z3⟩ := evE_zero h1
  obtain ⟨a, b, d, s, o⟩ := h
  have mem : ∀ k ∈ pre ++ [e], k ∈ pre ∨ k = e := fun k hk => by
    rcases List.mem_append.1 hk with h | h
    · exact .inl h
    · exact .inr (by simpa using h)
  have at2 : ∀ k ∈ pre ++ [e], 0 ≤ k.1 ∧ k.1 ≤ e.1 := fun k hk => by
    rcases mem k hk with h | h
    · have := b k h; omega
    · subst h; omega
  by_cases h0 : e.2.1 = 0
  · have hn : nx L H c ld si e = (c, e.2.2, (if L < e.2.2 then -1 else if si = -1 then e.1 else si), 0) := by unfold nx; rw [if_pos h0]
    rw [hn]
    have zv := z3 h0
    by_cases hv : L < e.2.2
    · simp only [if_pos hv]
      exact ⟨z1, at2, zv, .inl ⟨rfl, hv⟩, .inl rfl⟩
    · simp only [if_neg hv]
      by_cases hs : si = -1
      · simp only [if_pos hs]
        exact ⟨z1, at2, zv, .inr ⟨z1.1, Int.le_refl _, by omega⟩, .inr fun k hk _ _ => (at2 k hk).2⟩
      · simp only [if_neg hs]
        have s2 := s.resolve_left (fun h => hs h.1)
        refine ⟨z1, at2, zv, .inr ⟨s2.1, by omega, by omega⟩, .inr fun k hk k0 kv => ?_⟩
        rcases mem k hk with h | h
        · exact (o.resolve_left hs) k h k0 kv
        · subst h; omega
  · have hn : nx L H c ld si e = (decide (e.2.1 = 2), ld, si, 0) := by
      unfold nx at h3 ⊢
      rw [if_neg h0] at h3 ⊢
      split at h3
      · simp at h3
      · rename_i q1
        rw [if_neg q1]
        split at h3
        · simp at h3
        · rename_i q2
          rw [if_neg q2]
          split at h3
          · simp at h3
          · rename_i q3
            rw [if_neg q3]
    rw [hn]
    show IU L (pre ++ [e]) e.1 ld si
    refine ⟨z1, at2, d, ?_, ?_⟩
    · rcases s with h | h
      · exact .inl h
      · exact .inr ⟨h.1, by omega, h.2.2⟩
    · rcases o with h | h
      · exact .inl h
      · refine .inr fun k hk k0 kv => ?_
        rcases mem k hk with hk | hk
        · exact h k hk k0 kv
        · subst hk; exact absurd k0 h0
theorem IU.next {fu : Nat} (hf : 8 ≤ fu) {L H : Int} (hL : latE L H = 0) {pre : List Ev} {t ld si : Int} {c : Bool} {e : Ev} (h : IU L pre t ld si) (h1 : evE e = 0) (h2 : ¬ e.1 < t) : w_NextLatch fu L H c ld si e.1 e.2.1 e.2.2 = some (nx L H c ld si e) := by
  obtain ⟨a, b, d, s, o⟩ := h
  unfold w_NextLatch w_latch_stateError
  rw [w_lat hf, hL, w_ev hf, e_limit, e_limit]
  have e1 : limE ld 0 100000 = 0 := limE_zero.2 d
  have e2 : limE si (-1) 1000000000000 = 0 := limE_zero.2 (by omega)
  rw [e1, e2]
  simp only [Option.bind_some]
  rw [e_first _ _ (by simp; omega) (by simp), Option.bind_some]
  have e3 : (if firstE [0, 0] = 0 then if si = -1 then if L < ld then some (firstE [0, 0]) else some (3 : Int) else if L < ld then some 3 else some (firstE [0, 0]) else some (firstE [0, 0])) = some 0 := by
    have f0 : firstE [0, 0] = 0 := rfl
    rcases s with ⟨s1, s2⟩ | ⟨s1, s2, s3⟩
    · rw [f0, if_pos rfl, if_pos s1, if_pos s2]
    · rw [f0, if_pos rfl, if_neg (by omega), if_neg (by omega)]
  rw [e3, Option.bind_some, show evE (e.1, e.2.1, e.2.2) = 0 from h1, e_first _ _ (by simp; omega) (by simp), Option.bind_some]
  rw [if_pos (by rfl), if_neg (by omega), w_next, Option.bind_some]
theorem u_inner {L H : Int} {l pre r : List Ev} {e : Ev} {si : Int} (fu : Nat) (hl : l.length < 4611686018427387904) (h : l = pre ++ e :: r) (he : 0 ≤ e.1 ∧ e.1 ≤ 1000000000000) (hp : ∀ k ∈ pre, 0 ≤ k.1 ∧ k.1 ≤ 1000000000000) (ho : ∀ k ∈ pre, k.2.1 = 0 → L < k.2.2 → k.1 ≤ si) (hs : H ≤ e.1 - si) (p3 p4 p5 : Int) (p6 : Bool) (p7 p8 : Int) (p9 : Bool) (p10 p11 p12 : Int) (p14 : Bool) (p15 p16 : Int) : ∀ (r2 p2 : List Ev) (n : Nat), pre = p2 ++ r2 → r2.length < n →
    l2_WinchUnloaded_L2 fu l L H p3 p4 p5 p6 p7 p8 p9 p10 p11 p12 ((pre.length : Nat) : Int) p14 p15 p16 n ((p2.length : Nat) : Int) = some (.inr ())
  | _, _, 0, _, h => by omega
  | [], p2, n + 1, hq, _ => by
    rw [List.append_nil] at hq
    subst hq
    rw [l2_WinchUnloaded_L2, if_neg (by omega)]
  | k :: r2, p2, n + 1, hq, hn => by
    obtain ⟨g1, g2, g3, g4⟩ := e_cons hq
    rw [List.length_cons] at hn
    obtain ⟨q1, q2, q3, q4⟩ := e_cons h
    have hkp : k ∈ pre := by rw [hq]; simp
    have hk : l[0 + (((p2.length : Nat) : Int)).toNat]? = some k := by
      rw [h, Int.toNat_natCast, Nat.zero_add, List.getElem?_append_left g4]
      rwa [Int.toNat_natCast, Nat.zero_add] at g3
    have rc := u_inner (H := H) fu hl h he hp ho hs p3 p4 p5 p6 p7 p8 p9 p10 p11 p12 p14 p15 p16 r2 (p2 ++ [k]) n (by simp [hq]) (by omega)
    rw [show (p2 ++ [k]).length = p2.length + 1 by simp] at rc
    have hkk := hp k hkp
    rw [l2_WinchUnloaded_L2, if_pos g1, if_pos g2, if_pos (by omega), hk, Option.bind_some, wrapS (by omega)]
    by_cases k0 : k.2.1 = 0
    · rw [if_pos k0]
      by_cases kv : L < k.2.2
      · have := ho k hkp k0 kv
        rw [if_pos kv, if_pos q2, if_pos q1, q3, Option.bind_some, wrapB (by omega) (by omega), if_neg (by omega)]
        exact rc
      · rw [if_neg kv]; exact rc
    · rw [if_neg k0]; exact rc
theorem u_outer {fu : Nat} {L H : Int} (hL : latE L H = 0) {l : List Ev} (hf : l.length + 8 ≤ fu) (hl : l.length < 4611686018427387904) (p3 p4 p5 : Int) (p6 : Bool) (p7 p8 : Int) : ∀ (r pre : List Ev) (n : Nat) (t : Int) (c : Bool) (ld si : Int) (s : Int × Bool × Int × Int), l = pre ++ r → r.length < n → IU L pre t ld si → runU L H t c ld si r = .inr s →
    l2_WinchUnloaded_L3 fu l L H p3 p4 p5 p6 p7 p8 n c ld si ld ((pre.length : Nat) : Int) = some (.inr (s.2.1, s.2.2.1, s.2.2.2, s.2.2.1)) ∧ IU L l s.1 s.2.2.1 s.2.2.2
  | _, _, 0, _, _, _, _, _, _, h, _, _ => by omega
  | [], pre, n + 1, t, c, ld, si, s, h, _, hI, hr => by
    rw [List.append_nil] at h
    subst h
    injection hr with hr; subst hr
    rw [l2_WinchUnloaded_L3, if_neg (by omega)]
    exact ⟨rfl, hI⟩
  | e :: r, pre, n + 1, t, c, ld, si, s, h, hn, hI, hr => by
    obtain ⟨g1, g2, g3, g4⟩ := e_cons h
    rw [List.length_cons] at hn
    unfold runU at hr
    split at hr
    · rename_i h1
      split at hr
      · cases hr
      · rename_i h2
        split at hr
        · rename_i h3
          have hI2 := hI.step h1 h2 h3
          obtain ⟨rc1, rc2⟩ := u_outer hL hf hl p3 p4 p5 p6 p7 p8 r (pre ++ [e]) n e.1 _ _ _ s (by simp [h]) (by omega) hI2 hr
          refine ⟨?_, rc2⟩
          rw [show (pre ++ [e]).length = pre.length + 1 by simp] at rc1
          obtain ⟨z1, z2, z3⟩ := evE_zero h1
          rw [l2_WinchUnloaded_L3, if_pos g1, if_pos g2, g3, Option.bind_some, hI.next (by omega) hL h1 h2, Option.bind_some, if_pos h3, wrapS (by omega)]
          by_cases h0 : e.2.1 = 0
          · have hn2 : nx L H c ld si e = (c, e.2.2, (if L < e.2.2 then -1 else if si = -1 then e.1 else si), 0) := by unfold nx; rw [if_pos h0]
            rw [hn2] at rc1 ⊢
            simp only [if_pos h0] at rc1 ⊢
            cases c with
            | true => simp only [if_true]; exact rc1
            | false => simp only [Bool.false_eq_true, if_false]; exact rc1
          · obtain ⟨q1, q2, q3, hn2⟩ : ¬ c = decide (e.2.1 = 2) ∧ ¬ si = -1 ∧ ¬ IntKind.wrap .i64 (e.1 - si) < H ∧ nx L H c ld si e = (decide (e.2.1 = 2), ld, si, 0) := by
              unfold nx at h3 ⊢
              rw [if_neg h0] at h3 ⊢
              split at h3
              · simp at h3
              · rename_i q1
                rw [if_neg q1]
                split at h3
                · simp at h3
                · rename_i q2
                  rw [if_neg q2]
                  split at h3
                  · simp at h3
                  · rename_i q3
                    rw [if_neg q3]
                    exact ⟨q1, q2, q3, rfl⟩
            have hs := hI.bs.resolve_left (fun h => q2 h.1)
            have ht := hI.bt
            rw [wrapB (by omega) (by omega)] at q3
            have hin := fun b x y => u_inner (L := L) (H := H) (si := si) (e := e) fu hl h z1 (fun k hk => ⟨(hI.at' k hk).1, by have := (hI.at' k hk).2; omega⟩) (hI.old.resolve_left q2) (by omega) p3 p4 p5 p6 p7 p8 c ld si ld b x y pre [] fu rfl (by omega)
            rw [List.length_nil, show ((0 : Nat) : Int) = 0 from rfl] at hin
            rw [hn2] at rc1 ⊢
            simp only [if_neg h0] at rc1 ⊢
            have hcb : c = !decide (e.2.1 = 2) := by cases c <;> cases hd : decide (e.2.1 = 2) <;> simp_all
            cases hd : decide (e.2.1 = 2) with
            | true =>
              rw [hd] at hcb rc1
              simp only [hcb, Bool.not_true, if_true, Bool.false_eq_true, if_false, if_neg (show ¬ L < ld by omega)] at rc1 ⊢ hin
              rw [hin, Option.bind_some]
              exact rc1
            | false =>
              rw [hd] at hcb rc1
              simp only [hcb, Bool.not_false, if_true, Bool.false_eq_true, if_false, if_neg (show ¬ L < ld by omega)] at rc1 ⊢ hin
              rw [hin, Option.bind_some]
              exact rc1
        · cases hr
    · cases hr
theorem l2_WinchUnloaded_true (L H : Int) (l : List Ev) (m0 m1 m2 : Int) : ∃ fu, l2_WinchUnloaded fu L H l m0 m1 m2 = some true := by
  refine ⟨l.length + 20, ?_⟩
  unfold l2_WinchUnloaded l2_awake
  rw [Option.bind_some, if_pos rfl]
  by_cases c1 : (40 : Int) ≤ (l.length : Int)
  · rw [if_pos c1]
  rw [if_neg c1, r2_lat, Option.bind_some]
  by_cases hL : latE L H = 0
  · rw [if_pos hL, if_pos (by omega), w_latched (by omega) L H l (by omega) (by omega), Option.bind_some]
    have hv : latV L H l = match runU L H 0 true 0 0 l with | .inl x => (false, 0, 0, x) | .inr s => (s.2.1, s.2.2.1, s.2.2.2, 0) := by unfold latV; rw [if_pos hL, if_neg (by omega)]
    have hz : ¬ (L < 0 ∨ 100000 < L) := fun h => by unfold latE at hL; rw [if_pos (.inl h)] at hL; omega
    have hI0 : IU L [] 0 0 0 := ⟨⟨by omega, by omega⟩, (fun k hk => by cases hk), ⟨by omega, by omega⟩, .inr ⟨by omega, by omega, by omega⟩, .inr fun k hk => by cases hk⟩
    cases hr : runU L H 0 true 0 0 l with
    | inl x =>
      rw [hr] at hv
      simp only at hv
      have hx : ¬ x = 0 := by
        obtain ⟨o, e1, e2⟩ := u_fb (l.length + 20) (by omega) l (by omega) L H l [] (l.length + 20) 0 true 0 0 rfl (by omega)
        cases o with
        | inl y =>
          obtain ⟨e3, e4⟩ := e2
          rw [hr] at e3; injection e3 with e3; rw [e3]; exact e4
        | inr y => simp only at e2; rw [hr] at e2; cases e2
      rw [hv]
      simp only [if_neg hx]
    | inr s =>
      rw [hr] at hv
      simp only at hv
      rw [hv]
      obtain ⟨k1, hI⟩ := u_outer (fu := l.length + 20) hL (l := l) (by omega) (by omega) m0 m1 m2 s.2.1 s.2.2.1 s.2.2.2 l [] (l.length + 20) 0 true 0 0 s rfl (by omega) hI0 hr
      rw [List.length_nil, show ((0 : Nat) : Int) = 0 from rfl] at k1
      simp only [if_true]
      rw [k1, Option.bind_some]
      -- one event more
      have more : evE (m0, m1, m2) = 0 → ¬ m0 < s.1 → latV L H (l ++ [(m0, m1, m2)]) = nx L H s.2.1 s.2.2.1 s.2.2.2 (m0, m1, m2) := fun h1 h2 => by
        unfold latV
        rw [if_pos hL, if_neg (by simp; omega), runU_app, hr]
        simp only [runU]
        rw [if_pos h1, if_neg h2]
        by_cases h3 : (nx L H s.2.1 s.2.2.1 s.2.2.2 (m0, m1, m2)).2.2.2 = 0
        · rw [if_pos h3]
          generalize nx L H s.2.1 s.2.2.1 s.2.2.2 (m0, m1, m2) = y at h3 ⊢
          obtain ⟨y1, y2, y3, y4⟩ := y
          simp only at h3 ⊢
          rw [h3]
        · rw [if_neg h3]
          unfold nx at h3 ⊢
          (repeat' split) <;> simp_all
      have fin : ∀ (hd : ¬ m0 < s.1), (Option.bind (r2_EventErr m0 m1 m2) fun r35 => if r35 = (0 : Int) then (Option.bind (w_NextLatch (l.length + 20) L H s.2.1 s.2.2.1 s.2.2.2 m0 m1 m2) fun r37 => if (l.length : Int) < (65536 : Int) then (Option.bind (w_LatchedBy (l.length + 20) L H (l ++ [(m0, m1, m2)])) fun r39 => if r37.2.2.2 = r39.2.2.2 then (if r37.1 = true then (if r39.1 = true then (if r37.2.1 = r39.2.1 then (if r37.2.2.1 = r39.2.2.1 then (some true) else (some false)) else (some false)) else (some false)) else (if r39.1 = true then (some false) else (if r37.2.1 = r39.2.1 then (if r37.2.2.1 = r39.2.2.1 then (some true) else (some false)) else (some false)))) else (some false)) else none) else (some true)) = some true := fun hd => by
        rw [r2_ev, Option.bind_some]
        by_cases he : evE (m0, m1, m2) = 0
        · rw [if_pos he, hI.next (e := (m0, m1, m2)) (by omega) hL he hd, Option.bind_some, if_pos (by omega), w_latched (by omega) L H _ (by rw [List.length_append, List.length_singleton]; omega) (by rw [List.length_append, List.length_singleton]; omega), Option.bind_some, more he hd, if_pos rfl]
          cases (nx L H s.2.1 s.2.2.1 s.2.2.2 (m0, m1, m2)).1 <;> simp
        · rw [if_neg he]
      by_cases hlen : (0 : Int) < (l.length : Int)
      · have hne : l ≠ [] := fun h => by rw [h] at hlen; simp at hlen
        have hidx : l[0 + (IntKind.wrap .i64 ((l.length : Int) - (1 : Int))).toNat]? = some (l.getLast hne) := by
          rw [wrapB (by omega) (by omega), show ((l.length : Int) - 1).toNat = l.length - 1 by omega, Nat.zero_add, ← List.getLast?_eq_getElem?, List.getLast?_eq_some_getLast hne]
        have hlast : (l.getLast hne).1 = s.1 := by
          have h5 : l = l.dropLast ++ [l.getLast hne] := (List.dropLast_concat_getLast hne).symm
          have h6 := hr
          rw [h5, runU_app] at h6
          split at h6
          · cases h6
          · simp only [runU] at h6
            split at h6
            · split at h6
              · cases h6
              · split at h6
                · injection h6 with h6; rw [← h6]
                · cases h6
            · cases h6
        have w1 : IntKind.wrap .i64 ((l.length : Int) - (1 : Int)) = (l.length : Int) - 1 := wrapB (by omega) (by omega)
        rw [hidx]
        have last : (if m0 < (l.getLast hne).1 then some true else (Option.bind (r2_EventErr m0 m1 m2) fun r35 => if r35 = (0 : Int) then (Option.bind (w_NextLatch (l.length + 20) L H s.2.1 s.2.2.1 s.2.2.2 m0 m1 m2) fun r37 => if (l.length : Int) < (65536 : Int) then (Option.bind (w_LatchedBy (l.length + 20) L H (l ++ [(m0, m1, m2)])) fun r39 => if r37.2.2.2 = r39.2.2.2 then (if r37.1 = true then (if r39.1 = true then (if r37.2.1 = r39.2.1 then (if r37.2.2.1 = r39.2.2.1 then (some true) else (some false)) else (some false)) else (some false)) else (if r39.1 = true then (some false) else (if r37.2.1 = r39.2.1 then (if r37.2.2.1 = r39.2.2.1 then (some true) else (some false)) else (some false)))) else (some false)) else none) else (some true))) = some true := by
          rw [hlast]
          by_cases hm : m0 < s.1
          · rw [if_pos hm]
          · rw [if_neg hm]; exact fin hm
        cases hsb : s.2.1 <;> rw [hsb] at last <;> simp only [if_true, Bool.false_eq_true, if_false, hlen, if_pos (show (0 : Int) ≤ IntKind.wrap .i64 ((l.length : Int) - (1 : Int)) by rw [w1]; omega), if_pos (show IntKind.wrap .i64 ((l.length : Int) - (1 : Int)) < (l.length : Int) by rw [w1]; omega), Option.bind_some] <;> exact last
      · have h0 : l = [] := by cases l with | nil => rfl | cons a b => simp at hlen
        have hs1 : s.1 = 0 := by
          subst h0
          injection hr with hr; rw [← hr]
        have hgoal : (if m0 < 0 then some true else (some true : Option Bool)) = some true := by split <;> rfl
        by_cases hm : m0 < s.1
        · have hne : ¬ evE (m0, m1, m2) = 0 := fun h => by have := (evE_zero h).1; simp only at this; omega
          rw [r2_ev]
          cases s.2.1 <;> simp only [if_true, Bool.false_eq_true, if_false, if_neg hlen, Option.bind_some, if_neg hne]
        · have := fin hm
          cases hsb : s.2.1 <;> rw [hsb] at this <;> simp only [if_true, Bool.false_eq_true, if_false, if_neg hlen] <;> exact this
  · rw [if_neg hL]
end Go.Proofs.Ytefkmidmjofdcaa
