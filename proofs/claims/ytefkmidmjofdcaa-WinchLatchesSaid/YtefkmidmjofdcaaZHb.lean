/-
  Latches after events: the program's loop and the reference's are one.
-/
import Derived.Test.YtefkmidmjofdcaaZHa
import Derived.Test.YtefkmidmjofdcaaZGd
set_option linter.all false
namespace Go.Proofs.Ytefkmidmjofdcaa
open Go Go.RowKit

def runL (L H : Int) : Int → Bool → Int → Int → List (Int × Int × Int) → Option (Int ⊕ (Bool × Int × Int))
  | _, c, ld, si, [] => some (.inr (c, ld, si))
  | t, c, ld, si, e :: r => if evE e.1 e.2.1 e.2.2 = 0 then (if e.1 < t then some (.inl 9) else Option.bind (r2_Latched L H c ld si e.1 e.2.1 e.2.2) fun x => if x.2.2.2 = 0 then runL L H e.1 x.1 x.2.1 x.2.2.1 r else some (.inl x.2.2.2)) else some (.inl (evE e.1 e.2.1 e.2.2))
theorem runL_some (L H : Int) : ∀ (l : List (Int × Int × Int)) (t : Int) (c : Bool) (ld si : Int), ∃ o, runL L H t c ld si l = some o ∧ ∀ x, o = .inl x → x ≠ 0
  | [], t, c, ld, si => ⟨_, rfl, fun x h => by cases h⟩
  | e :: r, t, c, ld, si => by
    unfold runL
    by_cases h1 : evE e.1 e.2.1 e.2.2 = 0
    · rw [if_pos h1]
      by_cases h2 : e.1 < t
      · rw [if_pos h2]
        exact ⟨_, rfl, fun x h => by injection h with h; omega⟩
      · rw [if_neg h2]
        obtain ⟨x, hx⟩ := latched_some L H c ld si e.1 e.2.1 e.2.2
        rw [hx, Option.bind_some]
        by_cases h3 : x.2.2.2 = 0
        · rw [if_pos h3]
          exact runL_some L H r _ _ _ _
        · rw [if_neg h3]
          exact ⟨_, rfl, fun y h => by injection h with h; rw [← h]; exact h3⟩
    · rw [if_neg h1]
      exact ⟨_, rfl, fun y h => by injection h with h; rw [← h]; exact h1⟩
def prjL : (Int × Bool × Int × Int × Int × Int) ⊕ (Int × Bool × Int × Int) → Int ⊕ (Bool × Int × Int)
  | .inl y => .inl y.2.2.2.2.2
  | .inr y => .inr (y.2.1, y.2.2.1, y.2.2.2)
theorem closure_eq {fu : Nat} (hf : 5 ≤ fu) (t k v at' L H : Int) (c : Bool) (ld si : Int) : w_LatchedBy_1 fu t k v at' L H c ld si = if evE t k v = 0 then (if t < at' then some (9, at', c, ld, si) else Option.bind (r2_Latched L H c ld si t k v) fun x => some (x.2.2.2, t, x.1, x.2.1, x.2.2.1)) else some (evE t k v, at', c, ld, si) := by
  unfold w_LatchedBy_1
  rw [w_event_eq hf, Option.bind_some]
  by_cases h : evE t k v = 0
  · obtain ⟨_, k1, k2⟩ := evE_kind h
    rw [if_pos h, if_pos h, latched_eq k1 k2]
  · rw [if_neg h, if_neg h]
theorem fb_L1 (fu : Nat) (hf : 5 ≤ fu) (l : List (Int × Int × Int)) (hl : l.length < 4611686018427387904) (L H : Int) : ∀ (r : List (Int × Int × Int)) (i n : Nat) (t : Int) (c : Bool) (ld si : Int), l.drop i = r → i ≤ l.length → r.length < n →
    (u_FirstBad_WinchEvent_LatchedBy_1_L1 fu l L H (l.length : Int) n t c ld si (i : Int)).map prjL = runL L H t c ld si r
  | _, _, 0, _, _, _, _, _, _, h => by omega
  | [], i, n + 1, t, c, ld, si, h, hi, _ => by
    have h2 := congrArg List.length h
    rw [List.length_drop, List.length_nil] at h2
    rw [u_FirstBad_WinchEvent_LatchedBy_1_L1, if_neg (by omega)]
    rfl
  | e :: r, i, n + 1, t, c, ld, si, h, hi, hn => by
    obtain ⟨h1, h2, h3, h4, h5⟩ := at_cons h
    rw [List.length_cons] at hn
    rw [u_FirstBad_WinchEvent_LatchedBy_1_L1, if_pos h1, if_pos h2, if_pos h1, h3, Option.bind_some, closure_eq hf, runL]
    by_cases k1 : evE e.1 e.2.1 e.2.2 = 0
    · rw [if_pos k1, if_pos k1]
      by_cases k2 : e.1 < t
      · rw [if_pos k2, if_pos k2, Option.bind_some]
        rfl
      · rw [if_neg k2, if_neg k2]
        obtain ⟨x, hx⟩ := latched_some L H c ld si e.1 e.2.1 e.2.2
        rw [hx, Option.bind_some, Option.bind_some, Option.bind_some]
        by_cases k3 : x.2.2.2 = 0
        · rw [if_pos k3, if_pos k3, wrap_nat (by omega)]
          exact fb_L1 fu hf l hl L H r (i + 1) n _ _ _ _ h4 (by omega) (by omega)
        · rw [if_neg k3, if_neg k3]
          rfl
    · rw [if_neg k1, if_neg k1, Option.bind_some, if_neg k1]
      rfl
def resL : Int ⊕ (Bool × Int × Int) → Bool × Int × Int × Int
  | .inl x => (false, 0, 0, x)
  | .inr s => (s.1, s.2.1, s.2.2, 0)
def latchedV (L H : Int) (l : List (Int × Int × Int)) : Option (Bool × Int × Int × Int) :=
  if latE L H = 0 then (if (40 : Int) < (l.length : Int) then some (false, 0, 0, 8) else (runL L H 0 true 0 0 l).map resL) else some (false, 0, 0, latE L H)
theorem latchedV_some (L H : Int) (l : List (Int × Int × Int)) : ∃ x, latchedV L H l = some x := by
  unfold latchedV
  obtain ⟨o, ho, _⟩ := runL_some L H l 0 true 0 0
  rw [ho]
  (repeat' split) <;> exact ⟨_, rfl⟩
theorem w_latchedBy_eq {fu : Nat} (hf : 5 ≤ fu) (L H : Int) (l : List (Int × Int × Int)) (hn : l.length < fu) (hl : l.length < 4611686018427387904) : w_LatchedBy fu L H l = latchedV L H l := by
  unfold w_LatchedBy latchedV
  rw [w_latch_eq hf, Option.bind_some]
  by_cases h1 : latE L H = 0
  · rw [if_pos h1, if_pos h1]
    by_cases h2 : (40 : Int) < (l.length : Int)
    · rw [if_pos h2, if_pos h2]
    · rw [if_neg h2, if_neg h2]
      have hq := fb_L1 fu hf l hl L H l 0 fu 0 true 0 0 rfl (Nat.zero_le _) hn
      obtain ⟨o, ho, hne⟩ := runL_some L H l 0 true 0 0
      rw [ho] at hq ⊢
      rw [show ((0 : Nat) : Int) = 0 from rfl] at hq
      obtain ⟨y, hy, he⟩ := Option.map_eq_some_iff.1 hq
      unfold u_FirstBad_WinchEvent_LatchedBy_1
      rw [hy, Option.bind_some]
      cases y with
      | inl y =>
        have hne2 := hne _ he.symm
        subst he
        simp only [Option.bind_some]
        rw [if_neg hne2]
        rfl
      | inr y =>
        subst he
        rfl
  · rw [if_neg h1, if_neg h1]
theorem ref_L1 (fu : Nat) (l : List (Int × Int × Int)) (hl : l.length < 4611686018427387904) (L H : Int) : ∀ (r : List (Int × Int × Int)) (i n : Nat) (t : Int) (c : Bool) (ld si : Int), l.drop i = r → i ≤ l.length → r.length < n → ((i = 0 ∧ t = 0) ∨ ∃ (j : Nat) (p : Int × Int × Int), i = j + 1 ∧ l[j]? = some p ∧ t = p.1) →
    r2_LatchedBy_L1 fu l L H n c ld si (i : Int) = runL L H t c ld si r
  | _, _, 0, _, _, _, _, _, _, h, _ => by omega
  | [], i, n + 1, t, c, ld, si, h, hi, _, _ => by
    have h2 := congrArg List.length h
    rw [List.length_drop, List.length_nil] at h2
    rw [r2_LatchedBy_L1, if_neg (by omega)]
    rfl
  | e :: r, i, n + 1, t, c, ld, si, h, hi, hn, ht => by
    obtain ⟨h1, h2, h3, h4, h5⟩ := at_cons h
    rw [List.length_cons] at hn
    have h3' : l[i]? = some e := by rw [← h3, Int.toNat_natCast, Nat.zero_add]
    have rc := fun (x : Bool × Int × Int × Int) => ref_L1 fu l hl L H r (i + 1) n e.1 x.1 x.2.1 x.2.2.1 h4 (by omega) (by omega) (.inr ⟨i, e, rfl, h3', rfl⟩)
    rw [r2_LatchedBy_L1, if_pos h1, if_pos h2, h3, Option.bind_some, r2_event_eq, Option.bind_some, runL, wrap_nat (by omega)]
    by_cases k1 : evE e.1 e.2.1 e.2.2 = 0
    · rw [if_pos k1, if_pos k1]
      obtain ⟨x, hx⟩ := latched_some L H c ld si e.1 e.2.1 e.2.2
      rw [hx, Option.bind_some, Option.bind_some]
      rcases ht with ⟨rfl, rfl⟩ | ⟨j, p, rfl, hp, rfl⟩
      · have := (evE_kind k1).1
        rw [if_neg (by omega), if_neg (show ¬ e.1 < 0 by omega)]
        by_cases k3 : x.2.2.2 = 0
        · rw [if_pos k3, if_pos k3]; exact rc x
        · rw [if_neg k3, if_neg k3]
      · have hp2 : l[0 + ((j : Int)).toNat]? = some p := by rw [Int.toNat_natCast, Nat.zero_add]; exact hp
        rw [if_pos (by omega), wrap_pred (by omega), if_pos (by omega), if_pos (by omega), hp2, Option.bind_some]
        by_cases k2 : e.1 < p.1
        · rw [if_pos k2, if_pos k2]
        · rw [if_neg k2, if_neg k2]
          by_cases k3 : x.2.2.2 = 0
          · rw [if_pos k3, if_pos k3]; exact rc x
          · rw [if_neg k3, if_neg k3]
    · rw [if_neg k1, if_neg k1]
theorem r2_latchedBy_eq {fu : Nat} (L H : Int) (l : List (Int × Int × Int)) (hn : l.length < fu) (hl : l.length < 4611686018427387904) : r2_LatchedBy fu L H l = latchedV L H l := by
  unfold r2_LatchedBy latchedV
  rw [r2_latch_eq, Option.bind_some]
  by_cases h1 : latE L H = 0
  · rw [if_pos h1, if_pos h1]
    by_cases h2 : (40 : Int) < (l.length : Int)
    · rw [if_pos h2, if_pos h2]
    · rw [if_neg h2, if_neg h2]
      have hq := ref_L1 fu l hl L H l 0 fu 0 true 0 0 rfl (Nat.zero_le _) hn (.inl ⟨rfl, rfl⟩)
      rw [show ((0 : Nat) : Int) = 0 from rfl] at hq
      unfold r2_Begin
      rw [Option.bind_some, hq]
      obtain ⟨o, ho, _⟩ := runL_some L H l 0 true 0 0
      rw [ho, Option.bind_some]
      cases o <;> rfl
  · rw [if_neg h1, if_neg h1]
end Go.Proofs.Ytefkmidmjofdcaa
