/-
  Plain words for the walks of this seat: slices that read as lists, rows of the call's own, appends, new blocks; nothing here names a function of the program.
-/
import Derived.WalkKit
import Derived.WalkSpells
import Derived.Lib.Hide
import Derived.Laws.OwnMore
import Derived.Laws.Rows
import Derived.Maps.AppendAt
import Derived.Deep.AppendLies
import Derived.Deep.Draws
set_option linter.all false
namespace Go.Proofs.YthffbfkcmbgghaaGreat
open Go.RowKit
/-! ### Encodings of elements as cells -/
def e1 (n : Int) : List Value := [.int .i64 n]
def e2 (p : Int × Int) : List Value := [.int .i64 p.1, .int .i64 p.2]
def e3 (p : Int × Int × Int) : List Value := [.int .i64 p.1, .int .i64 p.2.1, .int .i64 p.2.2]
theorem flat_at {α : Type} (enc : α → List Value) (s : Nat) (hs : ∀ x, (enc x).length = s) (xs : List α) : ∀ (i : Nat) (h : i < xs.length) (j : Nat), j < s → (xs.flatMap enc)[i * s + j]? = (enc xs[i])[j]? := by
 induction xs with
 | nil => intro i h; simp at h
 | cons x r ih =>
  intro i h j hj
  rw [List.flatMap_cons]
  match i, h with
  | 0, _ => rw [List.getElem?_append_left (by rw [hs]; omega)]; simp
  | i + 1, h =>
   have hx : (enc x).length = s := hs x
   rw [List.getElem?_append_right (by rw [hx, Nat.add_mul]; omega), hx]
   have := ih i (by simpa using h) j hj
   rw [show (i + 1) * s + j - s = i * s + j from by rw [Nat.add_mul]; omega, this]
   rfl
/-! ### Small facts about worlds -/
theorem below_alloc1 (w : World) (o : Obj) : Below w.heap.size w (w.alloc o) := (Below.refl _ _).alloc (Nat.le_refl _) o
theorem below_grownN {w w' : World} (h : Below w.heap.size w w') : w.grownBy w' none := ⟨h.os, h.tape, h.output, h.size, fun k hk _ => h.block k hk⟩
theorem cell_lt {w : World} {a : Addr} {v : Value} (h : w.cell? a = some v) : a.block < w.heap.size := block_lt_of_cell h
/-! ### A slice that reads as a list -/
def Sl {α : Type} (enc : α → List Value) (s : Nat) (w : World) (v : Value) (xs : List α) : Prop :=
 ∃ A c, v = .slice A xs.length c ∧ xs.length ≤ c ∧
  (xs ≠ [] → ∃ b off, A = some ⟨b, off, none⟩ ∧ b < w.heap.size ∧ ∀ (i : Nat) (h : i < xs.length) (j : Nat), j < s → w.cell? ⟨b, off + i * s + j, none⟩ = (enc xs[i])[j]?)
section
variable {α : Type} {enc : α → List Value} {s : Nat} {w w' : World} {v : Value} {xs : List α}
theorem Sl.nil (enc : α → List Value) (s : Nat) (w : World) : Sl enc s w (.slice none 0 0) [] := ⟨none, 0, rfl, Nat.le_refl _, fun h => absurd rfl h⟩
theorem Sl.keep (h : Sl enc s w v xs) (hs : w.heap.size ≤ w'.heap.size) (hk : ∀ p : Addr, p.block < w.heap.size → w'.cell? p = w.cell? p) : Sl enc s w' v xs := by
 obtain ⟨A, c, h1, h2, h3⟩ := h
 refine ⟨A, c, h1, h2, fun hx => ?_⟩
 obtain ⟨b, off, hA, hb, hc⟩ := h3 hx
 exact ⟨b, off, hA, by omega, fun i hi j hj => (hk ⟨b, off + i * s + j, none⟩ hb).trans (hc i hi j hj)⟩
theorem Sl.below (h : Sl enc s w v xs) (hb : Below w.heap.size w w') : Sl enc s w' v xs := h.keep hb.size fun _ hp => hb.cell hp
theorem Sl.alloc (h : Sl enc s w v xs) (o : Obj) : Sl enc s (w.alloc o) v xs := h.below (below_alloc1 w o)
theorem Sl.drew (h : Sl enc s w v xs) : Sl enc s w.drew v xs := h
end
/-! ### A row of the call's own -/
def Ow {α : Type} (enc : α → List Value) (s : Nat) (e : TypeId) (base : Nat) (w : World) (v : Value) (xs : List α) : Prop := w.ownsRow base e s v xs.length (xs.flatMap enc)
section
variable {α : Type} {enc : α → List Value} {s : Nat} {e : TypeId} {base : Nat} {w w' : World} {v : Value} {xs : List α}
theorem Ow.nil (enc : α → List Value) (s : Nat) (e : TypeId) (base : Nat) (w : World) : Ow enc s e base w (.slice none 0 0) [] := World.ownsRow_nil w base e s
theorem Ow.own (h : Ow enc s e base w v xs) : w.ownsRow base e s v xs.length (xs.flatMap enc) := h
theorem Ow.alloc (h : Ow enc s e base w v xs) (o : Obj) : Ow enc s e base (w.alloc o) v xs := World.ownsRow.alloc h o
theorem Ow.drew (h : Ow enc s e base w v xs) : Ow enc s e base w.drew v xs := h
theorem Ow.below (h : Ow enc s e base w v xs) (hb : Below w.heap.size w w') : Ow enc s e base w' v xs := World.ownsRow.kept h (below_grownN hb) (by
 cases hv : v.ownBlock with
 | none => exact .inl rfl
 | some g => exact .inr (by simp))
theorem Ow.sl (h : Ow enc s e base w v xs) (hs : ∀ x, (enc x).length = s) : Sl enc s w v xs := by
 rcases h.2 with ⟨rfl, hn⟩ | ⟨g, cap, cur, rfl, hb, hh, hnc, _, hsz, htk⟩
 ·have : xs = [] := List.eq_nil_of_length_eq_zero hn
  subst this
  exact Sl.nil _ _ _
 ·refine ⟨_, _, rfl, hnc, fun _ => ⟨g, 0, rfl, ?_, fun i hi j hj => ?_⟩⟩
  ·rcases Nat.lt_or_ge g w.heap.size with hlt | hge
   ·exact hlt
   ·rw [Array.getElem?_eq_none hge] at hh; cases hh
  ·have hij : i * s + j < xs.length * s := by
    have : (i + 1) * s ≤ xs.length * s := Nat.mul_le_mul_right s hi
    rw [Nat.add_mul] at this
    omega
   rw [cell_of_row w g _ cur e (0, 0) hh, ← flat_at enc s hs xs i hi j hj, ← htk, List.getElem?_take, if_pos hij, Array.getElem?_toList]
   simp
theorem Ow.more {ys : List α} (h : w.ownsRow base e s v (xs.length + ys.length) (xs.flatMap enc ++ ys.flatMap enc)) : Ow enc s e base w v (xs ++ ys) := by
 unfold Ow; simpa using h
theorem Ow.lit (w : World) (cs : Array Value) (xs : List α) (hb : base ≤ w.heap.size) (hm : xs.length ≤ 1000000) (hs : cs.size = xs.length * s) (hc : cs.toList = xs.flatMap enc) :
  Ow enc s e base (w.alloc (.cells cs e)) (.slice (some ⟨w.heap.size, 0, none⟩) xs.length xs.length) xs := by
 have h := World.ownsRow_lit (e := e) w cs xs.length hb (by simp only [maxLen]; omega) hs
 unfold Ow
 rw [← hc]
 exact h
end
/-! ### append onto a row of the call's own, of a slice that reads as a list -/
section
variable {P : Program} {α : Type} {enc : α → List Value}
end
end Go.Proofs.YthffbfkcmbgghaaGreat
