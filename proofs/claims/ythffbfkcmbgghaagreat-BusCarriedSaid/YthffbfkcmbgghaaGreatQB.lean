/-
  Plain words for the walks of this seat: slices that read as lists, rows of the call's own, appends, new blocks; nothing here names a function of the program.
-/
import Derived.WalkKit
import Derived.WalkSpells
import Derived.Lib.Hide
import Derived.Laws.OwnMore
import Derived.Laws.Rows
import Derived.Maps.AppendAt
import Derived.Deep.AppendLies
import Derived.Deep.Draws
import Derived.RangeFuncNested
import Derived.RangeFuncBound
import Derived.RangeFuncCalls
import Derived.RangeFuncLeaves
import Derived.Shelf.Abstract
import Derived.Shelf.RegionOpen
import Derived.OwnWalkIn
import Derived.TacticsInMore
import Derived.LoopNIn
import Derived.LoopIn
import Derived.StillTailTactics
import Derived.OrdersIn
set_option linter.all false
namespace Go.Proofs.YthffbfkcmbgghaaGreat
open Go.RowKit
/-! ### Encodings of elements as cells -/
def e1 (n : Int) : List Value := [.int .i64 n]
def e2 (p : Int × Int) : List Value := [.int .i64 p.1, .int .i64 p.2]
def e3 (p : Int × Int × Int) : List Value := [.int .i64 p.1, .int .i64 p.2.1, .int .i64 p.2.2]
theorem flat_at {α : Type} (enc : α → List Value) (s : Nat) (hs : ∀ x, (enc x).length = s) (xs : List α) : ∀ (i : Nat) (h : i < xs.length) (j : Nat), j < s → (xs.flatMap enc)[i * s + j]? = (enc xs[i])[j]? := by
  induction xs with
  | nil => intro i h; simp at h
  | cons x r ih =>
    intro i h j hj
    rw [List.flatMap_cons]
    match i, h with
    | 0, _ => rw [List.getElem?_append_left (by rw [hs]; omega)]; simp
    | i + 1, h =>
      have hx : (enc x).length = s := hs x
      rw [List.getElem?_append_right (by rw [hx, Nat.add_mul]; omega), hx]
      have := ih i (by simpa using h) j hj
      rw [show (i + 1) * s + j - s = i * s + j from by rw [Nat.add_mul]; omega, this]
      rfl
/-! ### Small facts about worlds -/
theorem below_alloc1 (w : World) (o : Obj) : Below w.heap.size w (w.alloc o) := (Below.refl _ _).alloc (Nat.le_refl _) o
theorem below_grownN {w w' : World} (h : Below w.heap.size w w') : w.grownBy w' none := ⟨h.os, h.tape, h.output, h.size, fun k hk _ => h.block k hk⟩
theorem cell_lt {w : World} {a : Addr} {v : Value} (h : w.cell? a = some v) : a.block < w.heap.size := block_lt_of_cell h
/-! ### A slice that reads as a list -/
def Sl {α : Type} (enc : α → List Value) (s : Nat) (w : World) (v : Value) (xs : List α) : Prop :=
  ∃ A c, v = .slice A xs.length c ∧ xs.length ≤ c ∧
    (xs ≠ [] → ∃ b off, A = some ⟨b, off, none⟩ ∧ b < w.heap.size ∧ ∀ (i : Nat) (h : i < xs.length) (j : Nat), j < s → w.cell? ⟨b, off + i * s + j, none⟩ = (enc xs[i])[j]?)
section
variable {α : Type} {enc : α → List Value} {s : Nat} {w w' : World} {v : Value} {xs : List α}
theorem Sl.nil (enc : α → List Value) (s : Nat) (w : World) : Sl enc s w (.slice none 0 0) [] := ⟨none, 0, rfl, Nat.le_refl _, fun h => absurd rfl h⟩
theorem Sl.keep (h : Sl enc s w v xs) (hs : w.heap.size ≤ w'.heap.size) (hk : ∀ p : Addr, p.block < w.heap.size → w'.cell? p = w.cell? p) : Sl enc s w' v xs := by
  obtain ⟨A, c, h1, h2, h3⟩ := h
  refine ⟨A, c, h1, h2, fun hx => ?_⟩
  obtain ⟨b, off, hA, hb, hc⟩ := h3 hx
  exact ⟨b, off, hA, by omega, fun i hi j hj => (hk ⟨b, off + i * s + j, none⟩ hb).trans (hc i hi j hj)⟩
theorem Sl.below (h : Sl enc s w v xs) (hb : Below w.heap.size w w') : Sl enc s w' v xs := h.keep hb.size fun _ hp => hb.cell hp
theorem Sl.alloc (h : Sl enc s w v xs) (o : Obj) : Sl enc s (w.alloc o) v xs := h.below (below_alloc1 w o)
theorem Sl.drew (h : Sl enc s w v xs) : Sl enc s w.drew v xs := h
theorem Sl.raw {A : Option Addr} {n c : Nat} (h : Sl enc s w (.slice A n c) xs) {k : Nat} (hk : k < xs.length) :
    ∃ b off, A = some ⟨b, off, none⟩ ∧ b < w.heap.size ∧ ∀ j, j < s → w.cell? ⟨b, off + k * s + j, none⟩ = (enc xs[k])[j]? := by
  obtain ⟨A', c', h1, _, h3⟩ := h
  injection h1 with hA _ _
  subst hA
  obtain ⟨b, off, h4, h5, h6⟩ := h3 (by intro e; rw [e] at hk; simp at hk)
  exact ⟨b, off, h4, h5, fun j hj => h6 k hk j hj⟩
end
theorem Sl.at2 {w : World} {A : Option Addr} {n c : Nat} {xs : List (Int × Int)} (h : Sl e2 2 w (.slice A n c) xs) {k : Nat} (hk : k < xs.length) :
    ∃ b off, A = some ⟨b, off, none⟩ ∧ b < w.heap.size ∧ w.cell? ⟨b, off + k * 2, none⟩ = some (.int .i64 xs[k].1) ∧ w.cell? ⟨b, off + k * 2 + 1, none⟩ = some (.int .i64 xs[k].2) := by
  obtain ⟨b, off, h1, h2, h3⟩ := h.raw hk
  exact ⟨b, off, h1, h2, by simpa [e2] using h3 0 (by omega), by simpa [e2] using h3 1 (by omega)⟩
/-! ### A row of the call's own -/
def Ow {α : Type} (enc : α → List Value) (s : Nat) (e : TypeId) (base : Nat) (w : World) (v : Value) (xs : List α) : Prop := w.ownsRow base e s v xs.length (xs.flatMap enc)
section
variable {α : Type} {enc : α → List Value} {s : Nat} {e : TypeId} {base : Nat} {w w' : World} {v : Value} {xs : List α}
theorem Ow.nil (enc : α → List Value) (s : Nat) (e : TypeId) (base : Nat) (w : World) : Ow enc s e base w (.slice none 0 0) [] := World.ownsRow_nil w base e s
theorem Ow.own (h : Ow enc s e base w v xs) : w.ownsRow base e s v xs.length (xs.flatMap enc) := h
theorem Ow.alloc (h : Ow enc s e base w v xs) (o : Obj) : Ow enc s e base (w.alloc o) v xs := World.ownsRow.alloc h o
theorem Ow.drew (h : Ow enc s e base w v xs) : Ow enc s e base w.drew v xs := h
theorem Ow.below (h : Ow enc s e base w v xs) (hb : Below w.heap.size w w') : Ow enc s e base w' v xs := World.ownsRow.kept h (below_grownN hb) (by
  cases hv : v.ownBlock with
  | none => exact .inl rfl
  | some g => exact .inr (by simp))
theorem Ow.sl (h : Ow enc s e base w v xs) (hs : ∀ x, (enc x).length = s) : Sl enc s w v xs := by
  rcases h.2 with ⟨rfl, hn⟩ | ⟨g, cap, cur, rfl, hb, hh, hnc, _, hsz, htk⟩
  · have : xs = [] := List.eq_nil_of_length_eq_zero hn
    subst this
    exact Sl.nil _ _ _
  · refine ⟨_, _, rfl, hnc, fun _ => ⟨g, 0, rfl, ?_, fun i hi j hj => ?_⟩⟩
    · rcases Nat.lt_or_ge g w.heap.size with hlt | hge
      · exact hlt
      · rw [Array.getElem?_eq_none hge] at hh; cases hh
    · have hij : i * s + j < xs.length * s := by
        have : (i + 1) * s ≤ xs.length * s := Nat.mul_le_mul_right s hi
        rw [Nat.add_mul] at this
        omega
      rw [cell_of_row w g _ cur e (0, 0) hh, ← flat_at enc s hs xs i hi j hj, ← htk, List.getElem?_take, if_pos hij, Array.getElem?_toList]
      simp
theorem Ow.more {ys : List α} (h : w.ownsRow base e s v (xs.length + ys.length) (xs.flatMap enc ++ ys.flatMap enc)) : Ow enc s e base w v (xs ++ ys) := by
  unfold Ow; simpa using h
theorem Ow.grown {w0 : World} (h : Ow enc s e base w v xs) (hg : w.grownBy w' v.ownBlock) (hb : Below w0.heap.size w0 w) (hbase : w0.heap.size ≤ base) : Below w0.heap.size w0 w' :=
  hb.grown hg hb.size (fun k hk => by have := (World.ownsRow.lt h k hk).1; omega)
theorem Ow.lit (w : World) (cs : Array Value) (xs : List α) (hb : base ≤ w.heap.size) (hm : xs.length ≤ 1000000) (hs : cs.size = xs.length * s) (hc : cs.toList = xs.flatMap enc) :
    Ow enc s e base (w.alloc (.cells cs e)) (.slice (some ⟨w.heap.size, 0, none⟩) xs.length xs.length) xs := by
  have h := World.ownsRow_lit (e := e) w cs xs.length hb (by simp only [maxLen]; omega) hs
  unfold Ow
  rw [← hc]
  exact h
end
/-! ### append onto a row of the call's own, of a slice that reads as a list -/
section
variable {P : Program} {α : Type} {enc : α → List Value}
end
end Go.Proofs.YthffbfkcmbgghaaGreat

namespace Go.Proofs.YthffbfkcmbgghaaGreat
open Go.RowKit Go.Shelf
theorem wide_fn (k : FuncId) : (Fence.wide.fn k) = True := eq_true trivial
theorem wide_depth : Fence.wide.depth = none := rfl
theorem round_fn (l k : Nat) : ((Fence.wide.inRound l).fn k) = True := eq_true trivial
theorem round_depth (l : Nat) : (Fence.wide.inRound l).depth = none := rfl
structure Kpt (S : Nat → Prop) (W W' : World) : Prop where
  size : W.heap.size ≤ W'.heap.size
  block : ∀ k, S k → k < W.heap.size → W'.heap[k]? = W.heap[k]?
theorem Kpt.trans {S : Nat → Prop} {X Y Z : World} (h : Kpt S X Y) (k : Kpt S Y Z) : Kpt S X Z :=
  ⟨Nat.le_trans h.size k.size, fun i hi hx => (k.block i hi (Nat.lt_of_lt_of_le hx h.size)).trans (h.block i hi hx)⟩
theorem Kpt.cell {S : Nat → Prop} {W W' : World} (h : Kpt S W W') {p : Addr} (hp : S p.block) (hl : p.block < W.heap.size) : W'.cell? p = W.cell? p := World.cell?_of_block (h.block _ hp hl)
theorem Kpt.frozen {S : Nat → Prop} {W W' : World} (h : Kpt S W W') {p : Addr} (hp : S p.block) (hl : p.block < W.heap.size) : W'.frozen? p = W.frozen? p := World.frozen?_of_block (h.block _ hp hl)
structure Kep (N : Nat) (S : Nat → Prop) (W W' : World) : Prop where
  kpt : Kpt S W W'
  same : ∀ (k : Nat) (o : Obj), N ≤ k → W.heap[k]? = some o → o.isCells = false → W'.heap[k]? = some o
theorem Kep.refl (N : Nat) (S : Nat → Prop) (W : World) : Kep N S W W := ⟨⟨Nat.le_refl _, fun _ _ _ => rfl⟩, fun _ _ _ h _ => h⟩
theorem Kep.trans {N : Nat} {S : Nat → Prop} {X Y Z : World} (h : Kep N S X Y) (k : Kep N S Y Z) : Kep N S X Z := ⟨h.kpt.trans k.kpt, fun i o hi h1 h2 => k.same i o hi (h.same i o hi h1 h2) h2⟩
theorem heap_lt {W : World} {k : Nat} {o : Obj} (h : W.heap[k]? = some o) : k < W.heap.size := (Array.getElem?_eq_some_iff.1 h).1
theorem Kep.alloc {N : Nat} {S : Nat → Prop} {X Y : World} (h : Kep N S X Y) (o : Obj) : Kep N S X (Y.alloc o) :=
  ⟨⟨Nat.le_trans h.kpt.size (by simp), fun i hi hx => (Below.heap_alloc Y o i (Nat.lt_of_lt_of_le hx h.kpt.size)).trans (h.kpt.block i hi hx)⟩,
   fun i o' hi h1 h2 => by have := h.same i o' hi h1 h2; exact (Below.heap_alloc Y o i (heap_lt this)).trans this⟩
theorem Kep.drew {N : Nat} {S : Nat → Prop} {X Y : World} (h : Kep N S X Y) : Kep N S X Y.drew := ⟨⟨h.kpt.size, h.kpt.block⟩, h.same⟩
theorem Kep.call {N : Nat} {S : Nat → Prop} {X Y Z : World} (h : Kep N S X Y) (k : Below Y.heap.size Y Z) : Kep N S X Z :=
  ⟨⟨Nat.le_trans h.kpt.size k.size, fun i hi hx => (k.block i (Nat.lt_of_lt_of_le hx h.kpt.size)).trans (h.kpt.block i hi hx)⟩,
   fun i o hi h1 h2 => by have := h.same i o hi h1 h2; exact (k.block i (heap_lt this)).trans this⟩
theorem Kep.setCell {N : Nat} {S : Nat → Prop} {X Y : World} (h : Kep N S X Y) {p : Addr} (hp : ¬ S p.block) (u : Value) : Kep N S X (Y.setCell p u) :=
  ⟨⟨by simpa [World.setCell] using h.kpt.size, fun i hi hx => (Below.heap_setCell Y p u i (by rintro rfl; exact hp hi)).trans (h.kpt.block i hi hx)⟩,
   fun i o hi h1 h2 => (KeepsOthers.setCell Y p u).same i o (h.same i o hi h1 h2) h2⟩
theorem Kep.grown {N : Nat} {S : Nat → Prop} {X Y Z : World} (h : Kep N S X Y) {row : Option Nat} (hg : Y.grownBy Z row) (hr : ∀ k, row = some k → ¬ S k ∧ ∀ o : Obj, Y.heap[k]? = some o → o.isCells = true) : Kep N S X Z :=
  ⟨⟨Nat.le_trans h.kpt.size hg.size, fun i hi hx => (hg.block i (Nat.lt_of_lt_of_le hx h.kpt.size) (fun e => (hr i e.symm).1 hi)).trans (h.kpt.block i hi hx)⟩,
   fun i o hi h1 h2 => (KeepsOthers.of_grownBy hg (fun j o' e ho => (hr j e).2 o' ho)).same i o (h.same i o hi h1 h2) h2⟩
def Turn (N : Nat) (W W' : World) : Prop := ∃ l o o', N ≤ l ∧ W.heap[l]? = some o ∧ o.isCells = false ∧ o'.isCells = false ∧ W' = W.putObj l o'
theorem Turn.kept {N : Nat} {W W' : World} (h : Turn N W W') : ∃ l, N ≤ l ∧ W.grownBy W' (some l) ∧ ∃ o : Obj, W.heap[l]? = some o ∧ o.isCells = false := by
  obtain ⟨l, o, o', h1, h2, h3, _, rfl⟩ := h
  exact ⟨l, h1, grownBy_putObj' W l o', o, h2, h3⟩
theorem Turn.own {β : Type} {N : Nat} {W W' : World} (h : Turn N W W') {I : β → World → Prop} (hI : OwnFrom N I) {s : β} (hs : I s W) : I s W' := by
  obtain ⟨l, h1, hg, o, h2, h3⟩ := h.kept
  exact hI s W W' (some l) hs hg (fun r e => by cases e; exact ⟨h1, o, h2, h3⟩)
theorem Turn.size {N : Nat} {W W' : World} (h : Turn N W W') : W'.heap.size = W.heap.size := by
  obtain ⟨l, o, o', h1, h2, h3, _, rfl⟩ := h
  simp [World.putObj]
theorem Turn.other {N : Nat} {W W' : World} (h : Turn N W W') {k : Nat} {c : Array Value} {t : TypeId} {f : Nat × Nat} (hk : W.heap[k]? = some (.cells c t f)) : W'.heap[k]? = some (.cells c t f) := by
  obtain ⟨l, o, o', h1, h2, h3, _, rfl⟩ := h
  have hne : k ≠ l := by rintro rfl; rw [hk] at h2; cases h2; exact absurd h3 (by simp [Obj.isCells])
  exact (World.putObj_heap_other hne).trans hk
theorem Turn.cell {N : Nat} {W W' : World} (h : Turn N W W') (p : Addr) : W'.cell? p = W.cell? p := by
  obtain ⟨l, o, o', h1, h2, h3, h4, rfl⟩ := h
  by_cases e : p.block = l
  · have hw : (W.putObj l o').heap[p.block]? = some o' := by rw [e]; exact World.putObj_heap_same (heap_lt h2)
    rw [← e] at h2
    unfold World.cell?
    rw [hw, h2]
    cases o <;> cases o' <;> first | rfl | (simp [Obj.isCells] at h3; done) | (simp [Obj.isCells] at h4; done)
  · exact World.cell?_of_block (World.putObj_heap_other e)
theorem Turn.frozen {N : Nat} {W W' : World} (h : Turn N W W') (p : Addr) : W'.frozen? p = W.frozen? p := by
  obtain ⟨l, o, o', h1, h2, h3, h4, rfl⟩ := h
  by_cases e : p.block = l
  · have hw : (W.putObj l o').heap[p.block]? = some o' := by rw [e]; exact World.putObj_heap_same (heap_lt h2)
    rw [← e] at h2
    unfold World.frozen?
    rw [hw, h2]
    cases o <;> cases o' <;> first | rfl | (simp [Obj.isCells] at h3; done) | (simp [Obj.isCells] at h4; done)
  · exact World.frozen?_of_block (World.putObj_heap_other e)
theorem Turn.below {N B : Nat} {W W' : World} (h : Turn N W W') (hB : B ≤ N) : Below B W W' := by
  obtain ⟨l, h1, hg, o, h2, h3⟩ := h.kept
  have := heap_lt h2
  exact (Below.refl B W).grown hg (by omega) (fun k e => by cases e; omega)
theorem Turn.kpt {N : Nat} {S : Nat → Prop} {W W' : World} (h : Turn N W W') (hS : ∀ k, S k → k < N) : Kpt S W W' :=
  ⟨Nat.le_of_eq h.size.symm, fun k hk hx => by
    obtain ⟨l, h1, hg, o, h2, h3⟩ := h.kept
    exact hg.block k hx (fun e => by cases e; have := hS _ hk; omega)⟩
theorem Turn.mono {N N' : Nat} {W W' : World} (h : Turn N W W') (hN : N' ≤ N) : Turn N' W W' := by
  obtain ⟨l, o, o', h1, r⟩ := h
  exact ⟨l, o, o', Nat.le_trans hN h1, r⟩
def At (W : World) (p : Addr) (v : Value) : Prop := W.cell? p = some v ∧ W.frozen? p = false
theorem At.lt {W : World} {p : Addr} {v : Value} (h : At W p v) : p.block < W.heap.size := cell_lt h.1
theorem At.below {W W' : World} {p : Addr} {v : Value} (h : At W p v) (hb : Below W.heap.size W W') : At W' p v := ⟨(hb.cell h.lt).trans h.1, (hb.frozen h.lt).trans h.2⟩
theorem At.turn {N : Nat} {W W' : World} {p : Addr} {v : Value} (h : At W p v) (hb : Turn N W W') : At W' p v := ⟨(hb.cell p).trans h.1, (hb.frozen p).trans h.2⟩
theorem At.drew {W : World} {p : Addr} {v : Value} (h : At W p v) : At W.drew p v := h
theorem At.other {W : World} {p q : Addr} {v u : Value} (h : At W p v) (hne : p ≠ q) : At (W.setCell q u) p v := ⟨(World.cell?_setCell_other W q p u (Ne.symm hne)).trans h.1, by rw [World.frozen?_setCell]; exact h.2⟩
theorem At.set {W : World} {p : Addr} {v u : Value} (h : At W p v) : At (W.setCell p u) p u := ⟨World.cell?_setCell_same' _ _ _ (by rw [h.1]; rfl), by rw [World.frozen?_setCell]; exact h.2⟩
theorem At.new (W : World) (cs : Array Value) (t : TypeId) (j : Nat) (v : Value) (h : cs[j]? = some v) : At (W.alloc (.cells cs t)) ⟨W.heap.size, j, none⟩ v := by
  have hb : (W.alloc (.cells cs t)).heap[W.heap.size]? = some (.cells cs t (0, 0)) := heap_alloc_new W _
  exact ⟨by rw [cell_of_row _ _ _ _ _ _ hb]; exact h, frozen_of_row _ _ _ _ _ hb⟩
theorem At.al {W : World} {p : Addr} {v : Value} (h : At W p v) (o : Obj) : At (W.alloc o) p v := h.below (below_alloc1 _ _)
theorem At.put {W : World} {p : Addr} {v : Value} {D : Nat} {o o' : Obj} (h : At W p v) (hD : W.heap[D]? = some o) (ho : o.isCells = false) (ho' : o'.isCells = false) : At (W.putObj D o') p v :=
  h.turn (N := D) ⟨D, o, o', Nat.le_refl _, hD, ho, ho', rfl⟩
theorem Sl.blk {α : Type} {enc : α → List Value} {s : Nat} {w : World} {v : Value} {xs : List α} (h : Sl enc s w v xs) (hx : 0 < xs.length) : ∀ b, v.ownBlock = some b → b < w.heap.size := by
  obtain ⟨A, c, rfl, h2, h3⟩ := h
  obtain ⟨b, off, rfl, hb, _⟩ := h3 (List.length_pos_iff.1 hx)
  intro b' e
  simp only [Value.ownBlock, Option.some.injEq] at e
  omega
theorem Sl.kpt {α : Type} {enc : α → List Value} {s : Nat} {w w' : World} {v : Value} {xs : List α} {S : Nat → Prop} (h : Sl enc s w v xs) (hk : Kpt S w w') (hv : ∀ b, v.ownBlock = some b → S b) : Sl enc s w' v xs := by
  obtain ⟨A, c, rfl, h2, h3⟩ := h
  refine ⟨A, c, rfl, h2, fun hx => ?_⟩
  obtain ⟨b, off, hA, hb, hc⟩ := h3 hx
  subst hA
  exact ⟨b, off, rfl, Nat.lt_of_lt_of_le hb hk.size, fun i hi j hj => (hk.cell (p := ⟨b, off + i * s + j, none⟩) (hv b rfl) hb).trans (hc i hi j hj)⟩
theorem Sl.turn {α : Type} {enc : α → List Value} {s : Nat} {w w' : World} {v : Value} {xs : List α} {N : Nat} (h : Sl enc s w v xs) (hk : Turn N w w') : Sl enc s w' v xs :=
  h.keep (Nat.le_of_eq hk.size.symm) (fun p _ => hk.cell p)
variable {P : Program}
end Go.Proofs.YthffbfkcmbgghaaGreat

namespace Go.Proofs.YthffbfkcmbgghaaGreat
open Go.RowKit Go.Shelf
def Hold {α : Type} (enc : α → List Value) (s : Nat) (e : TypeId) (base : Nat) (W : World) (p : Addr) (xs : List α) : Prop := ∃ v, At W p v ∧ Ow enc s e base W v xs
section
variable {α : Type} {enc : α → List Value} {s : Nat} {e : TypeId} {base : Nat} {W W' : World} {p : Addr} {xs : List α}
theorem Hold.below (h : Hold enc s e base W p xs) (hb : Below W.heap.size W W') : Hold enc s e base W' p xs := by
  obtain ⟨v, h1, h2⟩ := h
  exact ⟨v, h1.below hb, h2.below hb⟩
theorem Hold.al (h : Hold enc s e base W p xs) (o : Obj) : Hold enc s e base (W.alloc o) p xs := h.below (below_alloc1 _ _)
theorem Ow.turn {v : Value} {N : Nat} (h : Ow enc s e base W v xs) (ht : Turn N W W') : Ow enc s e base W' v xs := by
  obtain ⟨l, _, hg, o, h2, h3⟩ := ht.kept
  refine World.ownsRow.kept h hg ?_
  cases hv : v.ownBlock with
  | none => exact .inl rfl
  | some g =>
    refine .inr fun e' => ?_
    cases e'
    rcases h.2 with ⟨h4, _⟩ | ⟨g', cap, cur, h4, _, hh, _⟩
    · rw [h4] at hv; simp [Value.ownBlock] at hv
    · rw [h4] at hv
      simp only [Value.ownBlock, Option.some.injEq] at hv
      rw [hv, h2] at hh
      cases hh
      simp [Obj.isCells] at h3
theorem Hold.turn {N : Nat} (h : Hold enc s e base W p xs) (ht : Turn N W W') : Hold enc s e base W' p xs := by
  obtain ⟨v, h1, h2⟩ := h
  exact ⟨v, h1.turn ht, h2.turn ht⟩
theorem Ow.setFar {v : Value} (h : Ow enc s e base W v xs) (hp : p.block < base) (u : Value) : Ow enc s e base (W.setCell p u) v xs := ownsRow_setCell_below h hp u
theorem Hold.put {v1 : Value} {W1 : World} {ys : List α} (hat : At W1 p (.slice none 0 0) ∨ ∃ u, At W1 p u) (ho : Ow enc s e base W1 v1 ys) (hp : p.block < base) : Hold enc s e base (W1.setCell p v1) p ys := by
  obtain ⟨u, hu⟩ : ∃ u, At W1 p u := by
    rcases hat with h | h
    · exact ⟨_, h⟩
    · exact h
  exact ⟨v1, hu.set, ho.setFar hp _⟩
end
end Go.Proofs.YthffbfkcmbgghaaGreat

namespace Go.Proofs.YthffbfkcmbgghaaGreat
open Go.RowKit Go.Shelf
def Foot (F : Nat → Prop) (W : World) : Prop := ∀ k, F k → ∃ o : Obj, W.heap[k]? = some o ∧ o.isCells = true
structure Out (F : Nat → Prop) (W W' : World) : Prop where
  size : W.heap.size ≤ W'.heap.size
  block : ∀ k, k < W.heap.size → ¬ F k → W'.heap[k]? = W.heap[k]?
def OwnF {β : Type} (B : Nat) (J : (Nat → Prop) → β → World → Prop) : Prop := ∀ F s W W', J F s W → Below B W W' → (∀ k, F k → W'.heap[k]? = W.heap[k]?) → J F s W'
section
variable {F F' : Nat → Prop} {W W' X Y Z : World}
theorem Out.refl (F : Nat → Prop) (W : World) : Out F W W := ⟨Nat.le_refl _, fun _ _ _ => rfl⟩
theorem Out.trans (h : Out F X Y) (k : Out F Y Z) : Out F X Z := ⟨Nat.le_trans h.size k.size, fun i h1 h2 => (k.block i (Nat.lt_of_lt_of_le h1 h.size) h2).trans (h.block i h1 h2)⟩
theorem Out.call (h : Out F X Y) (k : Below Y.heap.size Y Z) : Out F X Z := h.trans ⟨k.size, fun i h1 _ => k.block i h1⟩
theorem Out.alloc (h : Out F X Y) (o : Obj) : Out F X (Y.alloc o) := h.call (below_alloc1 _ _)
theorem Out.drew (h : Out F X Y) : Out F X Y.drew := ⟨h.size, h.block⟩
theorem Out.setCell (h : Out F X Y) {p : Addr} (hp : F p.block ∨ X.heap.size ≤ p.block) (u : Value) : Out F X (Y.setCell p u) := by
  have hs : ∀ k, k ≠ p.block → (Y.setCell p u).heap[k]? = Y.heap[k]? := fun k hk => Below.heap_setCell Y p u k hk
  refine ⟨by rw [World.size_setCell]; exact h.size, fun i h1 h2 => (hs i ?_).trans (h.block i h1 h2)⟩
  rintro rfl
  rcases hp with hp | hp
  · exact h2 hp
  · omega
theorem Out.grown (h : Out F X Y) {row : Option Nat} (hg : Y.grownBy Z row) (hr : ∀ k, row = some k → F k ∨ X.heap.size ≤ k) : Out F X Z :=
  ⟨Nat.le_trans h.size hg.size, fun i h1 h2 => (hg.block i (Nat.lt_of_lt_of_le h1 h.size) (fun e => by rcases hr i e.symm with h3 | h3 <;> first | exact h2 h3 | omega)).trans (h.block i h1 h2)⟩
theorem Foot.lt (h : Foot F W) {k : Nat} (hk : F k) : k < W.heap.size := by obtain ⟨o, h1, _⟩ := h k hk; exact heap_lt h1
theorem Foot.same (h : Foot F W) (hs : ∀ k, F k → W'.heap[k]? = W.heap[k]?) : Foot F W' := fun k hk => by rw [hs k hk]; exact h k hk
theorem Foot.below (h : Foot F W) (hb : Below W.heap.size W W') : Foot F W' := h.same fun k hk => hb.block k (h.lt hk)
theorem Foot.turn {N : Nat} (h : Foot F W) (ht : Turn N W W') : Foot F W' := by
  obtain ⟨l, _, hg, o, h2, h3⟩ := ht.kept
  refine h.same fun k hk => hg.block k (h.lt hk) ?_
  intro e
  injection e with e
  obtain ⟨o', h4, h5⟩ := h k hk
  rw [e, h2] at h4
  cases h4
  rw [h3] at h5
  cases h5
theorem Foot.no (h : Foot F W) {k : Nat} {o : Obj} (hk : W.heap[k]? = some o) (ho : o.isCells = false) : ¬ F k := by
  intro hF
  obtain ⟨o', h4, h5⟩ := h k hF
  rw [hk] at h4
  cases h4
  rw [ho] at h5
  cases h5
theorem OwnF.turn {β : Type} {B N : Nat} {J : (Nat → Prop) → β → World → Prop} (hJ : OwnF B J) {s : β} (h : J F s W) (hf : Foot F W) (ht : Turn N W W') (hB : B ≤ N) : J F s W' :=
  hJ F s W W' h (ht.below hB) fun k hk => by
    obtain ⟨l, _, hg, o, h2, h3⟩ := ht.kept
    exact hg.block k (hf.lt hk) (fun e => by injection e with e; exact hf.no h2 h3 (e ▸ hk))
theorem OwnF.call {β : Type} {B : Nat} {J : (Nat → Prop) → β → World → Prop} (hJ : OwnF B J) {s : β} (h : J F s W) (hf : Foot F W) (hb : Below W.heap.size W W') (hB : B ≤ W.heap.size) : J F s W' :=
  hJ F s W W' h (hb.mono hB) fun k hk => hb.block k (hf.lt hk)
end
theorem OwnF.mono {β : Type} {B B' : Nat} {J : (Nat → Prop) → β → World → Prop} (hJ : OwnF B J) (h : B ≤ B') : OwnF B' J := fun F s W W' h1 h2 h3 => hJ F s W W' h1 (h2.mono h) h3
variable {P : Program}
theorem At.same {W W' : World} {p : Addr} {v : Value} (h : At W p v) (hs : W'.heap[p.block]? = W.heap[p.block]?) : At W' p v := ⟨(World.cell?_of_block hs).trans h.1, (World.frozen?_of_block hs).trans h.2⟩
theorem Ow.same {α : Type} {enc : α → List Value} {s : Nat} {e : TypeId} {base : Nat} {W W' : World} {v : Value} {xs : List α} (h : Ow enc s e base W v xs) (hs : ∀ k, v.ownBlock = some k → W'.heap[k]? = W.heap[k]?) : Ow enc s e base W' v xs := by
  obtain ⟨h1, h2⟩ := h
  refine ⟨h1, ?_⟩
  rcases h2 with h2 | ⟨g, cap, cur, hv, hb, hh, hr⟩
  · exact .inl h2
  · exact .inr ⟨g, cap, cur, hv, hb, (hs g (by rw [hv]; rfl)).trans hh, hr⟩
theorem OwnF.and {β : Type} {B : Nat} {I J : (Nat → Prop) → β → World → Prop} (h : OwnF B I) (k : OwnF B J) : OwnF B (fun F s W => I F s W ∧ J F s W) :=
  fun F s W W' hs hb hf => ⟨h F s W W' hs.1 hb hf, k F s W W' hs.2 hb hf⟩
end Go.Proofs.YthffbfkcmbgghaaGreat

namespace Go.Proofs.YthffbfkcmbgghaaGreat
open Go.RowKit Go.Shelf
structure Open (F : Fence) : Prop where
  fn : ∀ f, F.fn f
  depth : F.depth = none
  calls : ∀ {P : Program} {f : FuncId} {args : Array Value} {w : World} {R : Ending → World → Prop}, Calls P f args w R → CallsIn F 0 P f args w R
section
variable {F : Fence} {P : Program} {ops : Array Oper} {md : Region.Mode} {w : World}
def orders (md : Region.Mode) (ops : Array Oper) : Nat → Array Bool → List (List Nat)
  | 0, _ => [[]]
  | f + 1, listed => if Region.ready md ops listed = [] then [[]] else (Region.ready md ops listed).flatMap fun i => (orders md ops f (listed.setIfInBounds i true)).map (i :: ·)
end
end Go.Proofs.YthffbfkcmbgghaaGreat

namespace Go.Proofs.YthffbfkcmbgghaaGreat
open Go.RowKit Go.Shelf
def monoUpon (P : Program) (R : Value → World → Prop) : Result Next → Prop
  | .ok (.value v) w' => R v w'
  | .ok .skip w' => R undef w'
  | .ok (.enter f args) w' => Calls P f args w' fun e w'' => ∃ v, e = .returned v ∧ R v w''
  | _ => False
structure mono (P : Program) (o : Oper) (a : Act) (w : World) (R : Value → World → Prop) : Prop where
  out : monoUpon P R ((execOp a.eval o).run P w)
section
variable {P : Program} {R : Value → World → Prop} {w : World}
theorem monoUpon_value (v : Value) : monoUpon P R (.ok (.value v) w) = R v w := rfl
theorem monoUpon_skip : monoUpon P R (.ok .skip w) = R undef w := rfl
theorem monoUpon_enter (f : FuncId) (args : Array Value) : monoUpon P R (.ok (.enter f args) w) = Calls P f args w fun e w'' => ∃ v, e = .returned v ∧ R v w'' := rfl
end
/-! ### Slots -/
def setX (ts : Array Value) (dst : List Nat) (x : Nat → Value) : Array Value := dst.foldl (fun ts d => ts.setIfInBounds d (x d)) ts
def putX (a : Act) (dst : List Nat) (x : Nat → Value) : Act := { a with tmps := setX a.tmps dst x }
def upd (x : Nat → Value) (d : Nat) (v : Value) : Nat → Value := fun t => if t = d then v else x t
/-! ### What each operation yields -/
abbrev VP := Value → World → Prop
def sAt : List VP → Nat → VP
  | [], _ => fun _ _ => True
  | p :: _, 0 => p
  | _ :: r, k + 1 => sAt r k
def dAt : List Nat → Nat → Nat
  | [], _ => 0
  | d :: _, 0 => d
  | _ :: r, k + 1 => dAt r k
def Stab (p : VP) : Prop := ∀ v w w', p v w → Below w.heap.size w w' → p v w'
def stabAll : List VP → Prop
  | [] => True
  | p :: r => Stab p ∧ stabAll r
def needs (sp : List VP) (dst : List Nat) (x : Nat → Value) (w : World) : List Nat → Prop
  | [] => True
  | j :: r => sAt sp j (x (dAt dst j)) w ∧ needs sp dst x w r
/-! ### The law -/
def distinctB : List Nat → Bool
  | [] => true
  | d :: r => !r.contains d && distinctB r
def left (listed : Array Bool) : Nat → Nat
  | 0 => 0
  | n + 1 => left listed n + if listed.getD n true = false then 1 else 0
theorem left_far (listed : Array Bool) (i : Nat) : ∀ n, n ≤ i → left (listed.setIfInBounds i true) n = left listed n
  | 0, _ => rfl
  | n + 1, h => by
    rw [left, left, left_far listed i n (by omega), getD_set_ne true (by omega)]
theorem left_set (listed : Array Bool) (i : Nat) (hi : listed.getD i true = false) : ∀ n, i < n → left (listed.setIfInBounds i true) n + 1 = left listed n
  | 0, h => by omega
  | n + 1, h => by
    rw [left, left]
    by_cases e : i = n
    · subst e
      rw [left_far listed i i (Nat.le_refl _), if_pos hi]
      have hb : i < listed.size := by
        rcases Nat.lt_or_ge i listed.size with h' | h'
        · exact h'
        · simp [Array.getElem?_eq_none h'] at hi
      have : (listed.setIfInBounds i true).getD i true = true := by simp [hb]
      rw [this]; simp
    · rw [getD_set_ne true e]
      have := left_set listed i hi n (by omega)
      omega
theorem left_zero (listed : Array Bool) : ∀ n, left listed n = 0 → ∀ i, i < n → listed.getD i true = true
  | 0, _, i, h => by omega
  | n + 1, h, i, hi => by
    rw [left] at h
    by_cases e : i = n
    · subst e
      cases hc : listed.getD i true with
      | true => rfl
      | false => rw [if_pos hc] at h; omega
    · exact left_zero listed n (by omega) i (by omega)
theorem left_least (listed : Array Bool) : ∀ n, left listed n ≠ 0 → ∃ i, i < n ∧ listed.getD i true = false ∧ ∀ j, j < i → listed.getD j true = true
  | 0, h => absurd rfl h
  | n + 1, h => by
    by_cases e : left listed n = 0
    · rw [left, e] at h
      refine ⟨n, by omega, ?_, left_zero listed n e⟩
      cases hc : listed.getD n true with
      | true => rw [hc] at h; simp at h
      | false => rfl
    · obtain ⟨i, h1, h2, h3⟩ := left_least listed n e
      exact ⟨i, by omega, h2, h3⟩
theorem left_all (m : Nat) : ∀ n, n ≤ m → left (Array.replicate m false) n = n
  | 0, _ => rfl
  | n + 1, h => by
    rw [left, left_all m n (by omega), if_pos]
    simp [show n < m by omega]
section
variable {P : Program} {ops : Array Oper} {Q : Exit → Act → World → Prop} {a : Act} {w0 : World}
structure Heads (P : Program) (ops : Array Oper) (a : Act) (w0 : World) (n : Nat) (sp : List VP) (dst : List Nat) : Prop where
  lt : n < ops.size
  sink : Region.sinkB .any ops n = true
  chain : Region.chainB .any ops n = true
  len : dst.length = n
  distinct : distinctB dst = true
  stab : stabAll sp
  step : ∀ k, k < n → ∃ o, ops[k]? = some o ∧ o.guard = none ∧ o.dst = some (dAt dst k) ∧ (∀ e ∈ o.after, Region.binds .any e = true → e.on < k) ∧ (∀ c : Call, o.op ≠ .defer c) ∧
    ∀ x w, Below w0.heap.size w0 w → (∀ j, j < n → (∃ e ∈ o.after, Region.binds .any e = true ∧ e.on = j) → sAt sp j (x (dAt dst j)) w) → mono P o (putX a dst x) w fun v w' => sAt sp k v w' ∧ Below w.heap.size w w'
end
end Go.Proofs.YthffbfkcmbgghaaGreat
