/-
  A law of this seat's own for 'for .. := range g { .. }': the iterator's contract lets the caller's invariant abide the turn of any block that is no cells and is new, so that iterators over iterators have contracts, too.
-/
import Derived.Test.YtefkmidmjofdcaaGreatZKb
import Derived.RangeFuncNested
import Derived.RangeFuncBound
import Derived.RangeFuncCalls
import Derived.RangeFuncLeaves
import Derived.Shelf.Abstract
import Derived.Shelf.RegionOpen
import Derived.OwnWalkIn
import Derived.TacticsInMore
import Derived.LoopNIn
import Derived.LoopIn
set_option linter.all false
namespace Go.Proofs.YtefkmidmjofdcaaGreat
open Go.RowKit Go.Shelf

theorem wide_fn (k : FuncId) : (Fence.wide.fn k) = True := eq_true trivial
theorem wide_depth : Fence.wide.depth = none := rfl
theorem round_fn (l k : Nat) : ((Fence.wide.inRound l).fn k) = True := eq_true trivial
theorem round_depth (l : Nat) : (Fence.wide.inRound l).depth = none := rfl
/-- A contract, at the wide fence, and in a round. -/
theorem atWide {P : Program} {f : FuncId} {args : Array Value} {w : World} {R : Ending → World → Prop} (h : Calls P f args w R) : CallsIn Fence.wide 0 P f args w R := callsIn_wide.2 h
theorem inRnd {P : Program} {f : FuncId} {args : Array Value} {w : World} {R : Ending → World → Prop} (l : Nat) (h : Calls P f args w R) : CallsIn (Fence.wide.inRound l) 0 P f args w R := CallsIn.inRound l (callsIn_wide.2 h)
/-- The blocks of the set S lie as they lay. -/
structure Kpt (S : Nat → Prop) (W W' : World) : Prop where
  size : W.heap.size ≤ W'.heap.size
  block : ∀ k, S k → k < W.heap.size → W'.heap[k]? = W.heap[k]?
theorem Kpt.trans {S : Nat → Prop} {X Y Z : World} (h : Kpt S X Y) (k : Kpt S Y Z) : Kpt S X Z :=
  ⟨Nat.le_trans h.size k.size, fun i hi hx => (k.block i hi (Nat.lt_of_lt_of_le hx h.size)).trans (h.block i hi hx)⟩
theorem Kpt.cell {S : Nat → Prop} {W W' : World} (h : Kpt S W W') {p : Addr} (hp : S p.block) (hl : p.block < W.heap.size) : W'.cell? p = W.cell? p := World.cell?_of_block (h.block _ hp hl)
theorem Kpt.frozen {S : Nat → Prop} {W W' : World} (h : Kpt S W W') {p : Addr} (hp : S p.block) (hl : p.block < W.heap.size) : W'.frozen? p = W.frozen? p := World.frozen?_of_block (h.block _ hp hl)
/-- What a round of a loop that began at heap size N keeps: the blocks of S, and every block from N on that is no cells. -/
structure Kep (N : Nat) (S : Nat → Prop) (W W' : World) : Prop where
  kpt : Kpt S W W'
  same : ∀ (k : Nat) (o : Obj), N ≤ k → W.heap[k]? = some o → o.isCells = false → W'.heap[k]? = some o
theorem Kep.refl (N : Nat) (S : Nat → Prop) (W : World) : Kep N S W W := ⟨⟨Nat.le_refl _, fun _ _ _ => rfl⟩, fun _ _ _ h _ => h⟩
theorem Kep.trans {N : Nat} {S : Nat → Prop} {X Y Z : World} (h : Kep N S X Y) (k : Kep N S Y Z) : Kep N S X Z := ⟨h.kpt.trans k.kpt, fun i o hi h1 h2 => k.same i o hi (h.same i o hi h1 h2) h2⟩
theorem heap_lt {W : World} {k : Nat} {o : Obj} (h : W.heap[k]? = some o) : k < W.heap.size := (Array.getElem?_eq_some_iff.1 h).1
theorem Kep.alloc {N : Nat} {S : Nat → Prop} {X Y : World} (h : Kep N S X Y) (o : Obj) : Kep N S X (Y.alloc o) :=
  ⟨⟨Nat.le_trans h.kpt.size (by simp), fun i hi hx => (Below.heap_alloc Y o i (Nat.lt_of_lt_of_le hx h.kpt.size)).trans (h.kpt.block i hi hx)⟩,
   fun i o' hi h1 h2 => by have := h.same i o' hi h1 h2; exact (Below.heap_alloc Y o i (heap_lt this)).trans this⟩
theorem Kep.drew {N : Nat} {S : Nat → Prop} {X Y : World} (h : Kep N S X Y) : Kep N S X Y.drew := ⟨⟨h.kpt.size, h.kpt.block⟩, h.same⟩
theorem Kep.drewN {N : Nat} {S : Nat → Prop} {X Y : World} (h : Kep N S X Y) (n : Nat) : Kep N S X (Y.drewN n) := ⟨⟨h.kpt.size, h.kpt.block⟩, h.same⟩
theorem Kep.call {N : Nat} {S : Nat → Prop} {X Y Z : World} (h : Kep N S X Y) (k : Below Y.heap.size Y Z) : Kep N S X Z :=
  ⟨⟨Nat.le_trans h.kpt.size k.size, fun i hi hx => (k.block i (Nat.lt_of_lt_of_le hx h.kpt.size)).trans (h.kpt.block i hi hx)⟩,
   fun i o hi h1 h2 => by have := h.same i o hi h1 h2; exact (k.block i (heap_lt this)).trans this⟩
theorem Kep.setCell {N : Nat} {S : Nat → Prop} {X Y : World} (h : Kep N S X Y) {p : Addr} (hp : ¬ S p.block) (u : Value) : Kep N S X (Y.setCell p u) :=
  ⟨⟨by simpa [World.setCell] using h.kpt.size, fun i hi hx => (Below.heap_setCell Y p u i (by rintro rfl; exact hp hi)).trans (h.kpt.block i hi hx)⟩,
   fun i o hi h1 h2 => (KeepsOthers.setCell Y p u).same i o (h.same i o hi h1 h2) h2⟩
theorem Kep.grown {N : Nat} {S : Nat → Prop} {X Y Z : World} (h : Kep N S X Y) {row : Option Nat} (hg : Y.grownBy Z row) (hr : ∀ k, row = some k → ¬ S k ∧ ∀ o : Obj, Y.heap[k]? = some o → o.isCells = true) : Kep N S X Z :=
  ⟨⟨Nat.le_trans h.kpt.size hg.size, fun i hi hx => (hg.block i (Nat.lt_of_lt_of_le hx h.kpt.size) (fun e => (hr i e.symm).1 hi)).trans (h.kpt.block i hi hx)⟩,
   fun i o hi h1 h2 => (KeepsOthers.of_grownBy hg (fun j o' e ho => (hr j e).2 o' ho)).same i o (h.same i o hi h1 h2) h2⟩

/-- W' is W with one block turned that is no cells and lies from N on. -/
def Turn (N : Nat) (W W' : World) : Prop := ∃ l o o', N ≤ l ∧ W.heap[l]? = some o ∧ o.isCells = false ∧ o'.isCells = false ∧ W' = W.putObj l o'
theorem Turn.kept {N : Nat} {W W' : World} (h : Turn N W W') : ∃ l, N ≤ l ∧ W.grownBy W' (some l) ∧ ∃ o : Obj, W.heap[l]? = some o ∧ o.isCells = false := by
  obtain ⟨l, o, o', h1, h2, h3, _, rfl⟩ := h
  exact ⟨l, h1, grownBy_putObj' W l o', o, h2, h3⟩
theorem Turn.own {β : Type} {N : Nat} {W W' : World} (h : Turn N W W') {I : β → World → Prop} (hI : OwnFrom N I) {s : β} (hs : I s W) : I s W' := by
  obtain ⟨l, h1, hg, o, h2, h3⟩ := h.kept
  exact hI s W W' (some l) hs hg (fun r e => by cases e; exact ⟨h1, o, h2, h3⟩)
theorem Turn.size {N : Nat} {W W' : World} (h : Turn N W W') : W'.heap.size = W.heap.size := by
  obtain ⟨l, o, o', h1, h2, h3, _, rfl⟩ := h
  simp [World.putObj]
theorem Turn.other {N : Nat} {W W' : World} (h : Turn N W W') {k : Nat} {c : Array Value} {t : TypeId} {f : Nat × Nat} (hk : W.heap[k]? = some (.cells c t f)) : W'.heap[k]? = some (.cells c t f) := by
  obtain ⟨l, o, o', h1, h2, h3, _, rfl⟩ := h
  have hne : k ≠ l := by rintro rfl; rw [hk] at h2; cases h2; exact absurd h3 (by simp [Obj.isCells])
  exact (World.putObj_heap_other hne).trans hk
theorem Turn.cell {N : Nat} {W W' : World} (h : Turn N W W') (p : Addr) : W'.cell? p = W.cell? p := by
  obtain ⟨l, o, o', h1, h2, h3, h4, rfl⟩ := h
  by_cases e : p.block = l
  · have hw : (W.putObj l o').heap[p.block]? = some o' := by rw [e]; exact World.putObj_heap_same (heap_lt h2)
    rw [← e] at h2
    unfold World.cell?
    rw [hw, h2]
    cases o <;> cases o' <;> first | rfl | (simp [Obj.isCells] at h3; done) | (simp [Obj.isCells] at h4; done)
  · exact World.cell?_of_block (World.putObj_heap_other e)
theorem Turn.frozen {N : Nat} {W W' : World} (h : Turn N W W') (p : Addr) : W'.frozen? p = W.frozen? p := by
  obtain ⟨l, o, o', h1, h2, h3, h4, rfl⟩ := h
  by_cases e : p.block = l
  · have hw : (W.putObj l o').heap[p.block]? = some o' := by rw [e]; exact World.putObj_heap_same (heap_lt h2)
    rw [← e] at h2
    unfold World.frozen?
    rw [hw, h2]
    cases o <;> cases o' <;> first | rfl | (simp [Obj.isCells] at h3; done) | (simp [Obj.isCells] at h4; done)
  · exact World.frozen?_of_block (World.putObj_heap_other e)
theorem Turn.below {N B : Nat} {W W' : World} (h : Turn N W W') (hB : B ≤ N) : Below B W W' := by
  obtain ⟨l, h1, hg, o, h2, h3⟩ := h.kept
  have := heap_lt h2
  exact (Below.refl B W).grown hg (by omega) (fun k e => by cases e; omega)
theorem Turn.kpt {N : Nat} {S : Nat → Prop} {W W' : World} (h : Turn N W W') (hS : ∀ k, S k → k < N) : Kpt S W W' :=
  ⟨Nat.le_of_eq h.size.symm, fun k hk hx => by
    obtain ⟨l, h1, hg, o, h2, h3⟩ := h.kept
    exact hg.block k hx (fun e => by cases e; have := hS _ hk; omega)⟩
theorem Turn.mono {N N' : Nat} {W W' : World} (h : Turn N W W') (hN : N' ≤ N) : Turn N' W W' := by
  obtain ⟨l, o, o', h1, r⟩ := h
  exact ⟨l, o, o', Nat.le_trans hN h1, r⟩

/-- The cell at p holds v, and may be written. -/
def At (W : World) (p : Addr) (v : Value) : Prop := W.cell? p = some v ∧ W.frozen? p = false
theorem At.lt {W : World} {p : Addr} {v : Value} (h : At W p v) : p.block < W.heap.size := cell_lt h.1
theorem At.below {W W' : World} {p : Addr} {v : Value} (h : At W p v) (hb : Below W.heap.size W W') : At W' p v := ⟨(hb.cell h.lt).trans h.1, (hb.frozen h.lt).trans h.2⟩
theorem At.turn {N : Nat} {W W' : World} {p : Addr} {v : Value} (h : At W p v) (hb : Turn N W W') : At W' p v := ⟨(hb.cell p).trans h.1, (hb.frozen p).trans h.2⟩
theorem At.drew {W : World} {p : Addr} {v : Value} (h : At W p v) : At W.drew p v := h
theorem At.other {W : World} {p q : Addr} {v u : Value} (h : At W p v) (hne : p ≠ q) : At (W.setCell q u) p v := ⟨(World.cell?_setCell_other W q p u (Ne.symm hne)).trans h.1, by rw [World.frozen?_setCell]; exact h.2⟩
theorem At.set {W : World} {p : Addr} {v u : Value} (h : At W p v) : At (W.setCell p u) p u := ⟨World.cell?_setCell_same' _ _ _ (by rw [h.1]; rfl), by rw [World.frozen?_setCell]; exact h.2⟩
theorem At.new (W : World) (cs : Array Value) (t : TypeId) (j : Nat) (v : Value) (h : cs[j]? = some v) : At (W.alloc (.cells cs t)) ⟨W.heap.size, j, none⟩ v := by
  have hb : (W.alloc (.cells cs t)).heap[W.heap.size]? = some (.cells cs t (0, 0)) := heap_alloc_new W _
  exact ⟨by rw [cell_of_row _ _ _ _ _ _ hb]; exact h, frozen_of_row _ _ _ _ _ hb⟩
theorem box2 (W : World) (cs ds : Array Value) (t u : TypeId) : (∀ (j : Nat) (v : Value), cs[j]? = some v → At ((W.alloc (.cells cs t)).alloc (.cells ds u)) ⟨W.heap.size, j, none⟩ v) ∧
    (∀ (j : Nat) (v : Value), ds[j]? = some v → At ((W.alloc (.cells cs t)).alloc (.cells ds u)) ⟨W.heap.size + 1, j, none⟩ v) :=
  ⟨fun j v h => (At.new W cs t j v h).below (below_alloc1 _ _), fun j v h => by have := At.new (W.alloc (.cells cs t)) ds u j v h; rwa [World.size_alloc] at this⟩
theorem At.al {W : World} {p : Addr} {v : Value} (h : At W p v) (o : Obj) : At (W.alloc o) p v := h.below (below_alloc1 _ _)
theorem At.put {W : World} {p : Addr} {v : Value} {D : Nat} {o o' : Obj} (h : At W p v) (hD : W.heap[D]? = some o) (ho : o.isCells = false) (ho' : o'.isCells = false) : At (W.putObj D o') p v :=
  h.turn (N := D) ⟨D, o, o', Nat.le_refl _, hD, ho, ho', rfl⟩
theorem own_at {β : Type} (B : Nat) (p : Addr) (f : β → Value) : OwnFrom B (fun s W => At W p (f s)) :=
  fun s W W' row hs hg hr => by
    have hne : some p.block ≠ row := fun e => by
      obtain ⟨_, o, ho, hc⟩ := hr _ e.symm
      have := hs.1
      unfold World.cell? at this
      rw [ho] at this
      cases o <;> simp [Obj.isCells] at hc <;> simp at this
    exact ⟨hg.cell hs.1 hne, (World.frozen?_of_block (hg.block _ hs.lt hne)).trans hs.2⟩
theorem own_sl {β α : Type} (B : Nat) (enc : α → List Value) (s : Nat) (hss : ∀ x, (enc x).length = s) (v : Value) (xs : List α) : OwnFrom B (fun (_ : β) W => Sl enc s W v xs) :=
  fun _ W W' row hs hg hr => by
    obtain ⟨A, c, h1, h2, h3⟩ := hs
    refine ⟨A, c, h1, h2, fun hx => ?_⟩
    obtain ⟨b, off, hA, hb, hc⟩ := h3 hx
    refine ⟨b, off, hA, Nat.lt_of_lt_of_le hb hg.size, fun i hi j hj => ?_⟩
    have hj' : j < (enc xs[i]).length := by rw [hss]; exact hj
    have h0 : W.cell? ⟨b, off + i * s + j, none⟩ = some ((enc xs[i])[j]) := (hc i hi j hj).trans (List.getElem?_eq_getElem hj')
    refine (hg.cell h0 (fun hne => ?_)).trans (List.getElem?_eq_getElem hj').symm
    obtain ⟨_, o, ho, hco⟩ := hr _ hne.symm
    unfold World.cell? at h0
    rw [ho] at h0
    cases o <;> simp [Obj.isCells] at hco <;> simp at h0
theorem own_ow {β α : Type} (B : Nat) (enc : α → List Value) (s : Nat) (e : TypeId) (base : Nat) (v : β → Value) (xs : β → List α) : OwnFrom B (fun b W => Ow enc s e base W (v b) (xs b)) :=
  fun b W W' row hs hg hr => World.ownsRow.kept hs hg (by
    cases hv : (v b).ownBlock with
    | none => exact .inl rfl
    | some g =>
      refine .inr fun e => ?_
      obtain ⟨_, o, ho, hc⟩ := hr _ e.symm
      rcases hs.2 with ⟨h1, _⟩ | ⟨g', cap, cur, h1, _, hh, _⟩
      · rw [h1] at hv; simp [Value.ownBlock] at hv
      · rw [h1] at hv
        simp only [Value.ownBlock, Option.some.injEq] at hv
        rw [hv, ho] at hh
        cases hh
        simp [Obj.isCells] at hc)
theorem Sl.blk {α : Type} {enc : α → List Value} {s : Nat} {w : World} {v : Value} {xs : List α} (h : Sl enc s w v xs) (hx : 0 < xs.length) : ∀ b, v.ownBlock = some b → b < w.heap.size := by
  obtain ⟨A, c, rfl, h2, h3⟩ := h
  obtain ⟨b, off, rfl, hb, _⟩ := h3 (List.length_pos_iff.1 hx)
  intro b' e
  simp only [Value.ownBlock, Option.some.injEq] at e
  omega

theorem below_put {n D : Nat} {w W : World} {o o' : Obj} (h : Below n w W) (hn : n ≤ w.heap.size) (hD : n ≤ D) (_ : W.heap[D]? = some o) : Below n w (W.putObj D o') :=
  h.grown (grownBy_putObj' W D o') (Nat.le_trans hn h.size) (fun k e => by cases e; exact hD)
/-- How yield has answered: it goes on, and the blocks of S are kept; or it is to stop. -/
def YOut {α : Type} (J Jx : List α → World → Prop) (S : Nat → Prop) (pre : List α) (W1 : World) (b : Bool) (W' : World) : Prop := (b = true ∧ J pre W' ∧ Kpt S W1 W') ∨ (b = false ∧ Jx pre W')
theorem yout {F : Fence} {m : Nat} {P : Program} {l : Nat} {fn : FuncId} {tmps : Array Value} {assign body : Code} {W1 : World} {α : Type} {J Jx : List α → World → Prop} {S : Nat → Prop} {pre : List α}
    (h : RoundIn F m P l fn tmps assign body W1 fun e W' => (e = .returned (.bool true) ∧ J pre W' ∧ Kpt S W1 W') ∨ (e = .returned (.bool false) ∧ Jx pre W')) :
    RoundIn F m P l fn tmps assign body W1 fun e W' => ∃ b, e = .returned (.bool b) ∧ YOut J Jx S pre W1 b W' :=
  h.mono fun e W' h => by
    rcases h with ⟨h1, h2⟩ | ⟨h1, h2⟩
    · exact ⟨true, h1, .inl ⟨rfl, h2⟩⟩
    · exact ⟨false, h1, .inr ⟨rfl, h2⟩⟩
/-- THE CONTRACT OF AN ITERATOR THAT YIELDS xs: the blocks of S are kept by each round. -/
def SeqX {α : Type} (P : Program) (g : Nat) (lb : Array Value) (encs : α → Array Value) (S : Nat → Prop) (xs : List α) (w : World) : Prop :=
  ∀ (l : Nat) (J Jx : List α → World → Prop) (W : World), Below w.heap.size w W → OwnFrom W.heap.size J → OwnFrom W.heap.size Jx →
    (∀ pre x W1, (pre ++ [x]) <+: xs → J pre W1 → YieldAt Fence.wide 0 P l (encs x) W1 fun e W' =>
      (e = .returned (.bool true) ∧ J (pre ++ [x]) W' ∧ Kpt S W1 W') ∨ (e = .returned (.bool false) ∧ Jx (pre ++ [x]) W')) →
    J [] W →
    CallsIn Fence.wide 0 P g (#[.func (.yield l) #[] #[]] ++ lb) W fun e W' => (∃ v, e = .returned v) ∧ (J xs W' ∨ ∃ pre, pre <+: xs ∧ Jx pre W')
theorem SeqX.later {α : Type} {P : Program} {g : Nat} {lb : Array Value} {encs : α → Array Value} {S : Nat → Prop} {xs : List α} {w w' : World} (h : SeqX P g lb encs S xs w) (hb : Below w.heap.size w w') : SeqX P g lb encs S xs w' :=
  fun l J Jx W hW hJ hJx hY h0 => h l J Jx W (hb.trans (hW.mono hb.size)) hJ hJx hY h0

theorem own_drew {β : Type} {B : Nat} {I : β → World → Prop} (h : OwnFrom B I) {s : β} {W : World} (hs : I s W) : I s W.drew :=
  h s W W.drew none hs ⟨rfl, rfl, rfl, Nat.le_refl _, fun _ _ _ => rfl⟩ (fun r e => by cases e)
theorem Sl.kpt {α : Type} {enc : α → List Value} {s : Nat} {w w' : World} {v : Value} {xs : List α} {S : Nat → Prop} (h : Sl enc s w v xs) (hk : Kpt S w w') (hv : ∀ b, v.ownBlock = some b → S b) : Sl enc s w' v xs := by
  obtain ⟨A, c, rfl, h2, h3⟩ := h
  refine ⟨A, c, rfl, h2, fun hx => ?_⟩
  obtain ⟨b, off, hA, hb, hc⟩ := h3 hx
  subst hA
  exact ⟨b, off, rfl, Nat.lt_of_lt_of_le hb hk.size, fun i hi j hj => (hk.cell (p := ⟨b, off + i * s + j, none⟩) (hv b rfl) hb).trans (hc i hi j hj)⟩
theorem Sl.turn {α : Type} {enc : α → List Value} {s : Nat} {w w' : World} {v : Value} {xs : List α} {N : Nat} (h : Sl enc s w v xs) (hk : Turn N w w') : Sl enc s w' v xs :=
  h.keep (Nat.le_of_eq hk.size.symm) (fun p _ => hk.cell p)

/-- How the body of a round may be left. -/
def postX {α : Type} (N : Nat) (S : Nat → Prop) (I : List α → World → Prop) (Ix : Code → List α → World → Prop) (xs : List α) (W : World) : Exit → Act → World → Prop
  | .normal, _, W' => Kep N S W W' ∧ I xs W'
  | .ret, _, W' => Kep N S W W' ∧ Ix .ret xs W'
  | .exit id, _, W' => Kep N S W W' ∧ Ix (.exit id) xs W'
  | .goto t, _, W' => Kep N S W W' ∧ Ix (.goto t) xs W'
  | .panic _, _, _ => False
  | .outgrown, _, _ => False

variable {P : Program}
theorem wp_rangeX {α : Type} {g : Operand} {ps : Array Tmp} {assign body : Code} {Q : Exit → Act → World → Prop} {a : Act} {w : World}
    {gf : Nat} {lb : Array Value} (hg : a.eval g = .func (.func gf) #[] lb) (eg : ∀ args w, (callFunc gf args).run P w = .ok (.enter gf args) w)
    {encs : α → Array Value} {S : Nat → Prop} {xs : List α} {w0 : World} (hseq : SeqX P gf lb encs S xs w0) (hb0 : Below w0.heap.size w0 w) (hS : ∀ k, S k → k < w.heap.size) (hps : ∀ x, (encs x).size = ps.size)
    (I : List α → World → Prop) (Ix : Code → List α → World → Prop) (hI : OwnFrom w.heap.size I) (hIx : ∀ c, OwnFrom w.heap.size (Ix c)) (h0 : I [] w)
    (hround : ∀ (l : Nat) (pre : List α) (x : α) (W : World), w.heap.size ≤ l → l < W.heap.size → (pre ++ [x]) <+: xs → I pre W →
      assign.wpIn (Fence.wide.inRound l) 0 P (Exit.then (fun a' W' => Kep w.heap.size S W W' ∧
        ∀ W2, Turn w.heap.size W' W2 → body.wpIn (Fence.wide.inRound l) 0 P (postX w.heap.size S I Ix (pre ++ [x]) W2) a' W2) (fun _ _ _ => False))
        { tmps := (ps.zip (encs x)).foldl (fun t (p, v) => t.setIfInBounds p v) a.tmps, defers := [] } W)
    (hdone : ∀ (D : Nat) (W : World), w.heap.size ≤ D → I xs W → W.heap[D]? = some (.deferred (some [])) → Q .normal { a with defers := { target := .collected D, args := #[] } :: a.defers } W)
    (hstop : ∀ (D : Nat) (c : Code) (pre : List α) (W : World), w.heap.size ≤ D → pre <+: xs → Ix c pre W → W.heap[D]? = some (.deferred (some [])) → c.wpIn Fence.wide 0 P Q { a with defers := { target := .collected D, args := #[] } :: a.defers } W) :
    (Code.rangeFunc g ps assign body).wpIn Fence.wide 0 P Q a w := by
  refine wpIn_rangeFunc fun fn hfn => ?_
  -- the loop's record in each of its states
  let R : LoopState → Option Code → Loop := fun st pe => { state := st, pending := pe, fn, tmps := a.tmps, params := ps, assign, body, defers := w.heap.size }
  let L : Nat := w.heap.size + 1
  let W1 : World := (w.alloc (.deferred (some []))).alloc (.loop (R .ready none))
  have hL1 : W1.heap[L]? = some (.loop (R .ready none)) := by
    have := World.alloc_heap_new (w.alloc (.deferred (some []))) (.loop (R .ready none)); rwa [World.size_alloc] at this
  have hD1 : W1.heap[w.heap.size]? = some (.deferred (some [])) := (Below.heap_alloc _ _ _ (by simp)).trans (World.alloc_heap_new w _)
  have hb1 : Below w.heap.size w W1 := below_al (below_alloc1 _ _) _
  have hsz1 : W1.heap.size = w.heap.size + 2 := by show ((w.alloc _).alloc _).heap.size = _; simp
  refine ⟨L, [{ target := .collected w.heap.size, args := #[] }], W1, { target := .fn (.func gf) lb, args := #[.func (.yield L) #[] #[]] }, W1, gf, #[.func (.yield L) #[] #[]] ++ lb, W1,
    run_enterLoop_outer _ _ _ _ _, ?_, fun _ _ => trivial, ?_, ?_, ?_⟩
  · simp only [resolve, hg]; simp [go_sem]
  · simp [invoke, go_sem, eg]
  · intro h; cases h
  · have turn : ∀ {X : World} {st : LoopState} {pe : Option Code} (st' : LoopState) (pe' : Option Code), X.heap[L]? = some (.loop (R st pe)) → Turn w.heap.size X (X.putObj L (.loop (R st' pe'))) :=
      fun st' pe' h => ⟨L, _, _, Nat.le_succ _, h, rfl, rfl, rfl⟩
    have far : ∀ {X : World} {o : Obj}, X.heap[w.heap.size]? = some (.deferred (some [])) → (X.putObj L o).heap[w.heap.size]? = some (.deferred (some [])) :=
      fun h => (World.putObj_heap_other (by show w.heap.size ≠ w.heap.size + 1; omega)).trans h
    have back : ∀ {X Y : World} {row : Option Nat} {k : Nat} {o : Obj}, X.grownBy Y row → (∀ r, row = some r → W1.heap.size ≤ r ∧ ∃ o : Obj, X.heap[r]? = some o ∧ o.isCells = false) → k < W1.heap.size → X.heap[k]? = some o → Y.heap[k]? = some o :=
      fun hgr hr hk h => (hgr.block _ (heap_lt h) (fun e => by have := (hr _ e.symm).1; omega)).trans h
    have wid : ∀ {X : World} {row : Option Nat}, (∀ r, row = some r → W1.heap.size ≤ r ∧ ∃ o : Obj, X.heap[r]? = some o ∧ o.isCells = false) → ∀ r, row = some r → w.heap.size ≤ r ∧ ∃ o : Obj, X.heap[r]? = some o ∧ o.isCells = false :=
      fun hr r e => ⟨by have := (hr r e).1; omega, (hr r e).2⟩
    refine (hseq L (fun pre W => I pre W ∧ W.heap[L]? = some (.loop (R .ready none)) ∧ W.heap[w.heap.size]? = some (.deferred (some [])))
      (fun pre W => ∃ c, Ix c pre W ∧ W.heap[L]? = some (.loop (R .done (some c))) ∧ W.heap[w.heap.size]? = some (.deferred (some [])))
      W1 (hb0.trans (hb1.mono hb0.size))
      (fun s A C row hs hgr hr => ⟨hI s A C row hs.1 hgr (wid hr), back hgr hr (by omega) hs.2.1, back hgr hr (by omega) hs.2.2⟩)
      (fun s A C row hs hgr hr => by
        obtain ⟨c, hc, h1, h2⟩ := hs
        exact ⟨c, hIx c s A C row hc hgr (wid hr), back hgr hr (by omega) h1, back hgr hr (by omega) h2⟩) ?_ ⟨hI.alloc _ (hI.alloc _ h0), hL1, hD1⟩).mono ?_
    · rintro pre x W hpre ⟨hi, hl, hd⟩
      refine ⟨fn, _, assign, body, run_yield (r := R .ready none) hl (hps x), roundIn_of_wpIn hfn (wpIn_mono (hround L pre x W (Nat.le_succ _) (heap_lt hl) hpre hi) ?_)⟩
      intro e a' W' he
      cases e with
      | normal =>
        obtain ⟨hk, hbody⟩ := he
        have hl' := hk.same L _ (Nat.le_succ _) hl rfl
        have hd' := hk.same _ _ (Nat.le_refl _) hd rfl
        refine ⟨_, run_beginRound hl' rfl, wpIn_mono (hbody _ (turn .busy none hl')) ?_⟩
        intro e3 a3 W3 h3
        have hl2 : (W'.putObj L (.loop (R .busy none))).heap[L]? = some (.loop (R .busy none)) := World.putObj_heap_same (heap_lt hl')
        have hd2 : (W'.putObj L (.loop (R .busy none))).heap[w.heap.size]? = some (.deferred (some [])) := far hd'
        have out : ∀ (hk3 : Kep w.heap.size S (W'.putObj L (.loop (R .busy none))) W3), W3.heap[L]? = some (.loop (R .busy none)) ∧ W3.heap[w.heap.size]? = some (.deferred (some [])) :=
          fun hk3 => ⟨hk3.same L _ (Nat.le_succ _) hl2 rfl, hk3.same _ _ (Nat.le_refl _) hd2 rfl⟩
        have stop : ∀ (c : Code), Kep w.heap.size S (W'.putObj L (.loop (R .busy none))) W3 → Ix c (pre ++ [x]) W3 → ∃ v w', (Instr.endRound L (some c)).run P W3 = .ok v w' ∧
            ((Ending.returned v = .returned (.bool true) ∧ (I (pre ++ [x]) w' ∧ w'.heap[L]? = some (.loop (R .ready none)) ∧ w'.heap[w.heap.size]? = some (.deferred (some []))) ∧ Kpt S W w') ∨
             (Ending.returned v = .returned (.bool false) ∧ ∃ c, Ix c (pre ++ [x]) w' ∧ w'.heap[L]? = some (.loop (R .done (some c))) ∧ w'.heap[w.heap.size]? = some (.deferred (some [])))) := by
          intro c hk3 hc
          obtain ⟨h1, h2⟩ := out hk3
          exact ⟨_, _, run_endRound (some c) h1, .inr ⟨rfl, c, (turn .done (some c) h1).own (hIx c) hc, World.putObj_heap_same (heap_lt h1), far h2⟩⟩
        cases e3 with
        | normal =>
          obtain ⟨hk3, hi3⟩ := h3
          obtain ⟨h1, h2⟩ := out hk3
          refine ⟨_, _, run_endRound none h1, .inl ⟨rfl, ⟨(turn .ready none h1).own hI hi3, World.putObj_heap_same (heap_lt h1), far h2⟩, ?_⟩⟩
          exact ((hk.kpt.trans ((turn .busy none hl').kpt hS)).trans hk3.kpt).trans ((turn .ready none h1).kpt hS)
        | ret => exact stop .ret h3.1 h3.2
        | exit id => exact stop (.exit id) h3.1 h3.2
        | goto t => exact stop (.goto t) h3.1 h3.2
        | panic ch => exact h3.elim
        | outgrown => exact h3.elim
      | ret => exact he.elim
      | exit id => exact he.elim
      | goto t => exact he.elim
      | panic ch => exact he.elim
      | outgrown => exact he.elim
    · rintro e W2 ⟨⟨v, rfl⟩, (⟨hi, hl, hd⟩ | ⟨pre, hpre, c, hi, hl, hd⟩)⟩
      · exact ⟨none, _, run_endLoop hl (by intro h; cases h), hdone _ _ (Nat.le_refl _) ((turn .exhausted none hl).own hI hi) (far hd)⟩
      · exact ⟨some c, _, run_endLoop hl (by intro h; cases h), hstop _ c pre _ (Nat.le_refl _) hpre ((turn .exhausted (some c) hl).own (hIx c) hi) (far hd)⟩
end Go.Proofs.YtefkmidmjofdcaaGreat
