/-
  Iterators that write boxes of their own between two rounds: what the loop's body depends on, and may write, is its footprint F.
-/
import Derived.Test.YtefkmidmjofdcaaGreatZKs
set_option linter.all false
namespace Go.Proofs.YtefkmidmjofdcaaGreat
open Go.RowKit Go.Shelf

/-- The footprint F holds blocks of cells. -/
def Foot (F : Nat → Prop) (W : World) : Prop := ∀ k, F k → ∃ o : Obj, W.heap[k]? = some o ∧ o.isCells = true
/-- Of the old blocks only those of F may have changed. -/
structure Out (F : Nat → Prop) (W W' : World) : Prop where
  size : W.heap.size ≤ W'.heap.size
  block : ∀ k, k < W.heap.size → ¬ F k → W'.heap[k]? = W.heap[k]?
def Fresh (F F' : Nat → Prop) (W : World) : Prop := ∀ k, F' k → F k ∨ W.heap.size ≤ k
/-- J stays true while the blocks of its footprint and those below B stay as they are. -/
def OwnF {β : Type} (B : Nat) (J : (Nat → Prop) → β → World → Prop) : Prop := ∀ F s W W', J F s W → Below B W W' → (∀ k, F k → W'.heap[k]? = W.heap[k]?) → J F s W'
section
variable {F F' : Nat → Prop} {W W' X Y Z : World}
theorem Out.refl (F : Nat → Prop) (W : World) : Out F W W := ⟨Nat.le_refl _, fun _ _ _ => rfl⟩
theorem Out.trans (h : Out F X Y) (k : Out F Y Z) : Out F X Z := ⟨Nat.le_trans h.size k.size, fun i h1 h2 => (k.block i (Nat.lt_of_lt_of_le h1 h.size) h2).trans (h.block i h1 h2)⟩
theorem Out.call (h : Out F X Y) (k : Below Y.heap.size Y Z) : Out F X Z := h.trans ⟨k.size, fun i h1 _ => k.block i h1⟩
theorem Out.alloc (h : Out F X Y) (o : Obj) : Out F X (Y.alloc o) := h.call (below_alloc1 _ _)
theorem Out.drew (h : Out F X Y) : Out F X Y.drew := ⟨h.size, h.block⟩
theorem Out.setCell (h : Out F X Y) {p : Addr} (hp : F p.block ∨ X.heap.size ≤ p.block) (u : Value) : Out F X (Y.setCell p u) := by
  have hs : ∀ k, k ≠ p.block → (Y.setCell p u).heap[k]? = Y.heap[k]? := fun k hk => Below.heap_setCell Y p u k hk
  refine ⟨by rw [World.size_setCell]; exact h.size, fun i h1 h2 => (hs i ?_).trans (h.block i h1 h2)⟩
  rintro rfl
  rcases hp with hp | hp
  · exact h2 hp
  · omega
theorem Out.grown (h : Out F X Y) {row : Option Nat} (hg : Y.grownBy Z row) (hr : ∀ k, row = some k → F k ∨ X.heap.size ≤ k) : Out F X Z :=
  ⟨Nat.le_trans h.size hg.size, fun i h1 h2 => (hg.block i (Nat.lt_of_lt_of_le h1 h.size) (fun e => by rcases hr i e.symm with h3 | h3 <;> first | exact h2 h3 | omega)).trans (h.block i h1 h2)⟩
theorem Foot.lt (h : Foot F W) {k : Nat} (hk : F k) : k < W.heap.size := by obtain ⟨o, h1, _⟩ := h k hk; exact heap_lt h1
theorem Foot.same (h : Foot F W) (hs : ∀ k, F k → W'.heap[k]? = W.heap[k]?) : Foot F W' := fun k hk => by rw [hs k hk]; exact h k hk
theorem Foot.below (h : Foot F W) (hb : Below W.heap.size W W') : Foot F W' := h.same fun k hk => hb.block k (h.lt hk)
theorem Foot.turn {N : Nat} (h : Foot F W) (ht : Turn N W W') : Foot F W' := by
  obtain ⟨l, _, hg, o, h2, h3⟩ := ht.kept
  refine h.same fun k hk => hg.block k (h.lt hk) ?_
  intro e
  injection e with e
  obtain ⟨o', h4, h5⟩ := h k hk
  rw [e, h2] at h4
  cases h4
  rw [h3] at h5
  cases h5
theorem Foot.no (h : Foot F W) {k : Nat} {o : Obj} (hk : W.heap[k]? = some o) (ho : o.isCells = false) : ¬ F k := by
  intro hF
  obtain ⟨o', h4, h5⟩ := h k hF
  rw [hk] at h4
  cases h4
  rw [ho] at h5
  cases h5
theorem OwnF.turn {β : Type} {B N : Nat} {J : (Nat → Prop) → β → World → Prop} (hJ : OwnF B J) {s : β} (h : J F s W) (hf : Foot F W) (ht : Turn N W W') (hB : B ≤ N) : J F s W' :=
  hJ F s W W' h (ht.below hB) fun k hk => by
    obtain ⟨l, _, hg, o, h2, h3⟩ := ht.kept
    exact hg.block k (hf.lt hk) (fun e => by injection e with e; exact hf.no h2 h3 (e ▸ hk))
theorem OwnF.call {β : Type} {B : Nat} {J : (Nat → Prop) → β → World → Prop} (hJ : OwnF B J) {s : β} (h : J F s W) (hf : Foot F W) (hb : Below W.heap.size W W') (hB : B ≤ W.heap.size) : J F s W' :=
  hJ F s W W' h (hb.mono hB) fun k hk => hb.block k (hf.lt hk)
end
theorem OwnF.mono {β : Type} {B B' : Nat} {J : (Nat → Prop) → β → World → Prop} (hJ : OwnF B J) (h : B ≤ B') : OwnF B' J := fun F s W W' h1 h2 h3 => hJ F s W W' h1 (h2.mono h) h3

/-- THE CONTRACT OF AN ITERATOR THAT YIELDS xs, never stopped: the blocks of S are what it reads. -/
def SeqF {α : Type} (P : Program) (g : Nat) (lb : Array Value) (encs : α → Array Value) (S : Nat → Prop) (xs : List α) (w : World) : Prop :=
  ∀ (l : Nat) (J : (Nat → Prop) → List α → World → Prop) (F0 : Nat → Prop) (W : World), Below w.heap.size w W → OwnF W.heap.size J → Foot F0 W → (∀ k, F0 k → ¬ S k) →
    (∀ F pre x W1, (pre ++ [x]) <+: xs → J F pre W1 → Foot F W1 → YieldAt Fence.wide 0 P l (encs x) W1 fun e W' =>
      e = .returned (.bool true) ∧ ∃ F', J F' (pre ++ [x]) W' ∧ Foot F' W' ∧ Fresh F F' W1 ∧ Out F W1 W') →
    J F0 [] W →
    CallsIn Fence.wide 0 P g (#[.func (.yield l) #[] #[]] ++ lb) W fun e W' => (∃ v, e = .returned v) ∧ ∃ F, J F xs W' ∧ Foot F W'

/-- How the body of a round is left. -/
def postF {α : Type} (I : (Nat → Prop) → List α → World → Prop) (F : Nat → Prop) (xs : List α) (W W2 : World) : Exit → Act → World → Prop
  | .normal, _, W' => Out F W2 W' ∧ ∃ F', I F' xs W' ∧ Foot F' W' ∧ Fresh F F' W
  | _, _, _ => False

variable {P : Program}
theorem wp_rangeF {α : Type} {g : Operand} {ps : Array Tmp} {assign body : Code} {Q : Exit → Act → World → Prop} {a : Act} {w : World}
    {gf : Nat} {lb : Array Value} (hg : a.eval g = .func (.func gf) #[] lb) (eg : ∀ args w, (callFunc gf args).run P w = .ok (.enter gf args) w)
    {encs : α → Array Value} {S : Nat → Prop} {xs : List α} {w0 : World} (hseq : SeqF P gf lb encs S xs w0) (hb0 : Below w0.heap.size w0 w) (hps : ∀ x, (encs x).size = ps.size)
    (I : (Nat → Prop) → List α → World → Prop) (hI : OwnF w.heap.size I) (F0 : Nat → Prop) (hF0 : Foot F0 w) (hS : ∀ k, F0 k → ¬ S k) (h0 : I F0 [] w)
    (hround : ∀ (l : Nat) (F : Nat → Prop) (pre : List α) (x : α) (W : World), w.heap.size ≤ l → l < W.heap.size → (pre ++ [x]) <+: xs → I F pre W → Foot F W →
      assign.wpIn (Fence.wide.inRound l) 0 P (Exit.then (fun a' W' => Out F W W' ∧
        ∀ W2, Turn w.heap.size W' W2 → body.wpIn (Fence.wide.inRound l) 0 P (postF I F (pre ++ [x]) W W2) a' W2) (fun _ _ _ => False))
        { tmps := (ps.zip (encs x)).foldl (fun t (p, v) => t.setIfInBounds p v) a.tmps, defers := [] } W)
    (hdone : ∀ (D : Nat) (W : World) (F : Nat → Prop), w.heap.size ≤ D → I F xs W → W.heap[D]? = some (.deferred (some [])) → Q .normal { a with defers := { target := .collected D, args := #[] } :: a.defers } W) :
    (Code.rangeFunc g ps assign body).wpIn Fence.wide 0 P Q a w := by
  refine wpIn_rangeFunc fun fn hfn => ?_
  let R : LoopState → Option Code → Loop := fun st pe => { state := st, pending := pe, fn, tmps := a.tmps, params := ps, assign, body, defers := w.heap.size }
  let L : Nat := w.heap.size + 1
  let W1 : World := (w.alloc (.deferred (some []))).alloc (.loop (R .ready none))
  have hL1 : W1.heap[L]? = some (.loop (R .ready none)) := by
    have := World.alloc_heap_new (w.alloc (.deferred (some []))) (.loop (R .ready none)); rwa [World.size_alloc] at this
  have hD1 : W1.heap[w.heap.size]? = some (.deferred (some [])) := (Below.heap_alloc _ _ _ (by simp)).trans (World.alloc_heap_new w _)
  have hb1 : Below w.heap.size w W1 := below_al (below_alloc1 _ _) _
  have hsz1 : W1.heap.size = w.heap.size + 2 := by show ((w.alloc _).alloc _).heap.size = _; simp
  refine ⟨L, [{ target := .collected w.heap.size, args := #[] }], W1, { target := .fn (.func gf) lb, args := #[.func (.yield L) #[] #[]] }, W1, gf, #[.func (.yield L) #[] #[]] ++ lb, W1,
    run_enterLoop_outer _ _ _ _ _, ?_, fun _ _ => trivial, ?_, ?_, ?_⟩
  · simp only [resolve, hg]; simp [go_sem]
  · simp [invoke, go_sem, eg]
  · intro h; cases h
  · have turn : ∀ {X : World} {st : LoopState} {pe : Option Code} (st' : LoopState) (pe' : Option Code), X.heap[L]? = some (.loop (R st pe)) → Turn w.heap.size X (X.putObj L (.loop (R st' pe'))) :=
      fun st' pe' h => ⟨L, _, _, Nat.le_succ _, h, rfl, rfl, rfl⟩
    have far : ∀ {X : World} {k : Nat} {o : Obj}, k ≠ L → (X.putObj L o).heap[k]? = X.heap[k]? := fun h => World.putObj_heap_other h
    refine (hseq L (fun F pre W => I F pre W ∧ W.heap[L]? = some (.loop (R .ready none)) ∧ W.heap[w.heap.size]? = some (.deferred (some [])))
      F0 W1 (hb0.trans (hb1.mono hb0.size))
      (fun F s A C hs hb hf => ⟨hI F s A C hs.1 (hb.mono (by omega)) hf, (hb.block _ (by omega)).trans hs.2.1, (hb.block _ (by omega)).trans hs.2.2⟩)
      (hF0.below hb1) hS ?_ ⟨hI.call h0 hF0 hb1 (Nat.le_refl _), hL1, hD1⟩).mono ?_
    · rintro F pre x W hpre ⟨hi, hl, hd⟩ hF
      refine ⟨fn, _, assign, body, run_yield (r := R .ready none) hl (hps x), roundIn_of_wpIn hfn (wpIn_mono (hround L F pre x W (Nat.le_succ _) (heap_lt hl) hpre hi hF) ?_)⟩
      intro e a' W' he
      cases e with
      | normal =>
        obtain ⟨hk, hbody⟩ := he
        have hl' := (hk.block L (heap_lt hl) (hF.no hl rfl)).trans hl
        have hd' := (hk.block _ (heap_lt hd) (hF.no hd rfl)).trans hd
        refine ⟨_, run_beginRound hl' rfl, wpIn_mono (hbody _ (turn .busy none hl')) ?_⟩
        intro e3 a3 W3 h3
        have hl2 : (W'.putObj L (.loop (R .busy none))).heap[L]? = some (.loop (R .busy none)) := World.putObj_heap_same (heap_lt hl')
        have hd2 : (W'.putObj L (.loop (R .busy none))).heap[w.heap.size]? = some (.deferred (some [])) := (far (by show w.heap.size ≠ w.heap.size + 1; omega)).trans hd'
        cases e3 with
        | normal =>
          obtain ⟨hk3, F', hi3, hF3, hfr⟩ := h3
          have h1 := (hk3.block L (heap_lt hl2) (hF.no hl rfl)).trans hl2
          have h2 := (hk3.block _ (heap_lt hd2) (hF.no hd rfl)).trans hd2
          refine ⟨_, _, run_endRound none h1, rfl, F', ⟨hI.turn hi3 hF3 (turn .ready none h1) (Nat.le_refl _), World.putObj_heap_same (heap_lt h1), (far (by show w.heap.size ≠ w.heap.size + 1; omega)).trans h2⟩, hF3.turn (turn .ready none h1), hfr, ?_, ?_⟩
          · show W.heap.size ≤ (W3.putObj L (.loop (R .ready none))).heap.size
            rw [(turn .ready none h1).size]
            have h4 : (W'.putObj L (.loop (R .busy none))).heap.size ≤ W3.heap.size := hk3.size
            rw [(turn .busy none hl').size] at h4
            exact Nat.le_trans hk.size h4
          · intro k hk1 hk2
            show (W3.putObj L (.loop (R .ready none))).heap[k]? = W.heap[k]?
            have h4 : ∀ k, k < (W'.putObj L (.loop (R .busy none))).heap.size → ¬ F k → W3.heap[k]? = (W'.putObj L (.loop (R .busy none))).heap[k]? := hk3.block
            by_cases hkL : k = L
            · subst hkL
              rw [hl]
              exact World.putObj_heap_same (heap_lt h1)
            · rw [far hkL, h4 k (by rw [(turn .busy none hl').size]; exact Nat.lt_of_lt_of_le hk1 hk.size) hk2, far hkL, hk.block k hk1 hk2]
        | ret => exact h3.elim
        | exit id => exact h3.elim
        | goto t => exact h3.elim
        | panic ch => exact h3.elim
        | outgrown => exact h3.elim
      | ret => exact he.elim
      | exit id => exact he.elim
      | goto t => exact he.elim
      | panic ch => exact he.elim
      | outgrown => exact he.elim
    · rintro e W2 ⟨⟨v, rfl⟩, F, ⟨hi, hl, hd⟩, hF⟩
      exact ⟨none, _, run_endLoop hl (by intro h; cases h), hdone _ _ F (Nat.le_refl _) (hI.turn (B := w.heap.size) hi hF (turn .exhausted none hl) (Nat.le_refl _)) ((far (by show w.heap.size ≠ w.heap.size + 1; omega)).trans hd)⟩

/-- append onto an own row, inside a fence: where the row lies then. -/
theorem wpListIn_append_at {Fc : Fence} {n : Nat} (w : World) {ops : Array Oper} {rest : List Oper} {o : Oper} {a : Act} {Q : Exit → Act → World → Prop}
    (hg : o.guard = none) (s x : Operand) (t : TypeId) (hop : o.op = Op.call { callee := Callee.builtin Builtin.append, args := #[s, x], argTypes := #[t, t] })
    (base : Nat) (e : TypeId) (i : TypeInfo) (z : Value) (size bytes : Nat) (h1 : P.underlying t = some (.slice e)) (h2 : P.info? e = some i) (h3 : i.zero = some z) (h4 : i.size = size) (h5 : i.bytes = bytes) (h6 : z.cells.size = size) (h7 : 0 < size)
    (v : Value) (k : Nat) (xs : List Value) (hs : a.eval s = v) (hown : w.ownsRow base e size v k xs) (ad : Addr) (m c : Nat) (news : List Value) (hx : a.eval x = .slice (some ad) m c) (hn : news.length = m * size)
    (hc : ∀ j u, news[j]? = some u → w.cell? (ad.add j) = some u) (h1c : ∀ u ∈ news, u.oneCell' = true) (b1 : k + m ≤ maxLen) (b2 : (k + m) * bytes ≤ 140737488355328) (b3 : base ≤ w.heap.size)
    (hK : ∀ v' w', w'.ownsRow base e size v' (k + m) (xs ++ news) → w.grownBy w' v.ownBlock → (v'.ownBlock = v.ownBlock ∨ v'.ownBlock = some w.heap.size) → wpListIn Fc n P ops Q rest (a.put o.dst v') w') :
    wpListIn Fc n P ops Q (o :: rest) a w := by
  refine wpListIn_plain hg fun K hK' => ?_
  obtain ⟨v', w', hrun, r1, r2, _, r3⟩ := run_append_own_at (P := P) w base t o.type e i z size bytes h1 h2 h3 h4 h5 h6 h7 v k xs hown ad m c news hn hc h1c b1 b2 b3
  unfold Oper.wpIn
  refine ⟨?_, ?_⟩
  · simp [Oper.about, hop, resolve, Target.leads, Sem.run_pure]
  · rw [Oper.semAt_plain Fc _ _ (by rw [hop]; intro c hc'; cases hc')]
    simp [execOp, hop, resolve, invoke, builtin, hs, hx, hrun, Result.andThen]
    exact hK' _ _ (hK v' w' r1 r2 r3)

theorem ret_listX {α : Type} {enc : α → List Value} {s : Nat} {t : TypeId} {q : List α × Int} {k : List α} {a : Int} {r : Value} {base : Nat} {w : World} (h : q = (k, a)) (ho : Ow enc s t base w r k) :
    Ending.returned (.tuple #[r, .int .i64 a]) = .returned (.tuple #[r, .int .i64 q.2]) ∧ Ow enc s t base w r q.1 := by rw [h]; exact ⟨rfl, ho⟩
/-- A box that holds an owned row, with both in the footprint. -/
def HoldF {α : Type} (enc : α → List Value) (s : Nat) (e : TypeId) (base : Nat) (p : Addr) (F : Nat → Prop) (xs : List α) (W : World) : Prop :=
  ∃ v, At W p v ∧ Ow enc s e base W v xs ∧ p.block < base ∧ F = fun k => k = p.block ∨ v.ownBlock = some k
theorem At.same {W W' : World} {p : Addr} {v : Value} (h : At W p v) (hs : W'.heap[p.block]? = W.heap[p.block]?) : At W' p v := ⟨(World.cell?_of_block hs).trans h.1, (World.frozen?_of_block hs).trans h.2⟩
theorem Ow.same {α : Type} {enc : α → List Value} {s : Nat} {e : TypeId} {base : Nat} {W W' : World} {v : Value} {xs : List α} (h : Ow enc s e base W v xs) (hs : ∀ k, v.ownBlock = some k → W'.heap[k]? = W.heap[k]?) : Ow enc s e base W' v xs := by
  obtain ⟨h1, h2⟩ := h
  refine ⟨h1, ?_⟩
  rcases h2 with h2 | ⟨g, cap, cur, hv, hb, hh, hr⟩
  · exact .inl h2
  · exact .inr ⟨g, cap, cur, hv, hb, (hs g (by rw [hv]; rfl)).trans hh, hr⟩
theorem holdF_own {α β : Type} {enc : α → List Value} {s : Nat} {e : TypeId} {base B : Nat} {p : Addr} (f : β → List α) : OwnF B (fun F b W => HoldF enc s e base p F (f b) W) := by
  rintro F b W W' ⟨v, h1, h2, h3, rfl⟩ _ hs
  exact ⟨v, h1.same (hs _ (.inl rfl)), h2.same fun k hk => hs k (.inr hk), h3, rfl⟩
theorem ownF_below {β : Type} {B n : Nat} {w : World} (_ : n ≤ w.heap.size) (hB : n ≤ B) : OwnF B (fun (_ : Nat → Prop) (_ : β) W => Below n w W) :=
  fun _ _ _ _ h hb _ => h.trans (hb.mono hB)
theorem OwnF.and {β : Type} {B : Nat} {I J : (Nat → Prop) → β → World → Prop} (h : OwnF B I) (k : OwnF B J) : OwnF B (fun F s W => I F s W ∧ J F s W) :=
  fun F s W W' hs hb hf => ⟨h F s W W' hs.1 hb hf, k F s W W' hs.2 hb hf⟩
theorem cells_of_at {W : World} {p : Addr} {v : Value} (h : At W p v) : ∃ o : Obj, W.heap[p.block]? = some o ∧ o.isCells = true := by
  have h1 := h.1
  unfold World.cell? at h1
  cases ho : W.heap[p.block]? with
  | none => rw [ho] at h1; cases h1
  | some o => cases o <;> first | exact ⟨_, rfl, rfl⟩ | (rw [ho] at h1; cases h1)
theorem HoldF.foot {α : Type} {enc : α → List Value} {s : Nat} {e : TypeId} {base : Nat} {p : Addr} {F : Nat → Prop} {xs : List α} {W : World} (h : HoldF enc s e base p F xs W) : Foot F W := by
  obtain ⟨v, h1, h2, _, rfl⟩ := h
  rintro k (rfl | hk)
  · exact cells_of_at h1
  · rcases h2.2 with ⟨h4, _⟩ | ⟨g', cap, cur, h4, _, hh, _⟩
    · rw [h4] at hk; simp [Value.ownBlock] at hk
    · rw [h4] at hk
      simp only [Value.ownBlock, Option.some.injEq] at hk
      subst hk
      exact ⟨_, hh, rfl⟩
end Go.Proofs.YtefkmidmjofdcaaGreat
