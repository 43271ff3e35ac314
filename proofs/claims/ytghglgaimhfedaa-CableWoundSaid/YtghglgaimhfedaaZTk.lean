/-
  Three rows of positions and one that stands alone, of which two are appended to in whichever order.
-/
import Derived.Test.YtghglgaimhfedaaZTh
import Derived.Test.YtghglgaimhfedaaZKq
namespace Go.Proofs.Ytghglgaimhfedaa
open Go.RowKit Go.Shelf

structure Rows3 (w0 : World) (base G : Nat) (va vb vc vp : Value) (La Lb Lc : List Pt) (qa qb q : Pt) (S T : Option Value) (W : World) : Prop where
  below : Below w0.heap.size w0 W
  size : G ≤ W.heap.size
  a : Ow e2 2 61 base W (S.getD va) (La ++ if S.isSome then [qa] else [])
  b : Ow e2 2 61 base W (T.getD vb) (Lb ++ if T.isSome then [qb] else [])
  c : Ow e2 2 61 base W vc Lc
  p : Ow e2 2 61 base W vp [q]
  ab : Apart (S.getD va) (T.getD vb)
  ac : Apart (S.getD va) vc
  ap : Apart (S.getD va) vp
  bc : Apart (T.getD vb) vc
  bp : Apart (T.getD vb) vp
  cp : Apart vc vp
section
variable {w0 : World} {base G : Nat} {va vb vc vp : Value} {La Lb Lc : List Pt} {qa qb q : Pt} {S T : Option Value} {W W' : World}
theorem Rows3.keep (h : Rows3 w0 base G va vb vc vp La Lb Lc qa qb q S T W) (hb : Below W.heap.size W W') : Rows3 w0 base G va vb vc vp La Lb Lc qa qb q S T W' :=
  ⟨below_tr h.below hb, Nat.le_trans h.size hb.size, h.a.below hb, h.b.below hb, h.c.below hb, h.p.below hb, h.ab, h.ac, h.ap, h.bc, h.bp, h.cp⟩
/-- A new slice of one position. -/
def LitAt (G : Nat) (q : Pt) : VP := fun v W => ∃ g, v = .slice (some ⟨g, 0, none⟩) 1 1 ∧ G ≤ g ∧ g < W.heap.size ∧ W.cell? ⟨g, 0, none⟩ = some (.int .i64 q.1) ∧ W.cell? ⟨g, 1, none⟩ = some (.int .i64 q.2)
def relR (G : Nat) (W W' : World) : Prop := W.heap.size ≤ W'.heap.size ∧ ∀ p : Addr, G ≤ p.block → p.block < W.heap.size → W'.cell? p = W.cell? p
theorem LitAt.stab (G : Nat) (q : Pt) : Stab (LitAt G q) := fun v w w' ⟨g, e, h1, h2, h3, h4⟩ hb =>
  ⟨g, e, h1, Nat.lt_of_lt_of_le h2 hb.size, (hb.cell (p := ⟨g, 0, none⟩) h2).trans h3, (hb.cell (p := ⟨g, 1, none⟩) h2).trans h4⟩
theorem LitAt.stabR (G : Nat) (q : Pt) : ∀ v w w', LitAt G q v w → relR G w w' → LitAt G q v w' := fun v w w' ⟨g, e, h1, h2, h3, h4⟩ hb =>
  ⟨g, e, h1, Nat.lt_of_lt_of_le h2 hb.1, (hb.2 ⟨g, 0, none⟩ h1 h2).trans h3, (hb.2 ⟨g, 1, none⟩ h1 h2).trans h4⟩
theorem LitAt.new (W : World) (q : Pt) (t : TypeId) (hG : G ≤ W.heap.size) : LitAt G q (.slice (some ⟨W.heap.size, 0, none⟩) 1 1) (W.alloc (.cells #[.int .i64 q.1, .int .i64 q.2] t)) :=
  ⟨W.heap.size, rfl, hG, by simp, (At.new W _ t 0 _ rfl).1, (At.new W _ t 1 _ rfl).1⟩
theorem run_lit {G : Nat} {q : Pt} {u : Value} (i0 : TypeInfo) (hi : Try.prog.info? 61 = some i0) (hz0 : i0.zero = some (.agg #[.int .i64 0, .int .i64 0])) (hz1 : i0.size = 2) (hz2 : i0.bytes = 16)
    (ty : TypeId) {v : Value} {xs : List Pt} (hown : Ow e2 2 61 base W v xs) (hl : LitAt G q u W) (hlen : xs.length ≤ 1000) (hbase : base ≤ W.heap.size) (hv : ∀ b, v.ownBlock = some b → b < G) :
    ∃ v' W', (Builtin.append_ #[107, 107] ty #[v, u]).run Try.prog W = .ok v' W' ∧ Ow e2 2 61 base W' v' (xs ++ [q]) ∧ W.grownBy W' v.ownBlock ∧ (v'.ownBlock = v.ownBlock ∨ v'.ownBlock = some W.heap.size) ∧ relR G W W' := by
  obtain ⟨g, rfl, h1, h2, h3, h4⟩ := hl
  obtain ⟨v', W', r1, r2, r3, _, r5⟩ := run_append_own_at (P := Try.prog) W base 107 ty 61 i0 _ 2 16 Try.underlying107 hi hz0 hz1 hz2 rfl (by decide) v _ _ hown.own ⟨g, 0, none⟩ 1 1 (e2 q) rfl
    (fun j u hu => by
      match j, hu with
      | 0, hu => simp [e2] at hu; subst hu; simpa [Addr.add] using h3
      | 1, hu => simp [e2] at hu; subst hu; simpa [Addr.add] using h4) (e2_one _) (by simp only [maxLen]; omega) (by omega) hbase
  refine ⟨v', W', r1, Ow.snoc r2, r3, r5, r3.size, fun p hp hl => ?_⟩
  refine World.cell?_of_block (r3.block p.block hl fun h => ?_)
  have := hv _ h.symm
  omega
theorem Rows3.one (i0 : TypeInfo) (hi : Try.prog.info? 61 = some i0) (hz0 : i0.zero = some (.agg #[.int .i64 0, .int .i64 0])) (hz1 : i0.size = 2) (hz2 : i0.bytes = 16) (ty : TypeId) {u : Value}
    (h : Rows3 w0 base G va vb vc vp La Lb Lc qa qb q none T W) (hl : LitAt G qa u W) (hlen : La.length ≤ 1000) (hw0 : w0.heap.size ≤ base) (hbase : base ≤ G) (hv : ∀ b, va.ownBlock = some b → b < G) :
    ∃ v' W', (Builtin.append_ #[107, 107] ty #[va, u]).run Try.prog W = .ok v' W' ∧ relR G W W' ∧ Rows3 w0 base G va vb vc vp La Lb Lc qa qb q (some v') T W' := by
  have ha : Ow e2 2 61 base W va La := by simpa using h.a
  obtain ⟨v', W', r1, r2, r3, r4, r5⟩ := run_lit i0 hi hz0 hz1 hz2 ty ha hl hlen (Nat.le_trans hbase h.size) hv
  have ab : Apart va (T.getD vb) := h.ab
  have ac : Apart va vc := h.ac
  have ap : Apart va vp := h.ap
  exact ⟨v', W', r1, r5, ha.grown r3 h.below hw0, Nat.le_trans h.size r3.size, r2, h.b.beside ab.symm r3, h.c.beside ac.symm r3, h.p.beside ap.symm r3,
    Apart.grown ab h.b (Nat.le_refl _) r4, Apart.grown ac h.c (Nat.le_refl _) r4, Apart.grown ap h.p (Nat.le_refl _) r4, h.bc, h.bp, h.cp⟩
theorem Rows3.two (i0 : TypeInfo) (hi : Try.prog.info? 61 = some i0) (hz0 : i0.zero = some (.agg #[.int .i64 0, .int .i64 0])) (hz1 : i0.size = 2) (hz2 : i0.bytes = 16) (ty : TypeId) {u : Value}
    (h : Rows3 w0 base G va vb vc vp La Lb Lc qa qb q S none W) (hl : LitAt G qb u W) (hlen : Lb.length ≤ 1000) (hw0 : w0.heap.size ≤ base) (hbase : base ≤ G) (hv : ∀ b, vb.ownBlock = some b → b < G) :
    ∃ v' W', (Builtin.append_ #[107, 107] ty #[vb, u]).run Try.prog W = .ok v' W' ∧ relR G W W' ∧ Rows3 w0 base G va vb vc vp La Lb Lc qa qb q S (some v') W' := by
  have hb : Ow e2 2 61 base W vb Lb := by simpa using h.b
  obtain ⟨v', W', r1, r2, r3, r4, r5⟩ := run_lit i0 hi hz0 hz1 hz2 ty hb hl hlen (Nat.le_trans hbase h.size) hv
  have ab : Apart (S.getD va) vb := h.ab
  have bc : Apart vb vc := h.bc
  have bp : Apart vb vp := h.bp
  exact ⟨v', W', r1, r5, hb.grown r3 h.below hw0, Nat.le_trans h.size r3.size, h.a.beside ab r3, r2, h.c.beside bc.symm r3, h.p.beside bp.symm r3,
    (Apart.grown ab.symm h.a (Nat.le_refl _) r4).symm, h.ac, h.ap, Apart.grown bc h.c (Nat.le_refl _) r4, Apart.grown bp h.p (Nat.le_refl _) r4, h.cp⟩
/-- A step that runs a builtin append whose run is known. -/
theorem mono_ap {P : Program} {o : Oper} {a : Act} {w w' : World} {R : Value → World → Prop} {s x : Operand} {t : TypeId} {vs vx v' : Value} (ho : o.op = .call { callee := .builtin .append, args := #[s, x], argTypes := #[t, t] })
    (hs : a.eval s = vs) (hx : a.eval x = vx) (hrun : (Builtin.append_ #[t, t] o.type #[vs, vx]).run P w = .ok v' w') (h : R v' w') : mono P o a w R := by
  refine ⟨?_⟩
  unfold execOp
  simp only [ho, resolve, invoke, builtin, Sem.run_bind, Sem.run_pure, Result.andThen_ok, List.map_toArray, List.map_cons, List.map_nil, hs, hx, hrun]
  exact h
/-- A copy of a path that a second one is appended to. -/
def Joined (w0 : World) (base : Nat) (xs ys : List Pt) (S T : Option Value) (W : World) : Prop :=
  Below w0.heap.size w0 W ∧ base ≤ W.heap.size ∧ match T with
    | none => ∀ v, S = some v → Ow e2 2 61 base W v xs
    | some v => Ow e2 2 61 base W v (xs ++ ys)
theorem Joined.keep {xs ys : List Pt} (h : Joined w0 base xs ys S T W) (hb : Below W.heap.size W W') : Joined w0 base xs ys S T W' := by
  refine ⟨below_tr h.1 hb, Nat.le_trans h.2.1 hb.size, ?_⟩
  cases T with
  | none => exact fun v hv => (h.2.2 v hv).below hb
  | some v => exact Ow.below h.2.2 hb
end
theorem cells_new1 (w : World) (o : Obj) (cs : List Value) (t : TypeId) : ∀ j u, cs[j]? = some u → ((w.alloc o).alloc (.cells cs.toArray t)).cell? ((⟨w.heap.size + 1, 0, none⟩ : Addr).add j) = some u := by
  have h := cells_new (w.alloc o) cs t
  rwa [show (w.alloc o).heap.size = w.heap.size + 1 by simp] at h
/-! ### one of four positions -/
theorem run_ix (w : World) (i : Nat) (h : i < 4) (cs : Array Value) : (Instr.index 119 (.agg cs) (.int .i64 (i : Int))).run Try.prog w = .ok (.agg (cs.extract (i * 2) (i * 2 + 2))) w := by
  have hu : Try.prog.underlying 119 = some (.array 4 61) := by kernel_rfl
  simp [Instr.index, run_underlying hu, asIntOf, go_sem]
  omega
theorem run_ix0 (w : World) (a b c d e f g h : Value) : (Instr.index 119 (.agg #[a, b, c, d, e, f, g, h]) (.int .i64 0)).run Try.prog w = .ok (.agg #[a, b]) w := run_ix w 0 (by decide) _
theorem run_ix1 (w : World) (a b c d e f g h : Value) : (Instr.index 119 (.agg #[a, b, c, d, e, f, g, h]) (.int .i64 1)).run Try.prog w = .ok (.agg #[c, d]) w := run_ix w 1 (by decide) _
theorem run_ix2 (w : World) (a b c d e f g h : Value) : (Instr.index 119 (.agg #[a, b, c, d, e, f, g, h]) (.int .i64 2)).run Try.prog w = .ok (.agg #[e, f]) w := run_ix w 2 (by decide) _
theorem run_ix3 (w : World) (a b c d e f g h : Value) : (Instr.index 119 (.agg #[a, b, c, d, e, f, g, h]) (.int .i64 3)).run Try.prog w = .ok (.agg #[g, h]) w := run_ix w 3 (by decide) _
end Go.Proofs.Ytghglgaimhfedaa
