/-
  Plain words for the walks of this seat: slices that read as lists, rows of the call's own, appends, new blocks; nothing here names a function of the program.
-/
import Derived.WalkKit
import Derived.WalkSpells
import Derived.Lib.Hide
import Derived.Laws.OwnMore
import Derived.Laws.Rows
import Derived.Maps.AppendAt
import Derived.Deep.AppendLies
import Derived.Deep.Draws
import Derived.RangeFuncNested
import Derived.RangeFuncBound
import Derived.RangeFuncCalls
import Derived.RangeFuncLeaves
import Derived.Shelf.Abstract
import Derived.Shelf.RegionOpen
import Derived.OwnWalkIn
import Derived.TacticsInMore
import Derived.LoopNIn
import Derived.LoopIn
import Derived.StillTailTactics
import Derived.OrdersIn
namespace Go.Proofs.Ytghglgaimhfedaa
open Go.RowKit

/-! ### Encodings of elements as cells -/
def e1 (n : Int) : List Value := [.int .i64 n]
def e2 (p : Int × Int) : List Value := [.int .i64 p.1, .int .i64 p.2]
def e3 (p : Int × Int × Int) : List Value := [.int .i64 p.1, .int .i64 p.2.1, .int .i64 p.2.2]
theorem e1_one (n : Int) : ∀ u ∈ e1 n, u.oneCell' = true := by simp [e1, Value.oneCell']
theorem e2_one (p : Int × Int) : ∀ u ∈ e2 p, u.oneCell' = true := by simp [e2, Value.oneCell']
theorem e3_one (p : Int × Int × Int) : ∀ u ∈ e3 p, u.oneCell' = true := by simp [e3, Value.oneCell']

theorem flat_len {α : Type} (enc : α → List Value) (s : Nat) (hs : ∀ x, (enc x).length = s) (xs : List α) : (xs.flatMap enc).length = xs.length * s := by
  induction xs with
  | nil => simp
  | cons x r ih => simp only [List.flatMap_cons, List.length_append, hs, ih, List.length_cons, Nat.add_mul, Nat.one_mul]; omega
theorem flat_at {α : Type} (enc : α → List Value) (s : Nat) (hs : ∀ x, (enc x).length = s) (xs : List α) : ∀ (i : Nat) (h : i < xs.length) (j : Nat), j < s → (xs.flatMap enc)[i * s + j]? = (enc xs[i])[j]? := by
  induction xs with
  | nil => intro i h; simp at h
  | cons x r ih =>
    intro i h j hj
    rw [List.flatMap_cons]
    match i, h with
    | 0, _ => rw [List.getElem?_append_left (by rw [hs]; omega)]; simp
    | i + 1, h =>
      have hx : (enc x).length = s := hs x
      rw [List.getElem?_append_right (by rw [hx, Nat.add_mul]; omega), hx]
      have := ih i (by simpa using h) j hj
      rw [show (i + 1) * s + j - s = i * s + j from by rw [Nat.add_mul]; omega, this]
      rfl
theorem flat_one {α : Type} (enc : α → List Value) (h1 : ∀ x, ∀ u ∈ enc x, u.oneCell' = true) (xs : List α) : ∀ u ∈ xs.flatMap enc, u.oneCell' = true := by
  intro u hu
  obtain ⟨x, _, hx⟩ := List.mem_flatMap.1 hu
  exact h1 x u hx

/-! ### Small facts about worlds -/
theorem below_alloc1 (w : World) (o : Obj) : Below w.heap.size w (w.alloc o) := (Below.refl _ _).alloc (Nat.le_refl _) o
theorem below_tr {w w1 w2 : World} (h : Below w.heap.size w w1) (k : Below w1.heap.size w1 w2) : Below w.heap.size w w2 := h.trans (k.mono h.size)
theorem below_al {w w1 : World} (h : Below w.heap.size w w1) (o : Obj) : Below w.heap.size w (w1.alloc o) := h.alloc h.size o
theorem below_dr {w w1 : World} (h : Below w.heap.size w w1) : Below w.heap.size w w1.drew := h.drew
theorem below_set {w w1 : World} (h : Below w.heap.size w w1) {p : Addr} (hp : w.heap.size ≤ p.block) (u : Value) : Below w.heap.size w (w1.setCell p u) := h.setCell hp u
theorem below_grownN {w w' : World} (h : Below w.heap.size w w') : w.grownBy w' none := ⟨h.os, h.tape, h.output, h.size, fun k hk _ => h.block k hk⟩
theorem cell_lt {w : World} {a : Addr} {v : Value} (h : w.cell? a = some v) : a.block < w.heap.size := block_lt_of_cell h
theorem bcell {W w1 : World} (hb : Below W.heap.size W w1) : (∀ b o, b < W.heap.size → w1.cell? ⟨b, o, none⟩ = W.cell? ⟨b, o, none⟩) ∧ (∀ b o, b < W.heap.size → w1.frozen? ⟨b, o, none⟩ = W.frozen? ⟨b, o, none⟩) ∧ W.heap.size ≤ w1.heap.size :=
  ⟨fun b o h => hb.cell (p := ⟨b, o, none⟩) h, fun b o h => hb.frozen (p := ⟨b, o, none⟩) h, hb.size⟩
/-- The cells of a block that has just been laid. -/
theorem cells_new (w : World) (cs : List Value) (t : TypeId) : ∀ j u, cs[j]? = some u → (w.alloc (.cells cs.toArray t)).cell? ((⟨w.heap.size, 0, none⟩ : Addr).add j) = some u := by
  intro j u hj
  have hb : (w.alloc (.cells cs.toArray t)).heap[w.heap.size]? = some (.cells cs.toArray t) := heap_alloc_new w _
  rw [Go.WideShapes.add_plain, cell_of_row _ _ _ _ _ _ hb]
  simpa using hj

theorem ret_bool {a b : Bool} (h : a = b) : Ending.returned (.bool a) = .returned (.bool b) := by rw [h]
theorem ret_int {a b : Int} (h : a = b) : Ending.returned (.int .i64 a) = .returned (.int .i64 b) := by rw [h]
theorem ret_ints {a b c d : Int} (h : a = c) (k : b = d) : Ending.returned (.tuple #[.int .i64 a, .int .i64 b]) = .returned (.tuple #[.int .i64 c, .int .i64 d]) := by rw [h, k]

/-! ### A slice that reads as a list -/
/-- In the world w the value v is a slice whose elements read as xs: each element takes s cells, as enc says. -/
def Sl {α : Type} (enc : α → List Value) (s : Nat) (w : World) (v : Value) (xs : List α) : Prop :=
  ∃ A c, v = .slice A xs.length c ∧ xs.length ≤ c ∧
    (xs ≠ [] → ∃ b off, A = some ⟨b, off, none⟩ ∧ b < w.heap.size ∧ ∀ (i : Nat) (h : i < xs.length) (j : Nat), j < s → w.cell? ⟨b, off + i * s + j, none⟩ = (enc xs[i])[j]?)

section
variable {α : Type} {enc : α → List Value} {s : Nat} {w w' : World} {v : Value} {xs : List α}
theorem Sl.form (h : Sl enc s w v xs) : ∃ A c, v = .slice A xs.length c ∧ xs.length ≤ c := by
  obtain ⟨A, c, h1, h2, _⟩ := h
  exact ⟨A, c, h1, h2⟩
theorem Sl.nil (enc : α → List Value) (s : Nat) (w : World) : Sl enc s w (.slice none 0 0) [] := ⟨none, 0, rfl, Nat.le_refl _, fun h => absurd rfl h⟩
theorem Sl.keep (h : Sl enc s w v xs) (hs : w.heap.size ≤ w'.heap.size) (hk : ∀ p : Addr, p.block < w.heap.size → w'.cell? p = w.cell? p) : Sl enc s w' v xs := by
  obtain ⟨A, c, h1, h2, h3⟩ := h
  refine ⟨A, c, h1, h2, fun hx => ?_⟩
  obtain ⟨b, off, hA, hb, hc⟩ := h3 hx
  exact ⟨b, off, hA, by omega, fun i hi j hj => (hk ⟨b, off + i * s + j, none⟩ hb).trans (hc i hi j hj)⟩
theorem Sl.below (h : Sl enc s w v xs) (hb : Below w.heap.size w w') : Sl enc s w' v xs := h.keep hb.size fun _ hp => hb.cell hp
theorem Sl.alloc (h : Sl enc s w v xs) (o : Obj) : Sl enc s (w.alloc o) v xs := h.below (below_alloc1 w o)
theorem Sl.drew (h : Sl enc s w v xs) : Sl enc s w.drew v xs := h
theorem Sl.drewN (h : Sl enc s w v xs) (k : Nat) : Sl enc s (w.drewN k) v xs := h
theorem Sl.raw {A : Option Addr} {n c : Nat} (h : Sl enc s w (.slice A n c) xs) {k : Nat} (hk : k < xs.length) :
    ∃ b off, A = some ⟨b, off, none⟩ ∧ b < w.heap.size ∧ ∀ j, j < s → w.cell? ⟨b, off + k * s + j, none⟩ = (enc xs[k])[j]? := by
  obtain ⟨A', c', h1, _, h3⟩ := h
  injection h1 with hA _ _
  subst hA
  obtain ⟨b, off, h4, h5, h6⟩ := h3 (by intro e; rw [e] at hk; simp at hk)
  exact ⟨b, off, h4, h5, fun j hj => h6 k hk j hj⟩
end
theorem Sl.at1 {w : World} {A : Option Addr} {n c : Nat} {xs : List Int} (h : Sl e1 1 w (.slice A n c) xs) {k : Nat} (hk : k < xs.length) :
    ∃ b off, A = some ⟨b, off, none⟩ ∧ b < w.heap.size ∧ w.cell? ⟨b, off + k, none⟩ = some (.int .i64 xs[k]) := by
  obtain ⟨b, off, h1, h2, h3⟩ := h.raw hk
  exact ⟨b, off, h1, h2, by simpa [e1] using h3 0 (by omega)⟩
theorem Sl.at2 {w : World} {A : Option Addr} {n c : Nat} {xs : List (Int × Int)} (h : Sl e2 2 w (.slice A n c) xs) {k : Nat} (hk : k < xs.length) :
    ∃ b off, A = some ⟨b, off, none⟩ ∧ b < w.heap.size ∧ w.cell? ⟨b, off + k * 2, none⟩ = some (.int .i64 xs[k].1) ∧ w.cell? ⟨b, off + k * 2 + 1, none⟩ = some (.int .i64 xs[k].2) := by
  obtain ⟨b, off, h1, h2, h3⟩ := h.raw hk
  exact ⟨b, off, h1, h2, by simpa [e2] using h3 0 (by omega), by simpa [e2] using h3 1 (by omega)⟩
theorem Sl.at3 {w : World} {A : Option Addr} {n c : Nat} {xs : List (Int × Int × Int)} (h : Sl e3 3 w (.slice A n c) xs) {k : Nat} (hk : k < xs.length) :
    ∃ b off, A = some ⟨b, off, none⟩ ∧ b < w.heap.size ∧ w.cell? ⟨b, off + k * 3, none⟩ = some (.int .i64 xs[k].1) ∧ w.cell? ⟨b, off + k * 3 + 1, none⟩ = some (.int .i64 xs[k].2.1) ∧
      w.cell? ⟨b, off + k * 3 + 2, none⟩ = some (.int .i64 xs[k].2.2) := by
  obtain ⟨b, off, h1, h2, h3⟩ := h.raw hk
  exact ⟨b, off, h1, h2, by simpa [e3] using h3 0 (by omega), by simpa [e3] using h3 1 (by omega), by simpa [e3] using h3 2 (by omega)⟩

/-! ### A row of the call's own -/
/-- v owns, in new memory from block 'base' on, the elements xs. -/
def Ow {α : Type} (enc : α → List Value) (s : Nat) (e : TypeId) (base : Nat) (w : World) (v : Value) (xs : List α) : Prop := w.ownsRow base e s v xs.length (xs.flatMap enc)

section
variable {α : Type} {enc : α → List Value} {s : Nat} {e : TypeId} {base : Nat} {w w' : World} {v : Value} {xs : List α}
theorem Ow.nil (enc : α → List Value) (s : Nat) (e : TypeId) (base : Nat) (w : World) : Ow enc s e base w (.slice none 0 0) [] := World.ownsRow_nil w base e s
theorem Ow.own (h : Ow enc s e base w v xs) : w.ownsRow base e s v xs.length (xs.flatMap enc) := h
theorem Ow.alloc (h : Ow enc s e base w v xs) (o : Obj) : Ow enc s e base (w.alloc o) v xs := World.ownsRow.alloc h o
theorem Ow.drew (h : Ow enc s e base w v xs) : Ow enc s e base w.drew v xs := h
theorem Ow.drewN (h : Ow enc s e base w v xs) (k : Nat) : Ow enc s e base (w.drewN k) v xs := h
theorem Ow.below (h : Ow enc s e base w v xs) (hb : Below w.heap.size w w') : Ow enc s e base w' v xs := World.ownsRow.kept h (below_grownN hb) (by
  cases hv : v.ownBlock with
  | none => exact .inl rfl
  | some g => exact .inr (by simp))
theorem Ow.less {base' : Nat} (h : Ow enc s e base w v xs) (hb : base' ≤ base) : Ow enc s e base' w v xs := by
  obtain ⟨h1, h2⟩ := h
  refine ⟨h1, ?_⟩
  rcases h2 with h2 | ⟨g, cap, cur, a, b, c⟩
  · exact .inl h2
  · exact .inr ⟨g, cap, cur, a, by omega, c⟩
theorem Ow.sl (h : Ow enc s e base w v xs) (hs : ∀ x, (enc x).length = s) : Sl enc s w v xs := by
  rcases h.2 with ⟨rfl, hn⟩ | ⟨g, cap, cur, rfl, hb, hh, hnc, _, hsz, htk⟩
  · have : xs = [] := List.eq_nil_of_length_eq_zero hn
    subst this
    exact Sl.nil _ _ _
  · refine ⟨_, _, rfl, hnc, fun _ => ⟨g, 0, rfl, ?_, fun i hi j hj => ?_⟩⟩
    · rcases Nat.lt_or_ge g w.heap.size with hlt | hge
      · exact hlt
      · rw [Array.getElem?_eq_none hge] at hh; cases hh
    · have hij : i * s + j < xs.length * s := by
        have : (i + 1) * s ≤ xs.length * s := Nat.mul_le_mul_right s hi
        rw [Nat.add_mul] at this
        omega
      rw [cell_of_row w g _ cur e (0, 0) hh, ← flat_at enc s hs xs i hi j hj, ← htk, List.getElem?_take, if_pos hij, Array.getElem?_toList]
      simp
theorem Ow.snoc {x : α} (h : w.ownsRow base e s v (xs.length + 1) (xs.flatMap enc ++ enc x)) : Ow enc s e base w v (xs ++ [x]) := by
  unfold Ow; simpa using h
theorem Ow.more {ys : List α} (h : w.ownsRow base e s v (xs.length + ys.length) (xs.flatMap enc ++ ys.flatMap enc)) : Ow enc s e base w v (xs ++ ys) := by
  unfold Ow; simpa using h
/-- What an append to a row of the call's own leaves below. -/
theorem Ow.grown {w0 : World} (h : Ow enc s e base w v xs) (hg : w.grownBy w' v.ownBlock) (hb : Below w0.heap.size w0 w) (hbase : w0.heap.size ≤ base) : Below w0.heap.size w0 w' :=
  hb.grown hg hb.size (fun k hk => by have := (World.ownsRow.lt h k hk).1; omega)
theorem Ow.lit (w : World) (cs : Array Value) (xs : List α) (hb : base ≤ w.heap.size) (hm : xs.length ≤ 1000000) (hs : cs.size = xs.length * s) (hc : cs.toList = xs.flatMap enc) :
    Ow enc s e base (w.alloc (.cells cs e)) (.slice (some ⟨w.heap.size, 0, none⟩) xs.length xs.length) xs := by
  have h := World.ownsRow_lit (e := e) w cs xs.length hb (by simp only [maxLen]; omega) hs
  unfold Ow
  rw [← hc]
  exact h
end
theorem e1_len (x : Int) : (e1 x).length = 1 := rfl
theorem e2_len (x : Int × Int) : (e2 x).length = 2 := rfl
theorem e3_len (x : Int × Int × Int) : (e3 x).length = 3 := rfl

/-! ### append onto a row of the call's own, of a slice that reads as a list -/
section
variable {P : Program} {α : Type} {enc : α → List Value}
theorem run_append_of_nil (w : World) (base : Nat) (t ty e : TypeId) (i : TypeInfo) (size : Nat) (ht : P.underlying t = some (.slice e)) (hi : P.info? e = some i)
    (v : Value) (n : Nat) (xs : List Value) (hown : w.ownsRow base e size v n xs) (c : Nat) : (Builtin.append_ #[t, t] ty #[v, .slice none 0 c]).run P w = .ok v w := by
  rcases hown.2 with ⟨rfl, rfl⟩ | ⟨g, cap, cur, rfl, _, _, hnc, _⟩
  · simp [Builtin.append_, run_underlying ht, sizeOf, typeInfo, hi, Builtin.lenOf, Builtin.firstCells]
  · simp [Builtin.append_, run_underlying ht, sizeOf, typeInfo, hi, Builtin.lenOf, Builtin.firstCells, hnc, storeCells]

theorem run_append_sl (w : World) (base : Nat) (t ty e : TypeId) (i : TypeInfo) (z : Value) (size bytes : Nat) (ht : P.underlying t = some (.slice e)) (hi : P.info? e = some i) (hz : i.zero = some z)
    (hsize : i.size = size) (hby : i.bytes = bytes) (hzs : z.cells.size = size) (hsz : 0 < size) (hs : ∀ x, (enc x).length = size) (h1 : ∀ x, ∀ u ∈ enc x, u.oneCell' = true)
    (v : Value) (xs : List α) (hown : Ow enc size e base w v xs) (A : Option Addr) (m c : Nat) (ys : List α) (hr : Sl enc size w (.slice A m c) ys)
    (hbig : (xs.length + ys.length) * bytes ≤ 140737488355328) (hbytes : 0 < bytes) (hbase : base ≤ w.heap.size) :
    ∃ v' w', (Builtin.append_ #[t, t] ty #[v, .slice A m c]).run P w = .ok v' w' ∧ Ow enc size e base w' v' (xs ++ ys) ∧ w.grownBy w' v.ownBlock := by
  have hle : xs.length + ys.length ≤ 140737488355328 := Nat.le_trans (Nat.le_mul_of_pos_right _ hbytes) hbig
  have hm : m = ys.length := by
    obtain ⟨A', c', e, _⟩ := hr.form
    injection e
  by_cases h0 : ys = []
  · subst h0
    simp at hm
    subst hm
    rcases A with _ | ad
    · exact ⟨v, w, run_append_of_nil w base t ty e i size ht hi v _ _ hown c, by simpa using hown, World.grownBy.refl w _⟩
    · obtain ⟨v', w', hrun, h2, h3, _, _⟩ := run_append_own_at (P := P) w base t ty e i z size bytes ht hi hz hsize hby hzs hsz v _ _ hown ad 0 c [] (by simp) (by intro j u hu; simp at hu) (by simp) (by simp only [maxLen]; omega) (by simpa using hbig) hbase
      exact ⟨v', w', hrun, by unfold Ow; simpa using h2, h3⟩
  · have hpos : 0 < ys.length := List.length_pos_iff.2 h0
    obtain ⟨b, off, hA, hb, _⟩ := hr.raw (k := 0) hpos
    subst hA
    subst hm
    obtain ⟨v', w', hrun, h2, h3, _, _⟩ := run_append_own_at (P := P) w base t ty e i z size bytes ht hi hz hsize hby hzs hsz v _ _ hown ⟨b, off, none⟩ ys.length c (ys.flatMap enc) (flat_len enc size hs ys) (by
      intro j u hu
      have hj : j < ys.length * size := by
        have := (List.getElem?_eq_some_iff.1 hu).1
        rwa [flat_len enc size hs] at this
      have hdiv : j / size < ys.length := Nat.div_lt_of_lt_mul (by rwa [Nat.mul_comm] at hj)
      have hmod : j % size < size := Nat.mod_lt _ hsz
      obtain ⟨b', off', e', _, hc⟩ := hr.raw hdiv
      injection e' with e'
      injection e' with e1' e2'
      subst e1'; subst e2'
      have h := hc _ hmod
      rw [← flat_at enc size hs ys _ hdiv _ hmod, Nat.add_assoc, Nat.mul_comm (j / size), Nat.div_add_mod] at h
      rw [Go.WideShapes.add_plain, h, hu]) (flat_one enc h1 ys) (by simp only [maxLen]; omega) hbig hbase
    exact ⟨v', w', hrun, Ow.more h2, h3⟩

theorem wp_append_sl (w : World) {o : Oper} {a : Act} {K : Act → World → Prop} {Q : Exit → Act → World → Prop} (s x : Operand) (t : TypeId)
    (ho : o.op = .call { callee := .builtin .append, args := #[s, x], argTypes := #[t, t] })
    (base : Nat) (e : TypeId) (i : TypeInfo) (z : Value) (size bytes : Nat) (ht : P.underlying t = some (.slice e)) (hi : P.info? e = some i) (hz : i.zero = some z)
    (hsize : i.size = size) (hby : i.bytes = bytes) (hzs : z.cells.size = size) (hsz : 0 < size) (hss : ∀ x, (enc x).length = size) (h1 : ∀ x, ∀ u ∈ enc x, u.oneCell' = true)
    (v : Value) (xs : List α) (hs : a.eval s = v) (hown : Ow enc size e base w v xs) (A : Option Addr) (m c : Nat) (ys : List α) (hx : a.eval x = .slice A m c) (hr : Sl enc size w (.slice A m c) ys)
    (hbig : (xs.length + ys.length) * bytes ≤ 140737488355328) (hbytes : 0 < bytes) (hbase : base ≤ w.heap.size)
    (h : ∀ v' w', Ow enc size e base w' v' (xs ++ ys) → w.grownBy w' v.ownBlock → K (a.put o.dst v') w') : o.wp P a w K Q := by
  obtain ⟨v', w', hrun, h2, h3⟩ := run_append_sl (P := P) w base t o.type e i z size bytes ht hi hz hsize hby hzs hsz hss h1 v xs hown A m c ys hr hbig hbytes hbase
  unfold Oper.wp execOp
  simp only [ho, resolve, invoke, builtin, Sem.run_bind, Sem.run_pure, Result.andThen_ok, List.map_toArray, List.map_cons, List.map_nil, hs, hx, hrun]
  exact h v' w' h2 h3

/-- 'append(v, y...)': v a row of the call's own, y whatever reads as a list. -/
theorem wpList_append_sl (w : World) {ops : Array Oper} {rest : List Oper} {o : Oper} {a : Act} {Q : Exit → Act → World → Prop} (hgd : o.guard = none) (s x : Operand) (t : TypeId)
    (ho : o.op = .call { callee := .builtin .append, args := #[s, x], argTypes := #[t, t] })
    (base : Nat) (e : TypeId) (i : TypeInfo) (z : Value) (size bytes : Nat) (ht : P.underlying t = some (.slice e)) (hi : P.info? e = some i) (hz : i.zero = some z)
    (hsize : i.size = size) (hby : i.bytes = bytes) (hzs : z.cells.size = size) (hsz : 0 < size) (hss : ∀ x, (enc x).length = size) (h1 : ∀ x, ∀ u ∈ enc x, u.oneCell' = true)
    (v : Value) (xs : List α) (hs : a.eval s = v) (hown : Ow enc size e base w v xs) (A : Option Addr) (m c : Nat) (ys : List α) (hx : a.eval x = .slice A m c) (hr : Sl enc size w (.slice A m c) ys)
    (hbig : (xs.length + ys.length) * bytes ≤ 140737488355328) (hbytes : 0 < bytes) (hbase : base ≤ w.heap.size)
    (h : ∀ v' w', Ow enc size e base w' v' (xs ++ ys) → w.grownBy w' v.ownBlock → wpList P ops Q rest (a.put o.dst v') w') : wpList P ops Q (o :: rest) a w :=
  wpList_plain hgd fun _ hK => wp_append_sl w s x t ho base e i z size bytes ht hi hz hsize hby hzs hsz hss h1 v xs hs hown A m c ys hx hr hbig hbytes hbase fun v' w' h2 h3 => hK _ _ (h v' w' h2 h3)

/-- The same where the operation stands in a region that draws its order. -/
theorem step_append_sl (w : World) {ops : Array Oper} {o : Oper} {a : Act} {K : Act → World → Prop} {Q : Exit → Act → World → Prop} {E : Prop} (hgd : o.guard = none) (s x : Operand) (t : TypeId)
    (ho : o.op = .call { callee := .builtin .append, args := #[s, x], argTypes := #[t, t] })
    (base : Nat) (e : TypeId) (i : TypeInfo) (z : Value) (size bytes : Nat) (ht : P.underlying t = some (.slice e)) (hi : P.info? e = some i) (hz : i.zero = some z)
    (hsize : i.size = size) (hby : i.bytes = bytes) (hzs : z.cells.size = size) (hsz : 0 < size) (hss : ∀ x, (enc x).length = size) (h1 : ∀ x, ∀ u ∈ enc x, u.oneCell' = true)
    (v : Value) (xs : List α) (hs : a.eval s = v) (hown : Ow enc size e base w v xs) (A : Option Addr) (m c : Nat) (ys : List α) (hx : a.eval x = .slice A m c) (hr : Sl enc size w (.slice A m c) ys)
    (hbig : (xs.length + ys.length) * bytes ≤ 140737488355328) (hbytes : 0 < bytes) (hbase : base ≤ w.heap.size)
    (h : ∀ v' w', Ow enc size e base w' v' (xs ++ ys) → w.grownBy w' v.ownBlock → K (a.put o.dst v') w') :
    if Region.wanted o (yielded ops a.tmps) = true then Oper.wp P o a w K Q else E := by
  have hw : Region.wanted o (yielded ops a.tmps) = true := by simp [Region.wanted, hgd]
  rw [if_pos hw]
  exact wp_append_sl w s x t ho base e i z size bytes ht hi hz hsize hby hzs hsz hss h1 v xs hs hown A m c ys hx hr hbig hbytes hbase h
end
end Go.Proofs.Ytghglgaimhfedaa

namespace Go.Proofs.Ytghglgaimhfedaa
open Go.RowKit Go.Shelf

theorem wide_fn (k : FuncId) : (Fence.wide.fn k) = True := eq_true trivial
theorem wide_depth : Fence.wide.depth = none := rfl
theorem round_fn (l k : Nat) : ((Fence.wide.inRound l).fn k) = True := eq_true trivial
theorem round_depth (l : Nat) : (Fence.wide.inRound l).depth = none := rfl
/-- A contract, at the wide fence, and in a round. -/
theorem atWide {P : Program} {f : FuncId} {args : Array Value} {w : World} {R : Ending → World → Prop} (h : Calls P f args w R) : CallsIn Fence.wide 0 P f args w R := callsIn_wide.2 h
theorem inRnd {P : Program} {f : FuncId} {args : Array Value} {w : World} {R : Ending → World → Prop} (l : Nat) (h : Calls P f args w R) : CallsIn (Fence.wide.inRound l) 0 P f args w R := CallsIn.inRound l (callsIn_wide.2 h)
/-- The blocks of the set S lie as they lay. -/
structure Kpt (S : Nat → Prop) (W W' : World) : Prop where
  size : W.heap.size ≤ W'.heap.size
  block : ∀ k, S k → k < W.heap.size → W'.heap[k]? = W.heap[k]?
theorem Kpt.trans {S : Nat → Prop} {X Y Z : World} (h : Kpt S X Y) (k : Kpt S Y Z) : Kpt S X Z :=
  ⟨Nat.le_trans h.size k.size, fun i hi hx => (k.block i hi (Nat.lt_of_lt_of_le hx h.size)).trans (h.block i hi hx)⟩
theorem Kpt.cell {S : Nat → Prop} {W W' : World} (h : Kpt S W W') {p : Addr} (hp : S p.block) (hl : p.block < W.heap.size) : W'.cell? p = W.cell? p := World.cell?_of_block (h.block _ hp hl)
theorem Kpt.frozen {S : Nat → Prop} {W W' : World} (h : Kpt S W W') {p : Addr} (hp : S p.block) (hl : p.block < W.heap.size) : W'.frozen? p = W.frozen? p := World.frozen?_of_block (h.block _ hp hl)
/-- What a round of a loop that began at heap size N keeps: the blocks of S, and every block from N on that is no cells. -/
structure Kep (N : Nat) (S : Nat → Prop) (W W' : World) : Prop where
  kpt : Kpt S W W'
  same : ∀ (k : Nat) (o : Obj), N ≤ k → W.heap[k]? = some o → o.isCells = false → W'.heap[k]? = some o
theorem Kep.refl (N : Nat) (S : Nat → Prop) (W : World) : Kep N S W W := ⟨⟨Nat.le_refl _, fun _ _ _ => rfl⟩, fun _ _ _ h _ => h⟩
theorem Kep.trans {N : Nat} {S : Nat → Prop} {X Y Z : World} (h : Kep N S X Y) (k : Kep N S Y Z) : Kep N S X Z := ⟨h.kpt.trans k.kpt, fun i o hi h1 h2 => k.same i o hi (h.same i o hi h1 h2) h2⟩
theorem heap_lt {W : World} {k : Nat} {o : Obj} (h : W.heap[k]? = some o) : k < W.heap.size := (Array.getElem?_eq_some_iff.1 h).1
theorem Kep.alloc {N : Nat} {S : Nat → Prop} {X Y : World} (h : Kep N S X Y) (o : Obj) : Kep N S X (Y.alloc o) :=
  ⟨⟨Nat.le_trans h.kpt.size (by simp), fun i hi hx => (Below.heap_alloc Y o i (Nat.lt_of_lt_of_le hx h.kpt.size)).trans (h.kpt.block i hi hx)⟩,
   fun i o' hi h1 h2 => by have := h.same i o' hi h1 h2; exact (Below.heap_alloc Y o i (heap_lt this)).trans this⟩
theorem Kep.drew {N : Nat} {S : Nat → Prop} {X Y : World} (h : Kep N S X Y) : Kep N S X Y.drew := ⟨⟨h.kpt.size, h.kpt.block⟩, h.same⟩
theorem Kep.drewN {N : Nat} {S : Nat → Prop} {X Y : World} (h : Kep N S X Y) (n : Nat) : Kep N S X (Y.drewN n) := ⟨⟨h.kpt.size, h.kpt.block⟩, h.same⟩
theorem Kep.call {N : Nat} {S : Nat → Prop} {X Y Z : World} (h : Kep N S X Y) (k : Below Y.heap.size Y Z) : Kep N S X Z :=
  ⟨⟨Nat.le_trans h.kpt.size k.size, fun i hi hx => (k.block i (Nat.lt_of_lt_of_le hx h.kpt.size)).trans (h.kpt.block i hi hx)⟩,
   fun i o hi h1 h2 => by have := h.same i o hi h1 h2; exact (k.block i (heap_lt this)).trans this⟩
theorem Kep.setCell {N : Nat} {S : Nat → Prop} {X Y : World} (h : Kep N S X Y) {p : Addr} (hp : ¬ S p.block) (u : Value) : Kep N S X (Y.setCell p u) :=
  ⟨⟨by simpa [World.setCell] using h.kpt.size, fun i hi hx => (Below.heap_setCell Y p u i (by rintro rfl; exact hp hi)).trans (h.kpt.block i hi hx)⟩,
   fun i o hi h1 h2 => (KeepsOthers.setCell Y p u).same i o (h.same i o hi h1 h2) h2⟩
theorem Kep.grown {N : Nat} {S : Nat → Prop} {X Y Z : World} (h : Kep N S X Y) {row : Option Nat} (hg : Y.grownBy Z row) (hr : ∀ k, row = some k → ¬ S k ∧ ∀ o : Obj, Y.heap[k]? = some o → o.isCells = true) : Kep N S X Z :=
  ⟨⟨Nat.le_trans h.kpt.size hg.size, fun i hi hx => (hg.block i (Nat.lt_of_lt_of_le hx h.kpt.size) (fun e => (hr i e.symm).1 hi)).trans (h.kpt.block i hi hx)⟩,
   fun i o hi h1 h2 => (KeepsOthers.of_grownBy hg (fun j o' e ho => (hr j e).2 o' ho)).same i o (h.same i o hi h1 h2) h2⟩

/-- W' is W with one block turned that is no cells and lies from N on. -/
def Turn (N : Nat) (W W' : World) : Prop := ∃ l o o', N ≤ l ∧ W.heap[l]? = some o ∧ o.isCells = false ∧ o'.isCells = false ∧ W' = W.putObj l o'
theorem Turn.kept {N : Nat} {W W' : World} (h : Turn N W W') : ∃ l, N ≤ l ∧ W.grownBy W' (some l) ∧ ∃ o : Obj, W.heap[l]? = some o ∧ o.isCells = false := by
  obtain ⟨l, o, o', h1, h2, h3, _, rfl⟩ := h
  exact ⟨l, h1, grownBy_putObj' W l o', o, h2, h3⟩
theorem Turn.own {β : Type} {N : Nat} {W W' : World} (h : Turn N W W') {I : β → World → Prop} (hI : OwnFrom N I) {s : β} (hs : I s W) : I s W' := by
  obtain ⟨l, h1, hg, o, h2, h3⟩ := h.kept
  exact hI s W W' (some l) hs hg (fun r e => by cases e; exact ⟨h1, o, h2, h3⟩)
theorem Turn.size {N : Nat} {W W' : World} (h : Turn N W W') : W'.heap.size = W.heap.size := by
  obtain ⟨l, o, o', h1, h2, h3, _, rfl⟩ := h
  simp [World.putObj]
theorem Turn.other {N : Nat} {W W' : World} (h : Turn N W W') {k : Nat} {c : Array Value} {t : TypeId} {f : Nat × Nat} (hk : W.heap[k]? = some (.cells c t f)) : W'.heap[k]? = some (.cells c t f) := by
  obtain ⟨l, o, o', h1, h2, h3, _, rfl⟩ := h
  have hne : k ≠ l := by rintro rfl; rw [hk] at h2; cases h2; exact absurd h3 (by simp [Obj.isCells])
  exact (World.putObj_heap_other hne).trans hk
theorem Turn.cell {N : Nat} {W W' : World} (h : Turn N W W') (p : Addr) : W'.cell? p = W.cell? p := by
  obtain ⟨l, o, o', h1, h2, h3, h4, rfl⟩ := h
  by_cases e : p.block = l
  · have hw : (W.putObj l o').heap[p.block]? = some o' := by rw [e]; exact World.putObj_heap_same (heap_lt h2)
    rw [← e] at h2
    unfold World.cell?
    rw [hw, h2]
    cases o <;> cases o' <;> first | rfl | (simp [Obj.isCells] at h3; done) | (simp [Obj.isCells] at h4; done)
  · exact World.cell?_of_block (World.putObj_heap_other e)
theorem Turn.frozen {N : Nat} {W W' : World} (h : Turn N W W') (p : Addr) : W'.frozen? p = W.frozen? p := by
  obtain ⟨l, o, o', h1, h2, h3, h4, rfl⟩ := h
  by_cases e : p.block = l
  · have hw : (W.putObj l o').heap[p.block]? = some o' := by rw [e]; exact World.putObj_heap_same (heap_lt h2)
    rw [← e] at h2
    unfold World.frozen?
    rw [hw, h2]
    cases o <;> cases o' <;> first | rfl | (simp [Obj.isCells] at h3; done) | (simp [Obj.isCells] at h4; done)
  · exact World.frozen?_of_block (World.putObj_heap_other e)
theorem Turn.below {N B : Nat} {W W' : World} (h : Turn N W W') (hB : B ≤ N) : Below B W W' := by
  obtain ⟨l, h1, hg, o, h2, h3⟩ := h.kept
  have := heap_lt h2
  exact (Below.refl B W).grown hg (by omega) (fun k e => by cases e; omega)
theorem Turn.kpt {N : Nat} {S : Nat → Prop} {W W' : World} (h : Turn N W W') (hS : ∀ k, S k → k < N) : Kpt S W W' :=
  ⟨Nat.le_of_eq h.size.symm, fun k hk hx => by
    obtain ⟨l, h1, hg, o, h2, h3⟩ := h.kept
    exact hg.block k hx (fun e => by cases e; have := hS _ hk; omega)⟩
theorem Turn.mono {N N' : Nat} {W W' : World} (h : Turn N W W') (hN : N' ≤ N) : Turn N' W W' := by
  obtain ⟨l, o, o', h1, r⟩ := h
  exact ⟨l, o, o', Nat.le_trans hN h1, r⟩

/-- The cell at p holds v, and may be written. -/
def At (W : World) (p : Addr) (v : Value) : Prop := W.cell? p = some v ∧ W.frozen? p = false
theorem At.lt {W : World} {p : Addr} {v : Value} (h : At W p v) : p.block < W.heap.size := cell_lt h.1
theorem At.below {W W' : World} {p : Addr} {v : Value} (h : At W p v) (hb : Below W.heap.size W W') : At W' p v := ⟨(hb.cell h.lt).trans h.1, (hb.frozen h.lt).trans h.2⟩
theorem At.turn {N : Nat} {W W' : World} {p : Addr} {v : Value} (h : At W p v) (hb : Turn N W W') : At W' p v := ⟨(hb.cell p).trans h.1, (hb.frozen p).trans h.2⟩
theorem At.drew {W : World} {p : Addr} {v : Value} (h : At W p v) : At W.drew p v := h
theorem At.other {W : World} {p q : Addr} {v u : Value} (h : At W p v) (hne : p ≠ q) : At (W.setCell q u) p v := ⟨(World.cell?_setCell_other W q p u (Ne.symm hne)).trans h.1, by rw [World.frozen?_setCell]; exact h.2⟩
theorem At.set {W : World} {p : Addr} {v u : Value} (h : At W p v) : At (W.setCell p u) p u := ⟨World.cell?_setCell_same' _ _ _ (by rw [h.1]; rfl), by rw [World.frozen?_setCell]; exact h.2⟩
theorem At.new (W : World) (cs : Array Value) (t : TypeId) (j : Nat) (v : Value) (h : cs[j]? = some v) : At (W.alloc (.cells cs t)) ⟨W.heap.size, j, none⟩ v := by
  have hb : (W.alloc (.cells cs t)).heap[W.heap.size]? = some (.cells cs t (0, 0)) := heap_alloc_new W _
  exact ⟨by rw [cell_of_row _ _ _ _ _ _ hb]; exact h, frozen_of_row _ _ _ _ _ hb⟩
theorem box2 (W : World) (cs ds : Array Value) (t u : TypeId) : (∀ (j : Nat) (v : Value), cs[j]? = some v → At ((W.alloc (.cells cs t)).alloc (.cells ds u)) ⟨W.heap.size, j, none⟩ v) ∧
    (∀ (j : Nat) (v : Value), ds[j]? = some v → At ((W.alloc (.cells cs t)).alloc (.cells ds u)) ⟨W.heap.size + 1, j, none⟩ v) :=
  ⟨fun j v h => (At.new W cs t j v h).below (below_alloc1 _ _), fun j v h => by have := At.new (W.alloc (.cells cs t)) ds u j v h; rwa [World.size_alloc] at this⟩
theorem At.al {W : World} {p : Addr} {v : Value} (h : At W p v) (o : Obj) : At (W.alloc o) p v := h.below (below_alloc1 _ _)
theorem At.put {W : World} {p : Addr} {v : Value} {D : Nat} {o o' : Obj} (h : At W p v) (hD : W.heap[D]? = some o) (ho : o.isCells = false) (ho' : o'.isCells = false) : At (W.putObj D o') p v :=
  h.turn (N := D) ⟨D, o, o', Nat.le_refl _, hD, ho, ho', rfl⟩
theorem own_at {β : Type} (B : Nat) (p : Addr) (f : β → Value) : OwnFrom B (fun s W => At W p (f s)) :=
  fun s W W' row hs hg hr => by
    have hne : some p.block ≠ row := fun e => by
      obtain ⟨_, o, ho, hc⟩ := hr _ e.symm
      have := hs.1
      unfold World.cell? at this
      rw [ho] at this
      cases o <;> simp [Obj.isCells] at hc <;> simp at this
    exact ⟨hg.cell hs.1 hne, (World.frozen?_of_block (hg.block _ hs.lt hne)).trans hs.2⟩
theorem own_sl {β α : Type} (B : Nat) (enc : α → List Value) (s : Nat) (hss : ∀ x, (enc x).length = s) (v : Value) (xs : List α) : OwnFrom B (fun (_ : β) W => Sl enc s W v xs) :=
  fun _ W W' row hs hg hr => by
    obtain ⟨A, c, h1, h2, h3⟩ := hs
    refine ⟨A, c, h1, h2, fun hx => ?_⟩
    obtain ⟨b, off, hA, hb, hc⟩ := h3 hx
    refine ⟨b, off, hA, Nat.lt_of_lt_of_le hb hg.size, fun i hi j hj => ?_⟩
    have hj' : j < (enc xs[i]).length := by rw [hss]; exact hj
    have h0 : W.cell? ⟨b, off + i * s + j, none⟩ = some ((enc xs[i])[j]) := (hc i hi j hj).trans (List.getElem?_eq_getElem hj')
    refine (hg.cell h0 (fun hne => ?_)).trans (List.getElem?_eq_getElem hj').symm
    obtain ⟨_, o, ho, hco⟩ := hr _ hne.symm
    unfold World.cell? at h0
    rw [ho] at h0
    cases o <;> simp [Obj.isCells] at hco <;> simp at h0
theorem own_ow {β α : Type} (B : Nat) (enc : α → List Value) (s : Nat) (e : TypeId) (base : Nat) (v : β → Value) (xs : β → List α) : OwnFrom B (fun b W => Ow enc s e base W (v b) (xs b)) :=
  fun b W W' row hs hg hr => World.ownsRow.kept hs hg (by
    cases hv : (v b).ownBlock with
    | none => exact .inl rfl
    | some g =>
      refine .inr fun e => ?_
      obtain ⟨_, o, ho, hc⟩ := hr _ e.symm
      rcases hs.2 with ⟨h1, _⟩ | ⟨g', cap, cur, h1, _, hh, _⟩
      · rw [h1] at hv; simp [Value.ownBlock] at hv
      · rw [h1] at hv
        simp only [Value.ownBlock, Option.some.injEq] at hv
        rw [hv, ho] at hh
        cases hh
        simp [Obj.isCells] at hc)
theorem Sl.blk {α : Type} {enc : α → List Value} {s : Nat} {w : World} {v : Value} {xs : List α} (h : Sl enc s w v xs) (hx : 0 < xs.length) : ∀ b, v.ownBlock = some b → b < w.heap.size := by
  obtain ⟨A, c, rfl, h2, h3⟩ := h
  obtain ⟨b, off, rfl, hb, _⟩ := h3 (List.length_pos_iff.1 hx)
  intro b' e
  simp only [Value.ownBlock, Option.some.injEq] at e
  omega

theorem below_put {n D : Nat} {w W : World} {o o' : Obj} (h : Below n w W) (hn : n ≤ w.heap.size) (hD : n ≤ D) (_ : W.heap[D]? = some o) : Below n w (W.putObj D o') :=
  h.grown (grownBy_putObj' W D o') (Nat.le_trans hn h.size) (fun k e => by cases e; exact hD)
/-- How yield has answered: it goes on, and the blocks of S are kept; or it is to stop. -/
def YOut {α : Type} (J Jx : List α → World → Prop) (S : Nat → Prop) (pre : List α) (W1 : World) (b : Bool) (W' : World) : Prop := (b = true ∧ J pre W' ∧ Kpt S W1 W') ∨ (b = false ∧ Jx pre W')
theorem yout {F : Fence} {m : Nat} {P : Program} {l : Nat} {fn : FuncId} {tmps : Array Value} {assign body : Code} {W1 : World} {α : Type} {J Jx : List α → World → Prop} {S : Nat → Prop} {pre : List α}
    (h : RoundIn F m P l fn tmps assign body W1 fun e W' => (e = .returned (.bool true) ∧ J pre W' ∧ Kpt S W1 W') ∨ (e = .returned (.bool false) ∧ Jx pre W')) :
    RoundIn F m P l fn tmps assign body W1 fun e W' => ∃ b, e = .returned (.bool b) ∧ YOut J Jx S pre W1 b W' :=
  h.mono fun e W' h => by
    rcases h with ⟨h1, h2⟩ | ⟨h1, h2⟩
    · exact ⟨true, h1, .inl ⟨rfl, h2⟩⟩
    · exact ⟨false, h1, .inr ⟨rfl, h2⟩⟩
/-- THE CONTRACT OF AN ITERATOR THAT YIELDS xs: the blocks of S are kept by each round. -/
def SeqX {α : Type} (P : Program) (g : Nat) (lb : Array Value) (encs : α → Array Value) (S : Nat → Prop) (xs : List α) (w : World) : Prop :=
  ∀ (l : Nat) (J Jx : List α → World → Prop) (W : World), Below w.heap.size w W → OwnFrom W.heap.size J → OwnFrom W.heap.size Jx →
    (∀ pre x W1, (pre ++ [x]) <+: xs → J pre W1 → YieldAt Fence.wide 0 P l (encs x) W1 fun e W' =>
      (e = .returned (.bool true) ∧ J (pre ++ [x]) W' ∧ Kpt S W1 W') ∨ (e = .returned (.bool false) ∧ Jx (pre ++ [x]) W')) →
    J [] W →
    CallsIn Fence.wide 0 P g (#[.func (.yield l) #[] #[]] ++ lb) W fun e W' => (∃ v, e = .returned v) ∧ (J xs W' ∨ ∃ pre, pre <+: xs ∧ Jx pre W')
theorem SeqX.later {α : Type} {P : Program} {g : Nat} {lb : Array Value} {encs : α → Array Value} {S : Nat → Prop} {xs : List α} {w w' : World} (h : SeqX P g lb encs S xs w) (hb : Below w.heap.size w w') : SeqX P g lb encs S xs w' :=
  fun l J Jx W hW hJ hJx hY h0 => h l J Jx W (hb.trans (hW.mono hb.size)) hJ hJx hY h0

theorem own_drew {β : Type} {B : Nat} {I : β → World → Prop} (h : OwnFrom B I) {s : β} {W : World} (hs : I s W) : I s W.drew :=
  h s W W.drew none hs ⟨rfl, rfl, rfl, Nat.le_refl _, fun _ _ _ => rfl⟩ (fun r e => by cases e)
theorem Sl.kpt {α : Type} {enc : α → List Value} {s : Nat} {w w' : World} {v : Value} {xs : List α} {S : Nat → Prop} (h : Sl enc s w v xs) (hk : Kpt S w w') (hv : ∀ b, v.ownBlock = some b → S b) : Sl enc s w' v xs := by
  obtain ⟨A, c, rfl, h2, h3⟩ := h
  refine ⟨A, c, rfl, h2, fun hx => ?_⟩
  obtain ⟨b, off, hA, hb, hc⟩ := h3 hx
  subst hA
  exact ⟨b, off, rfl, Nat.lt_of_lt_of_le hb hk.size, fun i hi j hj => (hk.cell (p := ⟨b, off + i * s + j, none⟩) (hv b rfl) hb).trans (hc i hi j hj)⟩
theorem Sl.turn {α : Type} {enc : α → List Value} {s : Nat} {w w' : World} {v : Value} {xs : List α} {N : Nat} (h : Sl enc s w v xs) (hk : Turn N w w') : Sl enc s w' v xs :=
  h.keep (Nat.le_of_eq hk.size.symm) (fun p _ => hk.cell p)

/-- How the body of a round may be left. -/
def postX {α : Type} (N : Nat) (S : Nat → Prop) (I : List α → World → Prop) (Ix : Code → List α → World → Prop) (xs : List α) (W : World) : Exit → Act → World → Prop
  | .normal, _, W' => Kep N S W W' ∧ I xs W'
  | .ret, _, W' => Kep N S W W' ∧ Ix .ret xs W'
  | .exit id, _, W' => Kep N S W W' ∧ Ix (.exit id) xs W'
  | .goto t, _, W' => Kep N S W W' ∧ Ix (.goto t) xs W'
  | .panic _, _, _ => False
  | .outgrown, _, _ => False

variable {P : Program}
theorem wp_rangeX {α : Type} {g : Operand} {ps : Array Tmp} {assign body : Code} {Q : Exit → Act → World → Prop} {a : Act} {w : World}
    {gf : Nat} {lb : Array Value} (hg : a.eval g = .func (.func gf) #[] lb) (eg : ∀ args w, (callFunc gf args).run P w = .ok (.enter gf args) w)
    {encs : α → Array Value} {S : Nat → Prop} {xs : List α} {w0 : World} (hseq : SeqX P gf lb encs S xs w0) (hb0 : Below w0.heap.size w0 w) (hS : ∀ k, S k → k < w.heap.size) (hps : ∀ x, (encs x).size = ps.size)
    (I : List α → World → Prop) (Ix : Code → List α → World → Prop) (hI : OwnFrom w.heap.size I) (hIx : ∀ c, OwnFrom w.heap.size (Ix c)) (h0 : I [] w)
    (hround : ∀ (l : Nat) (pre : List α) (x : α) (W : World), w.heap.size ≤ l → l < W.heap.size → (pre ++ [x]) <+: xs → I pre W →
      assign.wpIn (Fence.wide.inRound l) 0 P (Exit.then (fun a' W' => Kep w.heap.size S W W' ∧
        ∀ W2, Turn w.heap.size W' W2 → body.wpIn (Fence.wide.inRound l) 0 P (postX w.heap.size S I Ix (pre ++ [x]) W2) a' W2) (fun _ _ _ => False))
        { tmps := (ps.zip (encs x)).foldl (fun t (p, v) => t.setIfInBounds p v) a.tmps, defers := [] } W)
    (hdone : ∀ (D : Nat) (W : World), w.heap.size ≤ D → I xs W → W.heap[D]? = some (.deferred (some [])) → Q .normal { a with defers := { target := .collected D, args := #[] } :: a.defers } W)
    (hstop : ∀ (D : Nat) (c : Code) (pre : List α) (W : World), w.heap.size ≤ D → pre <+: xs → Ix c pre W → W.heap[D]? = some (.deferred (some [])) → c.wpIn Fence.wide 0 P Q { a with defers := { target := .collected D, args := #[] } :: a.defers } W) :
    (Code.rangeFunc g ps assign body).wpIn Fence.wide 0 P Q a w := by
  refine wpIn_rangeFunc fun fn hfn => ?_
  -- the loop's record in each of its states
  let R : LoopState → Option Code → Loop := fun st pe => { state := st, pending := pe, fn, tmps := a.tmps, params := ps, assign, body, defers := w.heap.size }
  let L : Nat := w.heap.size + 1
  let W1 : World := (w.alloc (.deferred (some []))).alloc (.loop (R .ready none))
  have hL1 : W1.heap[L]? = some (.loop (R .ready none)) := by
    have := World.alloc_heap_new (w.alloc (.deferred (some []))) (.loop (R .ready none)); rwa [World.size_alloc] at this
  have hD1 : W1.heap[w.heap.size]? = some (.deferred (some [])) := (Below.heap_alloc _ _ _ (by simp)).trans (World.alloc_heap_new w _)
  have hb1 : Below w.heap.size w W1 := below_al (below_alloc1 _ _) _
  have hsz1 : W1.heap.size = w.heap.size + 2 := by show ((w.alloc _).alloc _).heap.size = _; simp
  refine ⟨L, [{ target := .collected w.heap.size, args := #[] }], W1, { target := .fn (.func gf) lb, args := #[.func (.yield L) #[] #[]] }, W1, gf, #[.func (.yield L) #[] #[]] ++ lb, W1,
    run_enterLoop_outer _ _ _ _ _, ?_, fun _ _ => trivial, ?_, ?_, ?_⟩
  · simp only [resolve, hg]; simp [go_sem]
  · simp [invoke, go_sem, eg]
  · intro h; cases h
  · have turn : ∀ {X : World} {st : LoopState} {pe : Option Code} (st' : LoopState) (pe' : Option Code), X.heap[L]? = some (.loop (R st pe)) → Turn w.heap.size X (X.putObj L (.loop (R st' pe'))) :=
      fun st' pe' h => ⟨L, _, _, Nat.le_succ _, h, rfl, rfl, rfl⟩
    have far : ∀ {X : World} {o : Obj}, X.heap[w.heap.size]? = some (.deferred (some [])) → (X.putObj L o).heap[w.heap.size]? = some (.deferred (some [])) :=
      fun h => (World.putObj_heap_other (by show w.heap.size ≠ w.heap.size + 1; omega)).trans h
    have back : ∀ {X Y : World} {row : Option Nat} {k : Nat} {o : Obj}, X.grownBy Y row → (∀ r, row = some r → W1.heap.size ≤ r ∧ ∃ o : Obj, X.heap[r]? = some o ∧ o.isCells = false) → k < W1.heap.size → X.heap[k]? = some o → Y.heap[k]? = some o :=
      fun hgr hr hk h => (hgr.block _ (heap_lt h) (fun e => by have := (hr _ e.symm).1; omega)).trans h
    have wid : ∀ {X : World} {row : Option Nat}, (∀ r, row = some r → W1.heap.size ≤ r ∧ ∃ o : Obj, X.heap[r]? = some o ∧ o.isCells = false) → ∀ r, row = some r → w.heap.size ≤ r ∧ ∃ o : Obj, X.heap[r]? = some o ∧ o.isCells = false :=
      fun hr r e => ⟨by have := (hr r e).1; omega, (hr r e).2⟩
    refine (hseq L (fun pre W => I pre W ∧ W.heap[L]? = some (.loop (R .ready none)) ∧ W.heap[w.heap.size]? = some (.deferred (some [])))
      (fun pre W => ∃ c, Ix c pre W ∧ W.heap[L]? = some (.loop (R .done (some c))) ∧ W.heap[w.heap.size]? = some (.deferred (some [])))
      W1 (hb0.trans (hb1.mono hb0.size))
      (fun s A C row hs hgr hr => ⟨hI s A C row hs.1 hgr (wid hr), back hgr hr (by omega) hs.2.1, back hgr hr (by omega) hs.2.2⟩)
      (fun s A C row hs hgr hr => by
        obtain ⟨c, hc, h1, h2⟩ := hs
        exact ⟨c, hIx c s A C row hc hgr (wid hr), back hgr hr (by omega) h1, back hgr hr (by omega) h2⟩) ?_ ⟨hI.alloc _ (hI.alloc _ h0), hL1, hD1⟩).mono ?_
    · rintro pre x W hpre ⟨hi, hl, hd⟩
      refine ⟨fn, _, assign, body, run_yield (r := R .ready none) hl (hps x), roundIn_of_wpIn hfn (wpIn_mono (hround L pre x W (Nat.le_succ _) (heap_lt hl) hpre hi) ?_)⟩
      intro e a' W' he
      cases e with
      | normal =>
        obtain ⟨hk, hbody⟩ := he
        have hl' := hk.same L _ (Nat.le_succ _) hl rfl
        have hd' := hk.same _ _ (Nat.le_refl _) hd rfl
        refine ⟨_, run_beginRound hl' rfl, wpIn_mono (hbody _ (turn .busy none hl')) ?_⟩
        intro e3 a3 W3 h3
        have hl2 : (W'.putObj L (.loop (R .busy none))).heap[L]? = some (.loop (R .busy none)) := World.putObj_heap_same (heap_lt hl')
        have hd2 : (W'.putObj L (.loop (R .busy none))).heap[w.heap.size]? = some (.deferred (some [])) := far hd'
        have out : ∀ (hk3 : Kep w.heap.size S (W'.putObj L (.loop (R .busy none))) W3), W3.heap[L]? = some (.loop (R .busy none)) ∧ W3.heap[w.heap.size]? = some (.deferred (some [])) :=
          fun hk3 => ⟨hk3.same L _ (Nat.le_succ _) hl2 rfl, hk3.same _ _ (Nat.le_refl _) hd2 rfl⟩
        have stop : ∀ (c : Code), Kep w.heap.size S (W'.putObj L (.loop (R .busy none))) W3 → Ix c (pre ++ [x]) W3 → ∃ v w', (Instr.endRound L (some c)).run P W3 = .ok v w' ∧
            ((Ending.returned v = .returned (.bool true) ∧ (I (pre ++ [x]) w' ∧ w'.heap[L]? = some (.loop (R .ready none)) ∧ w'.heap[w.heap.size]? = some (.deferred (some []))) ∧ Kpt S W w') ∨
             (Ending.returned v = .returned (.bool false) ∧ ∃ c, Ix c (pre ++ [x]) w' ∧ w'.heap[L]? = some (.loop (R .done (some c))) ∧ w'.heap[w.heap.size]? = some (.deferred (some [])))) := by
          intro c hk3 hc
          obtain ⟨h1, h2⟩ := out hk3
          exact ⟨_, _, run_endRound (some c) h1, .inr ⟨rfl, c, (turn .done (some c) h1).own (hIx c) hc, World.putObj_heap_same (heap_lt h1), far h2⟩⟩
        cases e3 with
        | normal =>
          obtain ⟨hk3, hi3⟩ := h3
          obtain ⟨h1, h2⟩ := out hk3
          refine ⟨_, _, run_endRound none h1, .inl ⟨rfl, ⟨(turn .ready none h1).own hI hi3, World.putObj_heap_same (heap_lt h1), far h2⟩, ?_⟩⟩
          exact ((hk.kpt.trans ((turn .busy none hl').kpt hS)).trans hk3.kpt).trans ((turn .ready none h1).kpt hS)
        | ret => exact stop .ret h3.1 h3.2
        | exit id => exact stop (.exit id) h3.1 h3.2
        | goto t => exact stop (.goto t) h3.1 h3.2
        | panic ch => exact h3.elim
        | outgrown => exact h3.elim
      | ret => exact he.elim
      | exit id => exact he.elim
      | goto t => exact he.elim
      | panic ch => exact he.elim
      | outgrown => exact he.elim
    · rintro e W2 ⟨⟨v, rfl⟩, (⟨hi, hl, hd⟩ | ⟨pre, hpre, c, hi, hl, hd⟩)⟩
      · exact ⟨none, _, run_endLoop hl (by intro h; cases h), hdone _ _ (Nat.le_refl _) ((turn .exhausted none hl).own hI hi) (far hd)⟩
      · exact ⟨some c, _, run_endLoop hl (by intro h; cases h), hstop _ c pre _ (Nat.le_refl _) hpre ((turn .exhausted (some c) hl).own (hIx c) hi) (far hd)⟩
end Go.Proofs.Ytghglgaimhfedaa

namespace Go.Proofs.Ytghglgaimhfedaa
open Go.RowKit Go.Shelf

/-- The cell p holds a slice that owns the elements xs, in blocks from base on. -/
def Hold {α : Type} (enc : α → List Value) (s : Nat) (e : TypeId) (base : Nat) (W : World) (p : Addr) (xs : List α) : Prop := ∃ v, At W p v ∧ Ow enc s e base W v xs
section
variable {α : Type} {enc : α → List Value} {s : Nat} {e : TypeId} {base : Nat} {W W' : World} {p : Addr} {xs : List α}
theorem Hold.below (h : Hold enc s e base W p xs) (hb : Below W.heap.size W W') : Hold enc s e base W' p xs := by
  obtain ⟨v, h1, h2⟩ := h
  exact ⟨v, h1.below hb, h2.below hb⟩
theorem Hold.al (h : Hold enc s e base W p xs) (o : Obj) : Hold enc s e base (W.alloc o) p xs := h.below (below_alloc1 _ _)
theorem Ow.turn {v : Value} {N : Nat} (h : Ow enc s e base W v xs) (ht : Turn N W W') : Ow enc s e base W' v xs := by
  obtain ⟨l, _, hg, o, h2, h3⟩ := ht.kept
  refine World.ownsRow.kept h hg ?_
  cases hv : v.ownBlock with
  | none => exact .inl rfl
  | some g =>
    refine .inr fun e' => ?_
    cases e'
    rcases h.2 with ⟨h4, _⟩ | ⟨g', cap, cur, h4, _, hh, _⟩
    · rw [h4] at hv; simp [Value.ownBlock] at hv
    · rw [h4] at hv
      simp only [Value.ownBlock, Option.some.injEq] at hv
      rw [hv, h2] at hh
      cases hh
      simp [Obj.isCells] at h3
theorem Hold.turn {N : Nat} (h : Hold enc s e base W p xs) (ht : Turn N W W') : Hold enc s e base W' p xs := by
  obtain ⟨v, h1, h2⟩ := h
  exact ⟨v, h1.turn ht, h2.turn ht⟩
theorem own_hold {β : Type} (B : Nat) (p : Addr) (f : β → List α) : OwnFrom B (fun b W => Hold enc s e base W p (f b)) :=
  fun b A C row hs hg hr => by
    obtain ⟨v, h1, h2⟩ := hs
    exact ⟨v, own_at B p (fun _ : β => v) b A C row h1 hg hr, own_ow B enc s e base (fun _ : β => v) f b A C row h2 hg hr⟩
theorem At.grown' {u : Value} {row : Option Nat} (h : At W p u) (hg : W.grownBy W' row) (hne : row ≠ some p.block) : At W' p u :=
  ⟨hg.cell h.1 (Ne.symm hne), (World.frozen?_of_block (hg.block _ h.lt (Ne.symm hne))).trans h.2⟩
theorem Ow.apart' {v : Value} (h : Ow enc s e base W v xs) {k : Nat} (hk : k < base) : v.ownBlock ≠ some k :=
  fun e => by have := (World.ownsRow.lt h k e).1; omega
theorem Ow.setFar {v : Value} (h : Ow enc s e base W v xs) (hp : p.block < base) (u : Value) : Ow enc s e base (W.setCell p u) v xs := ownsRow_setCell_below h hp u
/-- What is left where an element has been appended and the slice stored back. -/
theorem Hold.put {v1 : Value} {W1 : World} {ys : List α} (hat : At W1 p (.slice none 0 0) ∨ ∃ u, At W1 p u) (ho : Ow enc s e base W1 v1 ys) (hp : p.block < base) : Hold enc s e base (W1.setCell p v1) p ys := by
  obtain ⟨u, hu⟩ : ∃ u, At W1 p u := by
    rcases hat with h | h
    · exact ⟨_, h⟩
    · exact h
  exact ⟨v1, hu.set, ho.setFar hp _⟩
/-- A row's block holds cells: so a loop's round may write it. -/
theorem Ow.cells_only {v : Value} (h : Ow enc s e base W v xs) : ∀ k, v.ownBlock = some k → ∀ o : Obj, W.heap[k]? = some o → o.isCells = true := by
  intro k hk o ho
  rcases h.2 with ⟨h4, _⟩ | ⟨g', cap, cur, h4, _, hh, _⟩
  · rw [h4] at hk; simp [Value.ownBlock] at hk
  · rw [h4] at hk
    simp only [Value.ownBlock, Option.some.injEq] at hk
    rw [hk, ho] at hh
    cases hh
    rfl
end
end Go.Proofs.Ytghglgaimhfedaa

namespace Go.Proofs.Ytghglgaimhfedaa
open Go.RowKit Go.Shelf

/-- The footprint F holds blocks of cells. -/
def Foot (F : Nat → Prop) (W : World) : Prop := ∀ k, F k → ∃ o : Obj, W.heap[k]? = some o ∧ o.isCells = true
/-- Of the old blocks only those of F may have changed. -/
structure Out (F : Nat → Prop) (W W' : World) : Prop where
  size : W.heap.size ≤ W'.heap.size
  block : ∀ k, k < W.heap.size → ¬ F k → W'.heap[k]? = W.heap[k]?
def Fresh (F F' : Nat → Prop) (W : World) : Prop := ∀ k, F' k → F k ∨ W.heap.size ≤ k
/-- J stays true while the blocks of its footprint and those below B stay as they are. -/
def OwnF {β : Type} (B : Nat) (J : (Nat → Prop) → β → World → Prop) : Prop := ∀ F s W W', J F s W → Below B W W' → (∀ k, F k → W'.heap[k]? = W.heap[k]?) → J F s W'
section
variable {F F' : Nat → Prop} {W W' X Y Z : World}
theorem Out.refl (F : Nat → Prop) (W : World) : Out F W W := ⟨Nat.le_refl _, fun _ _ _ => rfl⟩
theorem Out.trans (h : Out F X Y) (k : Out F Y Z) : Out F X Z := ⟨Nat.le_trans h.size k.size, fun i h1 h2 => (k.block i (Nat.lt_of_lt_of_le h1 h.size) h2).trans (h.block i h1 h2)⟩
theorem Out.call (h : Out F X Y) (k : Below Y.heap.size Y Z) : Out F X Z := h.trans ⟨k.size, fun i h1 _ => k.block i h1⟩
theorem Out.alloc (h : Out F X Y) (o : Obj) : Out F X (Y.alloc o) := h.call (below_alloc1 _ _)
theorem Out.drew (h : Out F X Y) : Out F X Y.drew := ⟨h.size, h.block⟩
theorem Out.setCell (h : Out F X Y) {p : Addr} (hp : F p.block ∨ X.heap.size ≤ p.block) (u : Value) : Out F X (Y.setCell p u) := by
  have hs : ∀ k, k ≠ p.block → (Y.setCell p u).heap[k]? = Y.heap[k]? := fun k hk => Below.heap_setCell Y p u k hk
  refine ⟨by rw [World.size_setCell]; exact h.size, fun i h1 h2 => (hs i ?_).trans (h.block i h1 h2)⟩
  rintro rfl
  rcases hp with hp | hp
  · exact h2 hp
  · omega
theorem Out.grown (h : Out F X Y) {row : Option Nat} (hg : Y.grownBy Z row) (hr : ∀ k, row = some k → F k ∨ X.heap.size ≤ k) : Out F X Z :=
  ⟨Nat.le_trans h.size hg.size, fun i h1 h2 => (hg.block i (Nat.lt_of_lt_of_le h1 h.size) (fun e => by rcases hr i e.symm with h3 | h3 <;> first | exact h2 h3 | omega)).trans (h.block i h1 h2)⟩
theorem Foot.lt (h : Foot F W) {k : Nat} (hk : F k) : k < W.heap.size := by obtain ⟨o, h1, _⟩ := h k hk; exact heap_lt h1
theorem Foot.same (h : Foot F W) (hs : ∀ k, F k → W'.heap[k]? = W.heap[k]?) : Foot F W' := fun k hk => by rw [hs k hk]; exact h k hk
theorem Foot.below (h : Foot F W) (hb : Below W.heap.size W W') : Foot F W' := h.same fun k hk => hb.block k (h.lt hk)
theorem Foot.turn {N : Nat} (h : Foot F W) (ht : Turn N W W') : Foot F W' := by
  obtain ⟨l, _, hg, o, h2, h3⟩ := ht.kept
  refine h.same fun k hk => hg.block k (h.lt hk) ?_
  intro e
  injection e with e
  obtain ⟨o', h4, h5⟩ := h k hk
  rw [e, h2] at h4
  cases h4
  rw [h3] at h5
  cases h5
theorem Foot.no (h : Foot F W) {k : Nat} {o : Obj} (hk : W.heap[k]? = some o) (ho : o.isCells = false) : ¬ F k := by
  intro hF
  obtain ⟨o', h4, h5⟩ := h k hF
  rw [hk] at h4
  cases h4
  rw [ho] at h5
  cases h5
theorem OwnF.turn {β : Type} {B N : Nat} {J : (Nat → Prop) → β → World → Prop} (hJ : OwnF B J) {s : β} (h : J F s W) (hf : Foot F W) (ht : Turn N W W') (hB : B ≤ N) : J F s W' :=
  hJ F s W W' h (ht.below hB) fun k hk => by
    obtain ⟨l, _, hg, o, h2, h3⟩ := ht.kept
    exact hg.block k (hf.lt hk) (fun e => by injection e with e; exact hf.no h2 h3 (e ▸ hk))
theorem OwnF.call {β : Type} {B : Nat} {J : (Nat → Prop) → β → World → Prop} (hJ : OwnF B J) {s : β} (h : J F s W) (hf : Foot F W) (hb : Below W.heap.size W W') (hB : B ≤ W.heap.size) : J F s W' :=
  hJ F s W W' h (hb.mono hB) fun k hk => hb.block k (hf.lt hk)
end
theorem OwnF.mono {β : Type} {B B' : Nat} {J : (Nat → Prop) → β → World → Prop} (hJ : OwnF B J) (h : B ≤ B') : OwnF B' J := fun F s W W' h1 h2 h3 => hJ F s W W' h1 (h2.mono h) h3

/-- THE CONTRACT OF AN ITERATOR THAT YIELDS xs, never stopped: the blocks of S are what it reads. -/
def SeqF {α : Type} (P : Program) (g : Nat) (lb : Array Value) (encs : α → Array Value) (S : Nat → Prop) (xs : List α) (w : World) : Prop :=
  ∀ (l : Nat) (J : (Nat → Prop) → List α → World → Prop) (F0 : Nat → Prop) (W : World), Below w.heap.size w W → OwnF W.heap.size J → Foot F0 W → (∀ k, F0 k → ¬ S k) →
    (∀ F pre x W1, (pre ++ [x]) <+: xs → J F pre W1 → Foot F W1 → YieldAt Fence.wide 0 P l (encs x) W1 fun e W' =>
      e = .returned (.bool true) ∧ ∃ F', J F' (pre ++ [x]) W' ∧ Foot F' W' ∧ Fresh F F' W1 ∧ Out F W1 W') →
    J F0 [] W →
    CallsIn Fence.wide 0 P g (#[.func (.yield l) #[] #[]] ++ lb) W fun e W' => (∃ v, e = .returned v) ∧ ∃ F, J F xs W' ∧ Foot F W'

/-- How the body of a round is left. -/
def postF {α : Type} (I : (Nat → Prop) → List α → World → Prop) (F : Nat → Prop) (xs : List α) (W W2 : World) : Exit → Act → World → Prop
  | .normal, _, W' => Out F W2 W' ∧ ∃ F', I F' xs W' ∧ Foot F' W' ∧ Fresh F F' W
  | _, _, _ => False

variable {P : Program}
theorem wp_rangeF {α : Type} {g : Operand} {ps : Array Tmp} {assign body : Code} {Q : Exit → Act → World → Prop} {a : Act} {w : World}
    {gf : Nat} {lb : Array Value} (hg : a.eval g = .func (.func gf) #[] lb) (eg : ∀ args w, (callFunc gf args).run P w = .ok (.enter gf args) w)
    {encs : α → Array Value} {S : Nat → Prop} {xs : List α} {w0 : World} (hseq : SeqF P gf lb encs S xs w0) (hb0 : Below w0.heap.size w0 w) (hps : ∀ x, (encs x).size = ps.size)
    (I : (Nat → Prop) → List α → World → Prop) (hI : OwnF w.heap.size I) (F0 : Nat → Prop) (hF0 : Foot F0 w) (hS : ∀ k, F0 k → ¬ S k) (h0 : I F0 [] w)
    (hround : ∀ (l : Nat) (F : Nat → Prop) (pre : List α) (x : α) (W : World), w.heap.size ≤ l → l < W.heap.size → (pre ++ [x]) <+: xs → I F pre W → Foot F W →
      assign.wpIn (Fence.wide.inRound l) 0 P (Exit.then (fun a' W' => Out F W W' ∧
        ∀ W2, Turn w.heap.size W' W2 → body.wpIn (Fence.wide.inRound l) 0 P (postF I F (pre ++ [x]) W W2) a' W2) (fun _ _ _ => False))
        { tmps := (ps.zip (encs x)).foldl (fun t (p, v) => t.setIfInBounds p v) a.tmps, defers := [] } W)
    (hdone : ∀ (D : Nat) (W : World) (F : Nat → Prop), w.heap.size ≤ D → I F xs W → W.heap[D]? = some (.deferred (some [])) → Q .normal { a with defers := { target := .collected D, args := #[] } :: a.defers } W) :
    (Code.rangeFunc g ps assign body).wpIn Fence.wide 0 P Q a w := by
  refine wpIn_rangeFunc fun fn hfn => ?_
  let R : LoopState → Option Code → Loop := fun st pe => { state := st, pending := pe, fn, tmps := a.tmps, params := ps, assign, body, defers := w.heap.size }
  let L : Nat := w.heap.size + 1
  let W1 : World := (w.alloc (.deferred (some []))).alloc (.loop (R .ready none))
  have hL1 : W1.heap[L]? = some (.loop (R .ready none)) := by
    have := World.alloc_heap_new (w.alloc (.deferred (some []))) (.loop (R .ready none)); rwa [World.size_alloc] at this
  have hD1 : W1.heap[w.heap.size]? = some (.deferred (some [])) := (Below.heap_alloc _ _ _ (by simp)).trans (World.alloc_heap_new w _)
  have hb1 : Below w.heap.size w W1 := below_al (below_alloc1 _ _) _
  have hsz1 : W1.heap.size = w.heap.size + 2 := by show ((w.alloc _).alloc _).heap.size = _; simp
  refine ⟨L, [{ target := .collected w.heap.size, args := #[] }], W1, { target := .fn (.func gf) lb, args := #[.func (.yield L) #[] #[]] }, W1, gf, #[.func (.yield L) #[] #[]] ++ lb, W1,
    run_enterLoop_outer _ _ _ _ _, ?_, fun _ _ => trivial, ?_, ?_, ?_⟩
  · simp only [resolve, hg]; simp [go_sem]
  · simp [invoke, go_sem, eg]
  · intro h; cases h
  · have turn : ∀ {X : World} {st : LoopState} {pe : Option Code} (st' : LoopState) (pe' : Option Code), X.heap[L]? = some (.loop (R st pe)) → Turn w.heap.size X (X.putObj L (.loop (R st' pe'))) :=
      fun st' pe' h => ⟨L, _, _, Nat.le_succ _, h, rfl, rfl, rfl⟩
    have far : ∀ {X : World} {k : Nat} {o : Obj}, k ≠ L → (X.putObj L o).heap[k]? = X.heap[k]? := fun h => World.putObj_heap_other h
    refine (hseq L (fun F pre W => I F pre W ∧ W.heap[L]? = some (.loop (R .ready none)) ∧ W.heap[w.heap.size]? = some (.deferred (some [])))
      F0 W1 (hb0.trans (hb1.mono hb0.size))
      (fun F s A C hs hb hf => ⟨hI F s A C hs.1 (hb.mono (by omega)) hf, (hb.block _ (by omega)).trans hs.2.1, (hb.block _ (by omega)).trans hs.2.2⟩)
      (hF0.below hb1) hS ?_ ⟨hI.call h0 hF0 hb1 (Nat.le_refl _), hL1, hD1⟩).mono ?_
    · rintro F pre x W hpre ⟨hi, hl, hd⟩ hF
      refine ⟨fn, _, assign, body, run_yield (r := R .ready none) hl (hps x), roundIn_of_wpIn hfn (wpIn_mono (hround L F pre x W (Nat.le_succ _) (heap_lt hl) hpre hi hF) ?_)⟩
      intro e a' W' he
      cases e with
      | normal =>
        obtain ⟨hk, hbody⟩ := he
        have hl' := (hk.block L (heap_lt hl) (hF.no hl rfl)).trans hl
        have hd' := (hk.block _ (heap_lt hd) (hF.no hd rfl)).trans hd
        refine ⟨_, run_beginRound hl' rfl, wpIn_mono (hbody _ (turn .busy none hl')) ?_⟩
        intro e3 a3 W3 h3
        have hl2 : (W'.putObj L (.loop (R .busy none))).heap[L]? = some (.loop (R .busy none)) := World.putObj_heap_same (heap_lt hl')
        have hd2 : (W'.putObj L (.loop (R .busy none))).heap[w.heap.size]? = some (.deferred (some [])) := (far (by show w.heap.size ≠ w.heap.size + 1; omega)).trans hd'
        cases e3 with
        | normal =>
          obtain ⟨hk3, F', hi3, hF3, hfr⟩ := h3
          have h1 := (hk3.block L (heap_lt hl2) (hF.no hl rfl)).trans hl2
          have h2 := (hk3.block _ (heap_lt hd2) (hF.no hd rfl)).trans hd2
          refine ⟨_, _, run_endRound none h1, rfl, F', ⟨hI.turn hi3 hF3 (turn .ready none h1) (Nat.le_refl _), World.putObj_heap_same (heap_lt h1), (far (by show w.heap.size ≠ w.heap.size + 1; omega)).trans h2⟩, hF3.turn (turn .ready none h1), hfr, ?_, ?_⟩
          · show W.heap.size ≤ (W3.putObj L (.loop (R .ready none))).heap.size
            rw [(turn .ready none h1).size]
            have h4 : (W'.putObj L (.loop (R .busy none))).heap.size ≤ W3.heap.size := hk3.size
            rw [(turn .busy none hl').size] at h4
            exact Nat.le_trans hk.size h4
          · intro k hk1 hk2
            show (W3.putObj L (.loop (R .ready none))).heap[k]? = W.heap[k]?
            have h4 : ∀ k, k < (W'.putObj L (.loop (R .busy none))).heap.size → ¬ F k → W3.heap[k]? = (W'.putObj L (.loop (R .busy none))).heap[k]? := hk3.block
            by_cases hkL : k = L
            · subst hkL
              rw [hl]
              exact World.putObj_heap_same (heap_lt h1)
            · rw [far hkL, h4 k (by rw [(turn .busy none hl').size]; exact Nat.lt_of_lt_of_le hk1 hk.size) hk2, far hkL, hk.block k hk1 hk2]
        | ret => exact h3.elim
        | exit id => exact h3.elim
        | goto t => exact h3.elim
        | panic ch => exact h3.elim
        | outgrown => exact h3.elim
      | ret => exact he.elim
      | exit id => exact he.elim
      | goto t => exact he.elim
      | panic ch => exact he.elim
      | outgrown => exact he.elim
    · rintro e W2 ⟨⟨v, rfl⟩, F, ⟨hi, hl, hd⟩, hF⟩
      exact ⟨none, _, run_endLoop hl (by intro h; cases h), hdone _ _ F (Nat.le_refl _) (hI.turn (B := w.heap.size) hi hF (turn .exhausted none hl) (Nat.le_refl _)) ((far (by show w.heap.size ≠ w.heap.size + 1; omega)).trans hd)⟩

/-- append onto an own row, inside a fence: where the row lies then. -/
theorem wpListIn_append_at {Fc : Fence} {n : Nat} (w : World) {ops : Array Oper} {rest : List Oper} {o : Oper} {a : Act} {Q : Exit → Act → World → Prop}
    (hg : o.guard = none) (s x : Operand) (t : TypeId) (hop : o.op = Op.call { callee := Callee.builtin Builtin.append, args := #[s, x], argTypes := #[t, t] })
    (base : Nat) (e : TypeId) (i : TypeInfo) (z : Value) (size bytes : Nat) (h1 : P.underlying t = some (.slice e)) (h2 : P.info? e = some i) (h3 : i.zero = some z) (h4 : i.size = size) (h5 : i.bytes = bytes) (h6 : z.cells.size = size) (h7 : 0 < size)
    (v : Value) (k : Nat) (xs : List Value) (hs : a.eval s = v) (hown : w.ownsRow base e size v k xs) (ad : Addr) (m c : Nat) (news : List Value) (hx : a.eval x = .slice (some ad) m c) (hn : news.length = m * size)
    (hc : ∀ j u, news[j]? = some u → w.cell? (ad.add j) = some u) (h1c : ∀ u ∈ news, u.oneCell' = true) (b1 : k + m ≤ maxLen) (b2 : (k + m) * bytes ≤ 140737488355328) (b3 : base ≤ w.heap.size)
    (hK : ∀ v' w', w'.ownsRow base e size v' (k + m) (xs ++ news) → w.grownBy w' v.ownBlock → (v'.ownBlock = v.ownBlock ∨ v'.ownBlock = some w.heap.size) → wpListIn Fc n P ops Q rest (a.put o.dst v') w') :
    wpListIn Fc n P ops Q (o :: rest) a w := by
  refine wpListIn_plain hg fun K hK' => ?_
  obtain ⟨v', w', hrun, r1, r2, _, r3⟩ := run_append_own_at (P := P) w base t o.type e i z size bytes h1 h2 h3 h4 h5 h6 h7 v k xs hown ad m c news hn hc h1c b1 b2 b3
  unfold Oper.wpIn
  refine ⟨?_, ?_⟩
  · simp [Oper.about, hop, resolve, Target.leads, Sem.run_pure]
  · rw [Oper.semAt_plain Fc _ _ (by rw [hop]; intro c hc'; cases hc')]
    simp [execOp, hop, resolve, invoke, builtin, hs, hx, hrun, Result.andThen]
    exact hK' _ _ (hK v' w' r1 r2 r3)

theorem ret_listX {α : Type} {enc : α → List Value} {s : Nat} {t : TypeId} {q : List α × Int} {k : List α} {a : Int} {r : Value} {base : Nat} {w : World} (h : q = (k, a)) (ho : Ow enc s t base w r k) :
    Ending.returned (.tuple #[r, .int .i64 a]) = .returned (.tuple #[r, .int .i64 q.2]) ∧ Ow enc s t base w r q.1 := by rw [h]; exact ⟨rfl, ho⟩
/-- A box that holds an owned row, with both in the footprint. -/
def HoldF {α : Type} (enc : α → List Value) (s : Nat) (e : TypeId) (base : Nat) (p : Addr) (F : Nat → Prop) (xs : List α) (W : World) : Prop :=
  ∃ v, At W p v ∧ Ow enc s e base W v xs ∧ p.block < base ∧ F = fun k => k = p.block ∨ v.ownBlock = some k
theorem At.same {W W' : World} {p : Addr} {v : Value} (h : At W p v) (hs : W'.heap[p.block]? = W.heap[p.block]?) : At W' p v := ⟨(World.cell?_of_block hs).trans h.1, (World.frozen?_of_block hs).trans h.2⟩
theorem Ow.same {α : Type} {enc : α → List Value} {s : Nat} {e : TypeId} {base : Nat} {W W' : World} {v : Value} {xs : List α} (h : Ow enc s e base W v xs) (hs : ∀ k, v.ownBlock = some k → W'.heap[k]? = W.heap[k]?) : Ow enc s e base W' v xs := by
  obtain ⟨h1, h2⟩ := h
  refine ⟨h1, ?_⟩
  rcases h2 with h2 | ⟨g, cap, cur, hv, hb, hh, hr⟩
  · exact .inl h2
  · exact .inr ⟨g, cap, cur, hv, hb, (hs g (by rw [hv]; rfl)).trans hh, hr⟩
theorem holdF_own {α β : Type} {enc : α → List Value} {s : Nat} {e : TypeId} {base B : Nat} {p : Addr} (f : β → List α) : OwnF B (fun F b W => HoldF enc s e base p F (f b) W) := by
  rintro F b W W' ⟨v, h1, h2, h3, rfl⟩ _ hs
  exact ⟨v, h1.same (hs _ (.inl rfl)), h2.same fun k hk => hs k (.inr hk), h3, rfl⟩
theorem ownF_below {β : Type} {B n : Nat} {w : World} (_ : n ≤ w.heap.size) (hB : n ≤ B) : OwnF B (fun (_ : Nat → Prop) (_ : β) W => Below n w W) :=
  fun _ _ _ _ h hb _ => h.trans (hb.mono hB)
theorem OwnF.and {β : Type} {B : Nat} {I J : (Nat → Prop) → β → World → Prop} (h : OwnF B I) (k : OwnF B J) : OwnF B (fun F s W => I F s W ∧ J F s W) :=
  fun F s W W' hs hb hf => ⟨h F s W W' hs.1 hb hf, k F s W W' hs.2 hb hf⟩
theorem cells_of_at {W : World} {p : Addr} {v : Value} (h : At W p v) : ∃ o : Obj, W.heap[p.block]? = some o ∧ o.isCells = true := by
  have h1 := h.1
  unfold World.cell? at h1
  cases ho : W.heap[p.block]? with
  | none => rw [ho] at h1; cases h1
  | some o => cases o <;> first | exact ⟨_, rfl, rfl⟩ | (rw [ho] at h1; cases h1)
theorem HoldF.foot {α : Type} {enc : α → List Value} {s : Nat} {e : TypeId} {base : Nat} {p : Addr} {F : Nat → Prop} {xs : List α} {W : World} (h : HoldF enc s e base p F xs W) : Foot F W := by
  obtain ⟨v, h1, h2, _, rfl⟩ := h
  rintro k (rfl | hk)
  · exact cells_of_at h1
  · rcases h2.2 with ⟨h4, _⟩ | ⟨g', cap, cur, h4, _, hh, _⟩
    · rw [h4] at hk; simp [Value.ownBlock] at hk
    · rw [h4] at hk
      simp only [Value.ownBlock, Option.some.injEq] at hk
      subst hk
      exact ⟨_, hh, rfl⟩
end Go.Proofs.Ytghglgaimhfedaa

namespace Go.Proofs.Ytghglgaimhfedaa
open Go.RowKit Go.Shelf

def noDefer (l : List Oper) : Bool := l.all fun o => match o.op with | .defer _ => false | _ => true
/-- A fence that lets everything through. -/
structure Open (F : Fence) : Prop where
  fn : ∀ f, F.fn f
  depth : F.depth = none
  calls : ∀ {P : Program} {f : FuncId} {args : Array Value} {w : World} {R : Ending → World → Prop}, Calls P f args w R → CallsIn F 0 P f args w R
theorem open_wide : Open Fence.wide := ⟨fun _ => trivial, rfl, fun h => atWide h⟩
theorem open_round (l : Nat) : Open (Fence.wide.inRound l) := ⟨fun _ => trivial, rfl, fun h => inRnd l h⟩
section
variable {F : Fence} {P : Program} {ops : Array Oper} {md : Region.Mode} {w : World}
theorem wpOpIn_of_stOp (hO : Open F) {i : Nat} {a : Act} {K : Act → Prop} {K' : Act → World → Prop} {Q' : Exit → Act → World → Prop} (hnd : ∀ o : Oper, ops[i]? = some o → ∀ c : Call, o.op ≠ .defer c)
    (h : ∀ a, K a → K' a w) (hh : stOp P ops w i K a) : wpOpIn F 0 P ops Q' i K' a w := by
  unfold stOp at hh
  unfold wpOpIn
  split
  · rename_i ho; simp only [ho] at hh; exact h _ hh
  · rename_i o ho
    simp only [ho] at hh
    split
    · rename_i hw
      simp only [hw, if_true] at hh
      refine ⟨fun f _ => hO.fn f, ?_⟩
      rw [Oper.semAt_eq _ _ _ (hnd o ho)]
      unfold Oper.still at hh
      generalize (execOp a.eval o).run P w = r at *
      cases r with
      | ok nx w' =>
        cases nx <;> simp only [Oper.stillUpon] at hh
        case value v => obtain ⟨rfl, h1⟩ := hh; exact h _ h1
        case skip => obtain ⟨rfl, h1⟩ := hh; exact h _ h1
        case enter f args =>
          obtain ⟨rfl, v, hc, hn⟩ := hh
          refine ⟨fun hs => absurd hs (by rw [hO.depth]; simp), (hO.calls hc).mono ?_⟩
          rintro e w'' ⟨rfl, rfl⟩
          exact h _ hn
      | halt x w' => cases hh
    · rename_i hw
      simp only [hw] at hh
      exact ⟨fun f _ => hO.fn f, h _ hh⟩
theorem wpAnyIn_of_head (hO : Open F) (hnd : ∀ (i : Nat) (o : Oper), ops[i]? = some o → ∀ c : Call, o.op ≠ .defer c) {n g : Nat} {L : Array Bool → Act → Prop} {Q' : Exit → Act → World → Prop} (hL : ∀ listed a, L listed a → wpAnyIn F 0 P md ops Q' g listed a w) :
    ∀ (f : Nat) (listed : Array Bool) (a : Act), wpAnyL P md ops w n L f listed a → wpAnyIn F 0 P md ops Q' (f + g) listed a w
  | 0, listed, a, h => by rw [Nat.zero_add]; exact hL _ _ h
  | f + 1, listed, a, h => by
    rw [show f + 1 + g = (f + g) + 1 by omega]
    exact ⟨fun h0 => absurd h0 h.1, fun i hi => wpOpIn_of_stOp hO (hnd i) (fun a' h' => wpAnyIn_of_head hO hnd hL f _ a' h') (h.2 i hi).2⟩
theorem wpAnyIn_of_seq {Q' : Exit → Act → World → Prop} : ∀ (l : List Oper) (k : Nat) (listed : Array Bool) (a : Act) (w : World), (∀ j, l[j]? = ops[k + j]?) →
    Region.seqB md ops l.length k listed = true → wpListIn F 0 P ops Q' l a w → wpAnyIn F 0 P md ops Q' l.length listed a w
  | [], _, _, _, _, _, hB, h => ⟨by simpa [Region.seqB] using hB, h⟩
  | o :: l, k, listed, a, w, hl, hB, h => by
    have h0 : ops[k]? = some o := by simpa using (hl 0).symm
    simp only [List.length_cons, Region.seqB, Bool.and_eq_true, decide_eq_true_eq] at hB
    refine ⟨fun h1 => (by rw [hB.1] at h1; cases h1), fun i hi => ?_⟩
    rw [hB.1] at hi
    have hik : i = k := by simpa using hi
    subst hik
    have hw : wpOpIn F 0 P ops Q' i (wpListIn F 0 P ops Q' l) a w := by unfold wpOpIn; simp only [h0]; exact h
    exact wpOpIn_mono (fun a' w' h' => wpAnyIn_of_seq l (i + 1) _ a' w' (fun j => by have := hl (j + 1); simpa [Nat.add_assoc, Nat.add_comm 1 j] using this) hB.2 h') hw
theorem wpIn_region_still_tail (hO : Open F) {id : Nat} {Q : Exit → Act → World → Prop} {a : Act} {w : World} {l : List Oper} (n : Nat) (hm : P.follows .mixedOrders = true) (hB : Region.lexTailB .any l.toArray n = true) (hd : noDefer l = true)
    (h : wpStill P l.toArray w.drew (fun a' => wpListIn F 0 P l.toArray Q (l.drop n) a' w.drew) (l.take n) a) : (Code.region id l.toArray true).wpIn F 0 P Q a w := by
  have hnd : ∀ (i : Nat) (o : Oper), l.toArray[i]? = some o → ∀ c : Call, o.op ≠ .defer c := by
    intro i o ho c hc
    have hm : o ∈ l := List.mem_of_getElem? (by simpa using ho)
    have := List.all_eq_true.1 hd o hm
    rw [hc] at this
    cases this
  simp only [Region.lexTailB, Bool.and_eq_true, decide_eq_true_eq] at hB
  obtain ⟨⟨⟨⟨hsel, hn⟩, hs⟩, hc⟩, hlex⟩ := hB
  have hn' : n < l.length := by simpa using hn
  have htl : (l.take n).length = n := by simp; omega
  have hdl : (l.drop n).length = l.toArray.size - n := by simp
  have inv0 : HeadInv .any l.toArray n (Array.replicate l.toArray.size false) :=
    ⟨by simp, fun j oj _ hl => (by rw [getD_replicate_false] at hl; cases hl), fun t _ ht => getD_in (by simpa using ht) (getD_replicate_false _ _)⟩
  have H := wpAnyL_lex (md := .any) (g := l.toArray.size - n) hsel hs hc hn (l.take n) 0 _ a (fun j hj => by
    have hj' : j < n := by rw [htl] at hj; exact hj
    simp [hj']) (by simpa using htl) inv0 (by rw [htl]; exact hlex) h
  refine wpIn_region_any hm ?_
  have := wpAnyIn_of_head hO hnd (Q' := Q) (g := l.toArray.size - n) (fun listed a' hL => by
    have := wpAnyIn_of_seq (md := .any) (Q' := Q) (l.drop n) n listed a' w.drew (fun j => by simp [List.getElem?_drop]) (by rw [hdl]; exact hL.1) hL.2
    rwa [hdl] at this) _ _ _ H
  rw [htl, show n + (l.toArray.size - n) = l.toArray.size by omega] at this
  exact this

/-- Every order in which a region's operations may come. -/
def orders (md : Region.Mode) (ops : Array Oper) : Nat → Array Bool → List (List Nat)
  | 0, _ => [[]]
  | f + 1, listed => if Region.ready md ops listed = [] then [[]] else (Region.ready md ops listed).flatMap fun i => (orders md ops f (listed.setIfInBounds i true)).map (i :: ·)
theorem go_mem : ∀ (f t : Nat) (listed : Array Bool), Region.linearise.go md ops f t listed [] ∈ orders md ops f listed := by
  intro f
  induction f with
  | zero => intro t listed; simp [Region.linearise.go, orders]
  | succ f ih =>
    intro t listed
    show (match (Region.ready md ops listed)[t % (Region.ready md ops listed).length]? with
      | some i => Region.linearise.go md ops f (t / (Region.ready md ops listed).length) (listed.setIfInBounds i true) [i]
      | none => [].reverse) ∈ orders md ops (f + 1) listed
    simp only [orders]
    by_cases h : Region.ready md ops listed = []
    · rw [if_pos h, h]
      simp
    · rw [if_neg h]
      have hpos : 0 < (Region.ready md ops listed).length := List.length_pos_iff.2 h
      have hlt : t % (Region.ready md ops listed).length < (Region.ready md ops listed).length := Nat.mod_lt _ hpos
      rw [List.getElem?_eq_getElem hlt]
      simp only []
      rw [linearise_go_acc, List.reverse_singleton, List.singleton_append]
      exact List.mem_flatMap.2 ⟨_, List.getElem_mem hlt, List.mem_map.2 ⟨_, ih _ _, rfl⟩⟩
theorem wpOpsIn_list {n : Nat} {Q : Exit → Act → World → Prop} : ∀ (ord : List Nat) (a : Act) (w : World), wpListIn F n P ops Q (ord.filterMap fun i => ops[i]?) a w → wpOpsIn F n P ops Q ord a w
  | [], a, w, h => by simpa [wpOpsIn, wpListIn] using h
  | i :: ord, a, w, h => by
    rw [wpOpsIn_cons]
    unfold wpOpIn
    cases ho : ops[i]? with
    | none => exact wpOpsIn_list ord a w (by simpa [ho] using h)
    | some o =>
      simp only [List.filterMap_cons, ho] at h
      have h' : wpOpIn F n P ops Q i (wpListIn F n P ops Q (ord.filterMap fun i => ops[i]?)) a w := by unfold wpOpIn; simp only [ho]; exact h
      have h'' := wpOpIn_mono (fun a' w' hh => wpOpsIn_list ord a' w' hh) h'
      unfold wpOpIn at h''
      simp only [ho] at h''
      exact h''
/-- A region that draws its order, order by order. -/
theorem wpIn_region_orders {n : Nat} {id : Nat} {Q : Exit → Act → World → Prop} {a : Act} {w : World} {l : List Oper} (L : List (List Nat)) (hm : P.follows .mixedOrders = true)
    (hL : orders .any l.toArray l.toArray.size (Array.replicate l.toArray.size false) = L)
    (h : ∀ x ∈ L, wpListIn F n P l.toArray Q (x.filterMap fun i => l.toArray[i]?) a w.drew) : (Code.region id l.toArray true).wpIn F n P Q a w :=
  wpIn_region_draw fun t => by
    simp only [Region.schedule, hm, Bool.true_or, if_true]
    have h1 := go_mem (md := .any) (ops := l.toArray) l.toArray.size t (Array.replicate l.toArray.size false)
    rw [hL] at h1
    exact wpOpsIn_list _ _ _ (h _ h1)
end
end Go.Proofs.Ytghglgaimhfedaa

namespace Go.Proofs.Ytghglgaimhfedaa
open Go.RowKit Go.Shelf

/-- What an operation yields, in one world; a call of a Go function by its contract. -/
def monoUpon (P : Program) (R : Value → World → Prop) : Result Next → Prop
  | .ok (.value v) w' => R v w'
  | .ok .skip w' => R undef w'
  | .ok (.enter f args) w' => Calls P f args w' fun e w'' => ∃ v, e = .returned v ∧ R v w''
  | _ => False
structure mono (P : Program) (o : Oper) (a : Act) (w : World) (R : Value → World → Prop) : Prop where
  out : monoUpon P R ((execOp a.eval o).run P w)
section
variable {P : Program} {R : Value → World → Prop} {w : World}
theorem monoUpon_value (v : Value) : monoUpon P R (.ok (.value v) w) = R v w := rfl
theorem monoUpon_skip : monoUpon P R (.ok .skip w) = R undef w := rfl
theorem monoUpon_enter (f : FuncId) (args : Array Value) : monoUpon P R (.ok (.enter f args) w) = Calls P f args w fun e w'' => ∃ v, e = .returned v ∧ R v w'' := rfl
end
theorem wp_of_mono {P : Program} {o : Oper} {a : Act} {w : World} {R : Value → World → Prop} {K : Act → World → Prop} {Q : Exit → Act → World → Prop} (hh : mono P o a w R) (h : ∀ v w', R v w' → K (a.put o.dst v) w') : o.wp P a w K Q := by
  have hh := hh.out
  unfold Oper.wp
  generalize (execOp a.eval o).run P w = r at *
  cases r with
  | ok n w' =>
    cases n <;> simp only [monoUpon] at hh <;> simp only [Oper.upon]
    case enter f args =>
      exact hh.mono fun e w'' ⟨v, he, hw⟩ => by subst he; exact h _ _ hw
    all_goals exact h _ _ hh
  | halt x w' => simp only [monoUpon] at hh
theorem wpIn_of_mono {F : Fence} (hO : Open F) {P : Program} {o : Oper} {a : Act} {w : World} {R : Value → World → Prop} {K : Act → World → Prop} {Q : Exit → Act → World → Prop} (hnd : ∀ c : Call, o.op ≠ .defer c) (hh : mono P o a w R) (h : ∀ v w', R v w' → K (a.put o.dst v) w') : o.wpIn F 0 P a w K Q := by
  have hh := hh.out
  refine ⟨fun f _ => hO.fn f, ?_⟩
  rw [Oper.semAt_eq _ _ _ hnd]
  generalize (execOp a.eval o).run P w = r at *
  cases r with
  | ok n w' =>
    cases n <;> simp only [monoUpon] at hh <;> simp only [Oper.uponIn]
    case enter f args =>
      refine ⟨fun hs => absurd hs (by rw [hO.depth]; simp), (hO.calls hh).mono ?_⟩
      rintro e w'' ⟨v, rfl, hw⟩
      exact h _ _ hw
    all_goals exact h _ _ hh
  | halt x w' => simp only [monoUpon] at hh

/-! ### Slots -/
def setX (ts : Array Value) (dst : List Nat) (x : Nat → Value) : Array Value := dst.foldl (fun ts d => ts.setIfInBounds d (x d)) ts
def putX (a : Act) (dst : List Nat) (x : Nat → Value) : Act := { a with tmps := setX a.tmps dst x }
def upd (x : Nat → Value) (d : Nat) (v : Value) : Nat → Value := fun t => if t = d then v else x t
theorem setX_size (dst : List Nat) (x : Nat → Value) : ∀ ts, (setX ts dst x).size = ts.size := by
  induction dst with
  | nil => intro ts; rfl
  | cons d r ih => intro ts; show (setX (ts.setIfInBounds d (x d)) r x).size = _; rw [ih]; simp
theorem setX_get (dst : List Nat) (x : Nat → Value) : ∀ ts (i : Nat), (setX ts dst x)[i]? = if i ∈ dst ∧ i < ts.size then some (x i) else ts[i]? := by
  induction dst with
  | nil => intro ts i; simp [setX]
  | cons d r ih =>
    intro ts i
    show (setX (ts.setIfInBounds d (x d)) r x)[i]? = _
    rw [ih]
    simp only [Array.size_setIfInBounds, List.mem_cons]
    by_cases hr : i ∈ r ∧ i < ts.size
    · rw [if_pos hr, if_pos ⟨.inr hr.1, hr.2⟩]
    · rw [if_neg hr, Array.getElem?_setIfInBounds]
      by_cases e : d = i
      · subst e
        by_cases hl : d < ts.size
        · rw [if_pos rfl, if_pos hl, if_pos ⟨.inl rfl, hl⟩]
        · rw [if_pos rfl, if_neg hl, if_neg (fun h => hl h.2), Array.getElem?_eq_none (by omega)]
      · rw [if_neg e, if_neg]
        rintro ⟨h1 | h1, h2⟩
        · exact e h1.symm
        · exact hr ⟨h1, h2⟩
theorem putX_put {a : Act} {dst : List Nat} {d : Nat} (hd : d ∈ dst) (x : Nat → Value) (v : Value) : (putX a dst x).put (some d) v = putX a dst (upd x d v) := by
  unfold putX Act.put
  simp only
  congr 1
  apply Array.ext_getElem?
  intro i
  rw [Array.getElem?_setIfInBounds, setX_size, setX_get, setX_get]
  unfold upd
  by_cases e : d = i
  · subst e
    by_cases hl : d < a.tmps.size
    · rw [if_pos rfl, if_pos hl, if_pos ⟨hd, hl⟩, if_pos rfl]
    · rw [if_pos rfl, if_neg hl, if_neg (fun h => hl h.2), Array.getElem?_eq_none (by omega)]
  · rw [if_neg e, if_neg (show ¬ i = d from fun h => e h.symm)]
theorem putX_start (a : Act) (dst : List Nat) : putX a dst (fun t => a.tmps.getD t undef) = a := by
  unfold putX
  have : setX a.tmps dst (fun t => a.tmps.getD t undef) = a.tmps := by
    apply Array.ext_getElem?
    intro i
    rw [setX_get]
    by_cases h : i ∈ dst ∧ i < a.tmps.size
    · rw [if_pos h, Array.getElem?_eq_getElem h.2]; simp [h.2]
    · rw [if_neg h]
  rw [this]

/-! ### What each operation yields -/
abbrev VP := Value → World → Prop
def sAt : List VP → Nat → VP
  | [], _ => fun _ _ => True
  | p :: _, 0 => p
  | _ :: r, k + 1 => sAt r k
def dAt : List Nat → Nat → Nat
  | [], _ => 0
  | d :: _, 0 => d
  | _ :: r, k + 1 => dAt r k
def Stab (p : VP) : Prop := ∀ v w w', p v w → Below w.heap.size w w' → p v w'
def stabAll : List VP → Prop
  | [] => True
  | p :: r => Stab p ∧ stabAll r
theorem stabAll_at : ∀ {sp : List VP}, stabAll sp → ∀ k, Stab (sAt sp k)
  | [], _, _ => fun _ _ _ _ _ => trivial
  | _ :: _, h, 0 => h.1
  | _ :: _, h, k + 1 => stabAll_at h.2 k
theorem st_eq (c : Value) : Stab (fun v _ => v = c) := fun _ _ _ h _ => h
theorem st_pure (p : Value → Prop) : Stab (fun v _ => p v) := fun _ _ _ h _ => h
theorem st_sl {α : Type} (enc : α → List Value) (s : Nat) (xs : List α) : Stab (fun v w => Sl enc s w v xs) := fun _ _ _ h hb => h.below hb
def needs (sp : List VP) (dst : List Nat) (x : Nat → Value) (w : World) : List Nat → Prop
  | [] => True
  | j :: r => sAt sp j (x (dAt dst j)) w ∧ needs sp dst x w r
def allSp : List VP → List Nat → (Nat → Value) → World → Prop
  | p :: r, d :: ds, x, w => p (x d) w ∧ allSp r ds x w
  | _, _, _, _ => True
def steps (P : Program) (a : Act) (w0 : World) (sp : List VP) (dst : List Nat) : List Oper → List (List Nat) → Nat → Prop
  | o :: r, n :: ns, k => (∀ x w, Below w0.heap.size w0 w → needs sp dst x w n → mono P o (putX a dst x) w fun v w' => sAt sp k v w' ∧ Below w.heap.size w w') ∧ steps P a w0 sp dst r ns (k + 1)
  | _, _, _ => True
theorem steps_at {P : Program} {a : Act} {w0 : World} {sp : List VP} {dst : List Nat} : ∀ {l : List Oper} {nd : List (List Nat)} {k : Nat}, steps P a w0 sp dst l nd k → ∀ (i : Nat) (o : Oper) (n : List Nat), l[i]? = some o → nd[i]? = some n →
    ∀ x w, Below w0.heap.size w0 w → needs sp dst x w n → mono P o (putX a dst x) w fun v w' => sAt sp (k + i) v w' ∧ Below w.heap.size w w'
  | [], _, _, _, i, o, n, h, _ => by simp at h
  | _ :: _, [], _, _, i, o, n, _, h => by simp at h
  | _ :: _, _ :: _, k, hs, 0, o, n, h1, h2 => by
    simp only [List.getElem?_cons_zero, Option.some.injEq] at h1 h2
    subst h1; subst h2
    exact hs.1
  | _ :: _, _ :: _, k, hs, i + 1, o, n, h1, h2 => by
    simp only [List.getElem?_cons_succ] at h1 h2
    have := steps_at hs.2 i o n h1 h2
    rwa [show k + 1 + i = k + (i + 1) by omega] at this
theorem needs_of {sp : List VP} {dst : List Nat} {x : Nat → Value} {w : World} : ∀ {n : List Nat}, (∀ j ∈ n, sAt sp j (x (dAt dst j)) w) → needs sp dst x w n
  | [], _ => trivial
  | j :: r, h => ⟨h j (by simp), needs_of fun i hi => h i (by simp [hi])⟩
theorem allSp_of : ∀ {sp : List VP} {dst : List Nat} {x : Nat → Value} {w : World}, (∀ j, j < dst.length → sAt sp j (x (dAt dst j)) w) → allSp sp dst x w
  | [], _, _, _, _ => trivial
  | _ :: _, [], _, _, _ => trivial
  | p :: r, d :: ds, x, w, h => ⟨h 0 (by simp), allSp_of fun j hj => h (j + 1) (by simpa using hj)⟩
theorem dAt_get : ∀ {dst : List Nat} {k : Nat} (h : k < dst.length), dAt dst k = dst[k]
  | _ :: _, 0, _ => rfl
  | _ :: _, k + 1, h => dAt_get (dst := _) (k := k) (by simpa using h)

/-! ### The law -/
def canon (m n : Nat) : Array Bool := (Array.range m).map fun i => decide (i < n)
def headB (ops : Array Oper) (n : Nat) (dst : List Nat) (nd : List (List Nat)) : Bool :=
  (List.range n).all fun k => match ops[k]?, nd[k]? with
    | some o, some need => o.guard.isNone && o.dst == some (dAt dst k) && (o.after.all fun e => !Region.binds .any e || decide (e.on < k)) &&
        (need.all fun j => decide (j < n) && o.after.any fun e => Region.binds .any e && e.on == j) && (match o.op with | .defer _ => false | _ => true)
    | _, _ => false
def distinctB : List Nat → Bool
  | [] => true
  | d :: r => !r.contains d && distinctB r
def monoB (ops : Array Oper) (n : Nat) (dst : List Nat) (nd : List (List Nat)) : Bool :=
  decide (n < ops.size) && Region.sinkB .any ops n && Region.chainB .any ops n && Region.seqB .any ops (ops.size - n) n (canon ops.size n) && headB ops n dst nd && distinctB dst && dst.length == n
theorem distinct_ne : ∀ {dst : List Nat}, distinctB dst = true → ∀ i j, i < dst.length → j < dst.length → i ≠ j → dAt dst i ≠ dAt dst j := by
  intro dst
  induction dst with
  | nil => intro _ i j hi; simp at hi
  | cons d r ih =>
    intro h i j hi hj hne
    simp only [distinctB, Bool.and_eq_true, Bool.not_eq_true'] at h
    have hnot : ∀ k (hk : k < r.length), dAt r k ≠ d := by
      intro k hk e
      rw [dAt_get hk] at e
      have : r.contains d = true := by rw [List.contains_iff_mem]; rw [← e]; exact List.getElem_mem _
      rw [this] at h; exact absurd h.1 (by simp)
    match i, j with
    | 0, 0 => exact absurd rfl hne
    | 0, j + 1 => exact fun e => hnot j (by simpa using hj) e.symm
    | i + 1, 0 => exact fun e => hnot i (by simpa using hi) e
    | i + 1, j + 1 => exact ih h.2 i j (by simpa using hi) (by simpa using hj) (by omega)
/-- How many of the first n are not listed. -/
def left (listed : Array Bool) : Nat → Nat
  | 0 => 0
  | n + 1 => left listed n + if listed.getD n true = false then 1 else 0
theorem left_far (listed : Array Bool) (i : Nat) : ∀ n, n ≤ i → left (listed.setIfInBounds i true) n = left listed n
  | 0, _ => rfl
  | n + 1, h => by
    rw [left, left, left_far listed i n (by omega), getD_set_ne true (by omega)]
theorem left_set (listed : Array Bool) (i : Nat) (hi : listed.getD i true = false) : ∀ n, i < n → left (listed.setIfInBounds i true) n + 1 = left listed n
  | 0, h => by omega
  | n + 1, h => by
    rw [left, left]
    by_cases e : i = n
    · subst e
      rw [left_far listed i i (Nat.le_refl _), if_pos hi]
      have hb : i < listed.size := by
        rcases Nat.lt_or_ge i listed.size with h' | h'
        · exact h'
        · simp [Array.getElem?_eq_none h'] at hi
      have : (listed.setIfInBounds i true).getD i true = true := by simp [hb]
      rw [this]; simp
    · rw [getD_set_ne true e]
      have := left_set listed i hi n (by omega)
      omega
theorem left_zero (listed : Array Bool) : ∀ n, left listed n = 0 → ∀ i, i < n → listed.getD i true = true
  | 0, _, i, h => by omega
  | n + 1, h, i, hi => by
    rw [left] at h
    by_cases e : i = n
    · subst e
      cases hc : listed.getD i true with
      | true => rfl
      | false => rw [if_pos hc] at h; omega
    · exact left_zero listed n (by omega) i (by omega)
theorem left_least (listed : Array Bool) : ∀ n, left listed n ≠ 0 → ∃ i, i < n ∧ listed.getD i true = false ∧ ∀ j, j < i → listed.getD j true = true
  | 0, h => absurd rfl h
  | n + 1, h => by
    by_cases e : left listed n = 0
    · rw [left, e] at h
      refine ⟨n, by omega, ?_, left_zero listed n e⟩
      cases hc : listed.getD n true with
      | true => rw [hc] at h; simp at h
      | false => rfl
    · obtain ⟨i, h1, h2, h3⟩ := left_least listed n e
      exact ⟨i, by omega, h2, h3⟩
theorem left_all (m : Nat) : ∀ n, n ≤ m → left (Array.replicate m false) n = n
  | 0, _ => rfl
  | n + 1, h => by
    rw [left, left_all m n (by omega), if_pos]
    simp [show n < m by omega]
section
variable {P : Program} {ops : Array Oper} {Q : Exit → Act → World → Prop} {a : Act} {w0 : World}
theorem canon_of {n : Nat} {listed : Array Bool} (_ : n < ops.size) (inv : HeadInv .any ops n listed) (h : left listed n = 0) : listed = canon ops.size n := by
  apply Array.ext_getElem?
  intro i
  rcases Nat.lt_or_ge i ops.size with hi | hi
  · have hs : i < listed.size := by rw [inv.size]; exact hi
    have hc : (canon ops.size n)[i]? = some (decide (i < n)) := by simp [canon, hi]
    rw [hc, Array.getElem?_eq_getElem hs]
    congr 1
    by_cases hin : i < n
    · have := left_zero listed n h i hin
      simp only [hin, decide_true]
      simpa [hs] using this
    · have := inv.tail i (by omega) hi
      simp only [hin, decide_false]
      simpa [hs] using this
  · rw [Array.getElem?_eq_none (by rw [inv.size]; exact hi), Array.getElem?_eq_none (by simp [canon]; exact hi)]
/-- The steps' facts as the orders meet them. -/
structure Heads (P : Program) (ops : Array Oper) (a : Act) (w0 : World) (n : Nat) (sp : List VP) (dst : List Nat) : Prop where
  lt : n < ops.size
  sink : Region.sinkB .any ops n = true
  chain : Region.chainB .any ops n = true
  len : dst.length = n
  distinct : distinctB dst = true
  stab : stabAll sp
  step : ∀ k, k < n → ∃ o, ops[k]? = some o ∧ o.guard = none ∧ o.dst = some (dAt dst k) ∧ (∀ e ∈ o.after, Region.binds .any e = true → e.on < k) ∧ (∀ c : Call, o.op ≠ .defer c) ∧
    ∀ x w, Below w0.heap.size w0 w → (∀ j, j < n → (∃ e ∈ o.after, Region.binds .any e = true ∧ e.on = j) → sAt sp j (x (dAt dst j)) w) → mono P o (putX a dst x) w fun v w' => sAt sp k v w' ∧ Below w.heap.size w w'
theorem heads_ready {n : Nat} {sp : List VP} {dst : List Nat} (H : Heads P ops a w0 n sp dst) {listed : Array Bool} (h : left listed n ≠ 0) (inv : HeadInv .any ops n listed) :
    Region.ready .any ops listed ≠ [] ∧ ∀ i ∈ Region.ready .any ops listed, i < n := by
  obtain ⟨i, h1, h2, h3⟩ := left_least listed n h
  obtain ⟨o, ho, _, _, hlt, _⟩ := H.step i h1
  have hi : i ∈ Region.ready .any ops listed := mem_ready.2 ⟨h2, o, ho, fun e he hb => by
    have h4 := hlt e he hb
    have h5 := h3 e.on h4
    have hs : e.on < listed.size := by rw [inv.size]; have := H.lt; omega
    simpa [hs] using h5⟩
  refine ⟨fun e => (by rw [e] at hi; cases hi), fun j hj => ?_⟩
  rcases Nat.lt_or_ge j n with h6 | h6
  · exact h6
  · exact absurd hj (tail_waits H.sink H.chain H.lt inv _ i rfl h1 h2 j h6)
theorem heads_set {n : Nat} {sp : List VP} {dst : List Nat} (H : Heads P ops a w0 n sp dst) {x : Nat → Value} {w w' : World} {listed : Array Bool} {i : Nat} {v : Value} (hi : i < n)
    (hall : ∀ j, j < n → listed.getD j true = true → sAt sp j (x (dAt dst j)) w) (hv : sAt sp i v w') (hb : Below w.heap.size w w') :
    ∀ j, j < n → (listed.setIfInBounds i true).getD j true = true → sAt sp j (upd x (dAt dst i) v (dAt dst j)) w' := by
  intro j hj hl
  unfold upd
  by_cases e : j = i
  · subst e; rw [if_pos rfl]; exact hv
  · rw [if_neg (distinct_ne H.distinct j i (by rw [H.len]; exact hj) (by rw [H.len]; exact hi) e)]
    rw [getD_set_ne true (fun h => e h.symm)] at hl
    exact stabAll_at H.stab j _ _ _ (hall j hj hl) hb
theorem wpAny_mono {n : Nat} {sp : List VP} {dst : List Nat} (H : Heads P ops a w0 n sp dst) {g : Nat}
    (hfin : ∀ x w, Below w0.heap.size w0 w → (∀ j, j < n → sAt sp j (x (dAt dst j)) w) → wpAny P .any ops Q g (canon ops.size n) (putX a dst x) w) :
    ∀ (f : Nat) (listed : Array Bool) (x : Nat → Value) (w : World), left listed n = f → HeadInv .any ops n listed → Below w0.heap.size w0 w → (∀ j, j < n → listed.getD j true = true → sAt sp j (x (dAt dst j)) w) →
      wpAny P .any ops Q (f + g) listed (putX a dst x) w
  | 0, listed, x, w, hf, inv, hb, hall => by
    rw [Nat.zero_add, canon_of H.lt inv hf]
    exact hfin x w hb fun j hj => hall j hj (left_zero listed n hf j hj)
  | f + 1, listed, x, w, hf, inv, hb, hall => by
    obtain ⟨hne, hlt⟩ := heads_ready H (by omega) inv
    rw [show f + 1 + g = (f + g) + 1 by omega]
    refine ⟨fun h => absurd h hne, fun i hi => ?_⟩
    have hin := hlt i hi
    obtain ⟨hun, o', ho', hdone⟩ := mem_ready.1 hi
    obtain ⟨o, ho, hg, hd, hlow, hnd, hstep⟩ := H.step i hin
    have : o' = o := Option.some.inj (ho'.symm.trans ho)
    subst this
    unfold wpOp
    simp only [ho]
    rw [if_pos (by simp [Region.wanted, hg])]
    refine .inl (wp_of_mono (hstep x w hb ?_) ?_)
    · rintro j hj ⟨e, he, hbd, rfl⟩
      refine hall _ hj ?_
      have h1 := hdone e he hbd
      have hs : e.on < listed.size := by rw [inv.size]; have := H.lt; omega
      simpa [hs] using h1
    · rintro v w' ⟨hv, hb'⟩
      rw [hd, putX_put (by rw [dAt_get (by rw [H.len]; exact hin)]; exact List.getElem_mem _)]
      have hl := left_set listed i hun n hin
      exact wpAny_mono H hfin f _ _ w' (by omega) (inv.set hi hin) (below_tr hb hb') (heads_set H hin hall hv hb')
theorem wpAnyIn_mono {F : Fence} (hO : Open F) {n : Nat} {sp : List VP} {dst : List Nat} (H : Heads P ops a w0 n sp dst) {g : Nat}
    (hfin : ∀ x w, Below w0.heap.size w0 w → (∀ j, j < n → sAt sp j (x (dAt dst j)) w) → wpAnyIn F 0 P .any ops Q g (canon ops.size n) (putX a dst x) w) :
    ∀ (f : Nat) (listed : Array Bool) (x : Nat → Value) (w : World), left listed n = f → HeadInv .any ops n listed → Below w0.heap.size w0 w → (∀ j, j < n → listed.getD j true = true → sAt sp j (x (dAt dst j)) w) →
      wpAnyIn F 0 P .any ops Q (f + g) listed (putX a dst x) w
  | 0, listed, x, w, hf, inv, hb, hall => by
    rw [Nat.zero_add, canon_of H.lt inv hf]
    exact hfin x w hb fun j hj => hall j hj (left_zero listed n hf j hj)
  | f + 1, listed, x, w, hf, inv, hb, hall => by
    obtain ⟨hne, hlt⟩ := heads_ready H (by omega) inv
    rw [show f + 1 + g = (f + g) + 1 by omega]
    refine ⟨fun h => absurd h hne, fun i hi => ?_⟩
    have hin := hlt i hi
    obtain ⟨hun, o', ho', hdone⟩ := mem_ready.1 hi
    obtain ⟨o, ho, hg, hd, hlow, hnd, hstep⟩ := H.step i hin
    have : o' = o := Option.some.inj (ho'.symm.trans ho)
    subst this
    unfold wpOpIn
    simp only [ho]
    rw [if_pos (by simp [Region.wanted, hg])]
    refine wpIn_of_mono hO hnd (hstep x w hb ?_) ?_
    · rintro j hj ⟨e, he, hbd, rfl⟩
      refine hall _ hj ?_
      have h1 := hdone e he hbd
      have hs : e.on < listed.size := by rw [inv.size]; have := H.lt; omega
      simpa [hs] using h1
    · rintro v w' ⟨hv, hb'⟩
      rw [hd, putX_put (by rw [dAt_get (by rw [H.len]; exact hin)]; exact List.getElem_mem _)]
      have hl := left_set listed i hun n hin
      exact wpAnyIn_mono hO H hfin f _ _ w' (by omega) (inv.set hi hin) (below_tr hb hb') (heads_set H hin hall hv hb')
theorem heads_of {l : List Oper} {n : Nat} {sp : List VP} {dst : List Nat} {nd : List (List Nat)} (hB : monoB l.toArray n dst nd = true) (hst : stabAll sp) (hs : steps P a w0 sp dst (l.take n) nd 0) :
    Heads P l.toArray a w0 n sp dst ∧ Region.seqB .any l.toArray (l.toArray.size - n) n (canon l.toArray.size n) = true := by
  simp only [monoB, Bool.and_eq_true, decide_eq_true_eq, beq_iff_eq] at hB
  obtain ⟨⟨⟨⟨⟨⟨h1, h2⟩, h3⟩, h4⟩, h5⟩, h6⟩, h7⟩ := hB
  refine ⟨⟨h1, h2, h3, h7, h6, hst, fun k hk => ?_⟩, h4⟩
  have h8 := List.all_eq_true.1 h5 k (List.mem_range.2 hk)
  have hk' : k < l.toArray.size := by omega
  have ho : l.toArray[k]? = some l.toArray[k] := Array.getElem?_eq_getElem hk'
  rw [ho] at h8
  cases hn : nd[k]? with
  | none => rw [hn] at h8; cases h8
  | some need =>
    rw [hn] at h8
    simp only [Bool.and_eq_true, Option.isNone_iff_eq_none, beq_iff_eq] at h8
    obtain ⟨⟨⟨⟨g1, g2⟩, g3⟩, g4⟩, g5⟩ := h8
    refine ⟨_, ho, g1, g2, fun e he hb => ?_, fun c hc => (by rw [hc] at g5; cases g5), fun x w hb hN => ?_⟩
    · have := Array.all_eq_true'.1 g3 e he
      simp only [Bool.or_eq_true, Bool.not_eq_true', decide_eq_true_eq] at this
      rcases this with h | h
      · rw [hb] at h; cases h
      · exact h
    · have := steps_at hs k l.toArray[k] need (by rw [List.getElem?_take, if_pos hk]; simp) hn x w hb (needs_of fun j hj => by
        have := List.all_eq_true.1 g4 j hj
        simp only [Bool.and_eq_true, decide_eq_true_eq] at this
        obtain ⟨e, he, hbe⟩ := Array.any_eq_true'.1 this.2
        simp only [Bool.and_eq_true, beq_iff_eq] at hbe
        exact hN j this.1 ⟨e, he, hbe.1, hbe.2⟩)
      rwa [Nat.zero_add] at this
theorem inv_start (n m : Nat) (h : ops.size = m) : HeadInv .any ops n (Array.replicate m false) :=
  ⟨by simp [h], fun j oj _ hl => (by rw [getD_replicate_false] at hl; cases hl), fun t _ ht => getD_in (by simpa [h] using ht) (getD_replicate_false _ _)⟩
theorem wp_region_mono {id : Nat} {w : World} {l : List Oper} (n : Nat) (dst : List Nat) (nd : List (List Nat)) (sp : List VP) (hm : P.follows .mixedOrders = true) (hB : monoB l.toArray n dst nd = true) (hst : stabAll sp)
    (hs : steps P a w.drew sp dst (l.take n) nd 0) (hfin : ∀ x w', Below w.drew.heap.size w.drew w' → allSp sp dst x w' → wpList P l.toArray Q (l.drop n) (putX a dst x) w') : (Code.region id l.toArray true).wp P Q a w := by
  obtain ⟨H, hseq⟩ := heads_of hB hst hs
  have hdl : (l.drop n).length = l.toArray.size - n := by simp
  refine wp_region_any hm ?_
  have hn : n < l.toArray.size := H.lt
  have := wpAny_mono (Q := Q) H (g := l.toArray.size - n) (fun x w' hb hall => by
    have := wpAny_of_seq (md := .any) (Q' := Q) (l.drop n) n (canon l.toArray.size n) (putX a dst x) w' (fun j => by simp [List.getElem?_drop]) (by rw [hdl]; exact hseq) (hfin x w' hb (allSp_of (by rw [H.len]; exact hall)))
    rwa [hdl] at this) n (Array.replicate l.toArray.size false) (fun t => a.tmps.getD t undef) w.drew (left_all _ _ (by omega)) (inv_start n _ rfl) (Below.refl _ _) (fun j hj hl => by
      rw [show (Array.replicate l.toArray.size false).getD j true = false from getD_in (by simp only [Array.size_replicate]; omega) (getD_replicate_false _ _)] at hl
      cases hl)
  rw [putX_start, show n + (l.toArray.size - n) = l.toArray.size by omega] at this
  exact this
theorem wpIn_region_mono {F : Fence} (hO : Open F) {id : Nat} {w : World} {l : List Oper} (n : Nat) (dst : List Nat) (nd : List (List Nat)) (sp : List VP) (hm : P.follows .mixedOrders = true) (hB : monoB l.toArray n dst nd = true) (hst : stabAll sp)
    (hs : steps P a w.drew sp dst (l.take n) nd 0) (hfin : ∀ x w', Below w.drew.heap.size w.drew w' → allSp sp dst x w' → wpListIn F 0 P l.toArray Q (l.drop n) (putX a dst x) w') : (Code.region id l.toArray true).wpIn F 0 P Q a w := by
  obtain ⟨H, hseq⟩ := heads_of hB hst hs
  have hdl : (l.drop n).length = l.toArray.size - n := by simp
  refine wpIn_region_any hm ?_
  have hn : n < l.toArray.size := H.lt
  have := wpAnyIn_mono hO (Q := Q) H (g := l.toArray.size - n) (fun x w' hb hall => by
    have := wpAnyIn_of_seq (md := .any) (F := F) (Q' := Q) (l.drop n) n (canon l.toArray.size n) (putX a dst x) w' (fun j => by simp [List.getElem?_drop]) (by rw [hdl]; exact hseq) (hfin x w' hb (allSp_of (by rw [H.len]; exact hall)))
    rwa [hdl] at this) n (Array.replicate l.toArray.size false) (fun t => a.tmps.getD t undef) w.drew (left_all _ _ (by omega)) (inv_start n _ rfl) (Below.refl _ _) (fun j hj hl => by
      rw [show (Array.replicate l.toArray.size false).getD j true = false from getD_in (by simp only [Array.size_replicate]; omega) (getD_replicate_false _ _)] at hl
      cases hl)
  rw [putX_start, show n + (l.toArray.size - n) = l.toArray.size by omega] at this
  exact this
end
end Go.Proofs.Ytghglgaimhfedaa
