/-
  Plain words for the walks of this seat: slices that read as lists, rows of the call's own, appends, new blocks; nothing here names a function of the program.
-/
import Derived.WalkKit
import Derived.WalkSpells
import Derived.Lib.Hide
import Derived.Laws.OwnMore
import Derived.Laws.Rows
import Derived.Maps.AppendAt
import Derived.Deep.AppendLies
import Derived.Deep.Draws
set_option linter.all false
namespace Go.Proofs.Ytghglgaimhfedaa
open Go.RowKit

/-! ### Encodings of elements as cells -/
def e1 (n : Int) : List Value := [.int .i64 n]
def e2 (p : Int × Int) : List Value := [.int .i64 p.1, .int .i64 p.2]
def e3 (p : Int × Int × Int) : List Value := [.int .i64 p.1, .int .i64 p.2.1, .int .i64 p.2.2]
theorem e1_one (n : Int) : ∀ u ∈ e1 n, u.oneCell' = true := by simp [e1, Value.oneCell']
theorem e2_one (p : Int × Int) : ∀ u ∈ e2 p, u.oneCell' = true := by simp [e2, Value.oneCell']
theorem e3_one (p : Int × Int × Int) : ∀ u ∈ e3 p, u.oneCell' = true := by simp [e3, Value.oneCell']

theorem flat_len {α : Type} (enc : α → List Value) (s : Nat) (hs : ∀ x, (enc x).length = s) (xs : List α) : (xs.flatMap enc).length = xs.length * s := by
  induction xs with
  | nil => simp
  | cons x r ih => simp only [List.flatMap_cons, List.length_append, hs, ih, List.length_cons, Nat.add_mul, Nat.one_mul]; omega
theorem flat_at {α : Type} (enc : α → List Value) (s : Nat) (hs : ∀ x, (enc x).length = s) (xs : List α) : ∀ (i : Nat) (h : i < xs.length) (j : Nat), j < s → (xs.flatMap enc)[i * s + j]? = (enc xs[i])[j]? := by
  induction xs with
  | nil => intro i h; simp at h
  | cons x r ih =>
    intro i h j hj
    rw [List.flatMap_cons]
    match i, h with
    | 0, _ => rw [List.getElem?_append_left (by rw [hs]; omega)]; simp
    | i + 1, h =>
      have hx : (enc x).length = s := hs x
      rw [List.getElem?_append_right (by rw [hx, Nat.add_mul]; omega), hx]
      have := ih i (by simpa using h) j hj
      rw [show (i + 1) * s + j - s = i * s + j from by rw [Nat.add_mul]; omega, this]
      rfl
theorem flat_one {α : Type} (enc : α → List Value) (h1 : ∀ x, ∀ u ∈ enc x, u.oneCell' = true) (xs : List α) : ∀ u ∈ xs.flatMap enc, u.oneCell' = true := by
  intro u hu
  obtain ⟨x, _, hx⟩ := List.mem_flatMap.1 hu
  exact h1 x u hx

/-! ### Small facts about worlds -/
theorem below_alloc1 (w : World) (o : Obj) : Below w.heap.size w (w.alloc o) := (Below.refl _ _).alloc (Nat.le_refl _) o
theorem below_tr {w w1 w2 : World} (h : Below w.heap.size w w1) (k : Below w1.heap.size w1 w2) : Below w.heap.size w w2 := h.trans (k.mono h.size)
theorem below_al {w w1 : World} (h : Below w.heap.size w w1) (o : Obj) : Below w.heap.size w (w1.alloc o) := h.alloc h.size o
theorem below_dr {w w1 : World} (h : Below w.heap.size w w1) : Below w.heap.size w w1.drew := h.drew
theorem below_set {w w1 : World} (h : Below w.heap.size w w1) {p : Addr} (hp : w.heap.size ≤ p.block) (u : Value) : Below w.heap.size w (w1.setCell p u) := h.setCell hp u
theorem below_grownN {w w' : World} (h : Below w.heap.size w w') : w.grownBy w' none := ⟨h.os, h.tape, h.output, h.size, fun k hk _ => h.block k hk⟩
theorem cell_lt {w : World} {a : Addr} {v : Value} (h : w.cell? a = some v) : a.block < w.heap.size := block_lt_of_cell h
theorem bcell {W w1 : World} (hb : Below W.heap.size W w1) : (∀ b o, b < W.heap.size → w1.cell? ⟨b, o, none⟩ = W.cell? ⟨b, o, none⟩) ∧ (∀ b o, b < W.heap.size → w1.frozen? ⟨b, o, none⟩ = W.frozen? ⟨b, o, none⟩) ∧ W.heap.size ≤ w1.heap.size :=
  ⟨fun b o h => hb.cell (p := ⟨b, o, none⟩) h, fun b o h => hb.frozen (p := ⟨b, o, none⟩) h, hb.size⟩
/-- The cells of a block that has just been laid. -/
theorem cells_new (w : World) (cs : List Value) (t : TypeId) : ∀ j u, cs[j]? = some u → (w.alloc (.cells cs.toArray t)).cell? ((⟨w.heap.size, 0, none⟩ : Addr).add j) = some u := by
  intro j u hj
  have hb : (w.alloc (.cells cs.toArray t)).heap[w.heap.size]? = some (.cells cs.toArray t) := heap_alloc_new w _
  rw [Go.WideShapes.add_plain, cell_of_row _ _ _ _ _ _ hb]
  simpa using hj

theorem ret_bool {a b : Bool} (h : a = b) : Ending.returned (.bool a) = .returned (.bool b) := by rw [h]
theorem ret_int {a b : Int} (h : a = b) : Ending.returned (.int .i64 a) = .returned (.int .i64 b) := by rw [h]
theorem ret_ints {a b c d : Int} (h : a = c) (k : b = d) : Ending.returned (.tuple #[.int .i64 a, .int .i64 b]) = .returned (.tuple #[.int .i64 c, .int .i64 d]) := by rw [h, k]

/-! ### A slice that reads as a list -/
/-- In the world w the value v is a slice whose elements read as xs: each element takes s cells, as enc says. -/
def Sl {α : Type} (enc : α → List Value) (s : Nat) (w : World) (v : Value) (xs : List α) : Prop :=
  ∃ A c, v = .slice A xs.length c ∧ xs.length ≤ c ∧
    (xs ≠ [] → ∃ b off, A = some ⟨b, off, none⟩ ∧ b < w.heap.size ∧ ∀ (i : Nat) (h : i < xs.length) (j : Nat), j < s → w.cell? ⟨b, off + i * s + j, none⟩ = (enc xs[i])[j]?)

section
variable {α : Type} {enc : α → List Value} {s : Nat} {w w' : World} {v : Value} {xs : List α}
theorem Sl.form (h : Sl enc s w v xs) : ∃ A c, v = .slice A xs.length c ∧ xs.length ≤ c := by
  obtain ⟨A, c, h1, h2, _⟩ := h
  exact ⟨A, c, h1, h2⟩
theorem Sl.nil (enc : α → List Value) (s : Nat) (w : World) : Sl enc s w (.slice none 0 0) [] := ⟨none, 0, rfl, Nat.le_refl _, fun h => absurd rfl h⟩
theorem Sl.keep (h : Sl enc s w v xs) (hs : w.heap.size ≤ w'.heap.size) (hk : ∀ p : Addr, p.block < w.heap.size → w'.cell? p = w.cell? p) : Sl enc s w' v xs := by
  obtain ⟨A, c, h1, h2, h3⟩ := h
  refine ⟨A, c, h1, h2, fun hx => ?_⟩
  obtain ⟨b, off, hA, hb, hc⟩ := h3 hx
  exact ⟨b, off, hA, by omega, fun i hi j hj => (hk ⟨b, off + i * s + j, none⟩ hb).trans (hc i hi j hj)⟩
theorem Sl.below (h : Sl enc s w v xs) (hb : Below w.heap.size w w') : Sl enc s w' v xs := h.keep hb.size fun _ hp => hb.cell hp
theorem Sl.alloc (h : Sl enc s w v xs) (o : Obj) : Sl enc s (w.alloc o) v xs := h.below (below_alloc1 w o)
theorem Sl.drew (h : Sl enc s w v xs) : Sl enc s w.drew v xs := h
theorem Sl.drewN (h : Sl enc s w v xs) (k : Nat) : Sl enc s (w.drewN k) v xs := h
theorem Sl.raw {A : Option Addr} {n c : Nat} (h : Sl enc s w (.slice A n c) xs) {k : Nat} (hk : k < xs.length) :
    ∃ b off, A = some ⟨b, off, none⟩ ∧ b < w.heap.size ∧ ∀ j, j < s → w.cell? ⟨b, off + k * s + j, none⟩ = (enc xs[k])[j]? := by
  obtain ⟨A', c', h1, _, h3⟩ := h
  injection h1 with hA _ _
  subst hA
  obtain ⟨b, off, h4, h5, h6⟩ := h3 (by intro e; rw [e] at hk; simp at hk)
  exact ⟨b, off, h4, h5, fun j hj => h6 k hk j hj⟩
end
theorem Sl.at1 {w : World} {A : Option Addr} {n c : Nat} {xs : List Int} (h : Sl e1 1 w (.slice A n c) xs) {k : Nat} (hk : k < xs.length) :
    ∃ b off, A = some ⟨b, off, none⟩ ∧ b < w.heap.size ∧ w.cell? ⟨b, off + k, none⟩ = some (.int .i64 xs[k]) := by
  obtain ⟨b, off, h1, h2, h3⟩ := h.raw hk
  exact ⟨b, off, h1, h2, by simpa [e1] using h3 0 (by omega)⟩
theorem Sl.at2 {w : World} {A : Option Addr} {n c : Nat} {xs : List (Int × Int)} (h : Sl e2 2 w (.slice A n c) xs) {k : Nat} (hk : k < xs.length) :
    ∃ b off, A = some ⟨b, off, none⟩ ∧ b < w.heap.size ∧ w.cell? ⟨b, off + k * 2, none⟩ = some (.int .i64 xs[k].1) ∧ w.cell? ⟨b, off + k * 2 + 1, none⟩ = some (.int .i64 xs[k].2) := by
  obtain ⟨b, off, h1, h2, h3⟩ := h.raw hk
  exact ⟨b, off, h1, h2, by simpa [e2] using h3 0 (by omega), by simpa [e2] using h3 1 (by omega)⟩
theorem Sl.at3 {w : World} {A : Option Addr} {n c : Nat} {xs : List (Int × Int × Int)} (h : Sl e3 3 w (.slice A n c) xs) {k : Nat} (hk : k < xs.length) :
    ∃ b off, A = some ⟨b, off, none⟩ ∧ b < w.heap.size ∧ w.cell? ⟨b, off + k * 3, none⟩ = some (.int .i64 xs[k].1) ∧ w.cell? ⟨b, off + k * 3 + 1, none⟩ = some (.int .i64 xs[k].2.1) ∧
      w.cell? ⟨b, off + k * 3 + 2, none⟩ = some (.int .i64 xs[k].2.2) := by
  obtain ⟨b, off, h1, h2, h3⟩ := h.raw hk
  exact ⟨b, off, h1, h2, by simpa [e3] using h3 0 (by omega), by simpa [e3] using h3 1 (by omega), by simpa [e3] using h3 2 (by omega)⟩

/-! ### A row of the call's own -/
/-- v owns, in new memory from block 'base' on, the elements xs. -/
def Ow {α : Type} (enc : α → List Value) (s : Nat) (e : TypeId) (base : Nat) (w : World) (v : Value) (xs : List α) : Prop := w.ownsRow base e s v xs.length (xs.flatMap enc)

section
variable {α : Type} {enc : α → List Value} {s : Nat} {e : TypeId} {base : Nat} {w w' : World} {v : Value} {xs : List α}
theorem Ow.nil (enc : α → List Value) (s : Nat) (e : TypeId) (base : Nat) (w : World) : Ow enc s e base w (.slice none 0 0) [] := World.ownsRow_nil w base e s
theorem Ow.own (h : Ow enc s e base w v xs) : w.ownsRow base e s v xs.length (xs.flatMap enc) := h
theorem Ow.alloc (h : Ow enc s e base w v xs) (o : Obj) : Ow enc s e base (w.alloc o) v xs := World.ownsRow.alloc h o
theorem Ow.drew (h : Ow enc s e base w v xs) : Ow enc s e base w.drew v xs := h
theorem Ow.drewN (h : Ow enc s e base w v xs) (k : Nat) : Ow enc s e base (w.drewN k) v xs := h
theorem Ow.below (h : Ow enc s e base w v xs) (hb : Below w.heap.size w w') : Ow enc s e base w' v xs := World.ownsRow.kept h (below_grownN hb) (by
  cases hv : v.ownBlock with
  | none => exact .inl rfl
  | some g => exact .inr (by simp))
theorem Ow.less {base' : Nat} (h : Ow enc s e base w v xs) (hb : base' ≤ base) : Ow enc s e base' w v xs := by
  obtain ⟨h1, h2⟩ := h
  refine ⟨h1, ?_⟩
  rcases h2 with h2 | ⟨g, cap, cur, a, b, c⟩
  · exact .inl h2
  · exact .inr ⟨g, cap, cur, a, by omega, c⟩
theorem Ow.sl (h : Ow enc s e base w v xs) (hs : ∀ x, (enc x).length = s) : Sl enc s w v xs := by
  rcases h.2 with ⟨rfl, hn⟩ | ⟨g, cap, cur, rfl, hb, hh, hnc, _, hsz, htk⟩
  · have : xs = [] := List.eq_nil_of_length_eq_zero hn
    subst this
    exact Sl.nil _ _ _
  · refine ⟨_, _, rfl, hnc, fun _ => ⟨g, 0, rfl, ?_, fun i hi j hj => ?_⟩⟩
    · rcases Nat.lt_or_ge g w.heap.size with hlt | hge
      · exact hlt
      · rw [Array.getElem?_eq_none hge] at hh; cases hh
    · have hij : i * s + j < xs.length * s := by
        have : (i + 1) * s ≤ xs.length * s := Nat.mul_le_mul_right s hi
        rw [Nat.add_mul] at this
        omega
      rw [cell_of_row w g _ cur e (0, 0) hh, ← flat_at enc s hs xs i hi j hj, ← htk, List.getElem?_take, if_pos hij, Array.getElem?_toList]
      simp
theorem Ow.snoc {x : α} (h : w.ownsRow base e s v (xs.length + 1) (xs.flatMap enc ++ enc x)) : Ow enc s e base w v (xs ++ [x]) := by
  unfold Ow; simpa using h
theorem Ow.more {ys : List α} (h : w.ownsRow base e s v (xs.length + ys.length) (xs.flatMap enc ++ ys.flatMap enc)) : Ow enc s e base w v (xs ++ ys) := by
  unfold Ow; simpa using h
/-- What an append to a row of the call's own leaves below. -/
theorem Ow.grown {w0 : World} (h : Ow enc s e base w v xs) (hg : w.grownBy w' v.ownBlock) (hb : Below w0.heap.size w0 w) (hbase : w0.heap.size ≤ base) : Below w0.heap.size w0 w' :=
  hb.grown hg hb.size (fun k hk => by have := (World.ownsRow.lt h k hk).1; omega)
theorem Ow.lit (w : World) (cs : Array Value) (xs : List α) (hb : base ≤ w.heap.size) (hm : xs.length ≤ 1000000) (hs : cs.size = xs.length * s) (hc : cs.toList = xs.flatMap enc) :
    Ow enc s e base (w.alloc (.cells cs e)) (.slice (some ⟨w.heap.size, 0, none⟩) xs.length xs.length) xs := by
  have h := World.ownsRow_lit (e := e) w cs xs.length hb (by simp only [maxLen]; omega) hs
  unfold Ow
  rw [← hc]
  exact h
end
theorem e1_len (x : Int) : (e1 x).length = 1 := rfl
theorem e2_len (x : Int × Int) : (e2 x).length = 2 := rfl
theorem e3_len (x : Int × Int × Int) : (e3 x).length = 3 := rfl

/-! ### append onto a row of the call's own, of a slice that reads as a list -/
section
variable {P : Program} {α : Type} {enc : α → List Value}
theorem run_append_of_nil (w : World) (base : Nat) (t ty e : TypeId) (i : TypeInfo) (size : Nat) (ht : P.underlying t = some (.slice e)) (hi : P.info? e = some i)
    (v : Value) (n : Nat) (xs : List Value) (hown : w.ownsRow base e size v n xs) (c : Nat) : (Builtin.append_ #[t, t] ty #[v, .slice none 0 c]).run P w = .ok v w := by
  rcases hown.2 with ⟨rfl, rfl⟩ | ⟨g, cap, cur, rfl, _, _, hnc, _⟩
  · simp [Builtin.append_, run_underlying ht, sizeOf, typeInfo, hi, Builtin.lenOf, Builtin.firstCells]
  · simp [Builtin.append_, run_underlying ht, sizeOf, typeInfo, hi, Builtin.lenOf, Builtin.firstCells, hnc, storeCells]

theorem run_append_sl (w : World) (base : Nat) (t ty e : TypeId) (i : TypeInfo) (z : Value) (size bytes : Nat) (ht : P.underlying t = some (.slice e)) (hi : P.info? e = some i) (hz : i.zero = some z)
    (hsize : i.size = size) (hby : i.bytes = bytes) (hzs : z.cells.size = size) (hsz : 0 < size) (hs : ∀ x, (enc x).length = size) (h1 : ∀ x, ∀ u ∈ enc x, u.oneCell' = true)
    (v : Value) (xs : List α) (hown : Ow enc size e base w v xs) (A : Option Addr) (m c : Nat) (ys : List α) (hr : Sl enc size w (.slice A m c) ys)
    (hbig : (xs.length + ys.length) * bytes ≤ 140737488355328) (hbytes : 0 < bytes) (hbase : base ≤ w.heap.size) :
    ∃ v' w', (Builtin.append_ #[t, t] ty #[v, .slice A m c]).run P w = .ok v' w' ∧ Ow enc size e base w' v' (xs ++ ys) ∧ w.grownBy w' v.ownBlock := by
  have hle : xs.length + ys.length ≤ 140737488355328 := Nat.le_trans (Nat.le_mul_of_pos_right _ hbytes) hbig
  have hm : m = ys.length := by
    obtain ⟨A', c', e, _⟩ := hr.form
    injection e
  by_cases h0 : ys = []
  · subst h0
    simp at hm
    subst hm
    rcases A with _ | ad
    · exact ⟨v, w, run_append_of_nil w base t ty e i size ht hi v _ _ hown c, by simpa using hown, World.grownBy.refl w _⟩
    · obtain ⟨v', w', hrun, h2, h3, _, _⟩ := run_append_own_at (P := P) w base t ty e i z size bytes ht hi hz hsize hby hzs hsz v _ _ hown ad 0 c [] (by simp) (by intro j u hu; simp at hu) (by simp) (by simp only [maxLen]; omega) (by simpa using hbig) hbase
      exact ⟨v', w', hrun, by unfold Ow; simpa using h2, h3⟩
  · have hpos : 0 < ys.length := List.length_pos_iff.2 h0
    obtain ⟨b, off, hA, hb, _⟩ := hr.raw (k := 0) hpos
    subst hA
    subst hm
    obtain ⟨v', w', hrun, h2, h3, _, _⟩ := run_append_own_at (P := P) w base t ty e i z size bytes ht hi hz hsize hby hzs hsz v _ _ hown ⟨b, off, none⟩ ys.length c (ys.flatMap enc) (flat_len enc size hs ys) (by
      intro j u hu
      have hj : j < ys.length * size := by
        have := (List.getElem?_eq_some_iff.1 hu).1
        rwa [flat_len enc size hs] at this
      have hdiv : j / size < ys.length := Nat.div_lt_of_lt_mul (by rwa [Nat.mul_comm] at hj)
      have hmod : j % size < size := Nat.mod_lt _ hsz
      obtain ⟨b', off', e', _, hc⟩ := hr.raw hdiv
      injection e' with e'
      injection e' with e1' e2'
      subst e1'; subst e2'
      have h := hc _ hmod
      rw [← flat_at enc size hs ys _ hdiv _ hmod, Nat.add_assoc, Nat.mul_comm (j / size), Nat.div_add_mod] at h
      rw [Go.WideShapes.add_plain, h, hu]) (flat_one enc h1 ys) (by simp only [maxLen]; omega) hbig hbase
    exact ⟨v', w', hrun, Ow.more h2, h3⟩

theorem wp_append_sl (w : World) {o : Oper} {a : Act} {K : Act → World → Prop} {Q : Exit → Act → World → Prop} (s x : Operand) (t : TypeId)
    (ho : o.op = .call { callee := .builtin .append, args := #[s, x], argTypes := #[t, t] })
    (base : Nat) (e : TypeId) (i : TypeInfo) (z : Value) (size bytes : Nat) (ht : P.underlying t = some (.slice e)) (hi : P.info? e = some i) (hz : i.zero = some z)
    (hsize : i.size = size) (hby : i.bytes = bytes) (hzs : z.cells.size = size) (hsz : 0 < size) (hss : ∀ x, (enc x).length = size) (h1 : ∀ x, ∀ u ∈ enc x, u.oneCell' = true)
    (v : Value) (xs : List α) (hs : a.eval s = v) (hown : Ow enc size e base w v xs) (A : Option Addr) (m c : Nat) (ys : List α) (hx : a.eval x = .slice A m c) (hr : Sl enc size w (.slice A m c) ys)
    (hbig : (xs.length + ys.length) * bytes ≤ 140737488355328) (hbytes : 0 < bytes) (hbase : base ≤ w.heap.size)
    (h : ∀ v' w', Ow enc size e base w' v' (xs ++ ys) → w.grownBy w' v.ownBlock → K (a.put o.dst v') w') : o.wp P a w K Q := by
  obtain ⟨v', w', hrun, h2, h3⟩ := run_append_sl (P := P) w base t o.type e i z size bytes ht hi hz hsize hby hzs hsz hss h1 v xs hown A m c ys hr hbig hbytes hbase
  unfold Oper.wp execOp
  simp only [ho, resolve, invoke, builtin, Sem.run_bind, Sem.run_pure, Result.andThen_ok, List.map_toArray, List.map_cons, List.map_nil, hs, hx, hrun]
  exact h v' w' h2 h3

/-- 'append(v, y...)': v a row of the call's own, y whatever reads as a list. -/
theorem wpList_append_sl (w : World) {ops : Array Oper} {rest : List Oper} {o : Oper} {a : Act} {Q : Exit → Act → World → Prop} (hgd : o.guard = none) (s x : Operand) (t : TypeId)
    (ho : o.op = .call { callee := .builtin .append, args := #[s, x], argTypes := #[t, t] })
    (base : Nat) (e : TypeId) (i : TypeInfo) (z : Value) (size bytes : Nat) (ht : P.underlying t = some (.slice e)) (hi : P.info? e = some i) (hz : i.zero = some z)
    (hsize : i.size = size) (hby : i.bytes = bytes) (hzs : z.cells.size = size) (hsz : 0 < size) (hss : ∀ x, (enc x).length = size) (h1 : ∀ x, ∀ u ∈ enc x, u.oneCell' = true)
    (v : Value) (xs : List α) (hs : a.eval s = v) (hown : Ow enc size e base w v xs) (A : Option Addr) (m c : Nat) (ys : List α) (hx : a.eval x = .slice A m c) (hr : Sl enc size w (.slice A m c) ys)
    (hbig : (xs.length + ys.length) * bytes ≤ 140737488355328) (hbytes : 0 < bytes) (hbase : base ≤ w.heap.size)
    (h : ∀ v' w', Ow enc size e base w' v' (xs ++ ys) → w.grownBy w' v.ownBlock → wpList P ops Q rest (a.put o.dst v') w') : wpList P ops Q (o :: rest) a w :=
  wpList_plain hgd fun _ hK => wp_append_sl w s x t ho base e i z size bytes ht hi hz hsize hby hzs hsz hss h1 v xs hs hown A m c ys hx hr hbig hbytes hbase fun v' w' h2 h3 => hK _ _ (h v' w' h2 h3)

/-- The same where the operation stands in a region that draws its order. -/
theorem step_append_sl (w : World) {ops : Array Oper} {o : Oper} {a : Act} {K : Act → World → Prop} {Q : Exit → Act → World → Prop} {E : Prop} (hgd : o.guard = none) (s x : Operand) (t : TypeId)
    (ho : o.op = .call { callee := .builtin .append, args := #[s, x], argTypes := #[t, t] })
    (base : Nat) (e : TypeId) (i : TypeInfo) (z : Value) (size bytes : Nat) (ht : P.underlying t = some (.slice e)) (hi : P.info? e = some i) (hz : i.zero = some z)
    (hsize : i.size = size) (hby : i.bytes = bytes) (hzs : z.cells.size = size) (hsz : 0 < size) (hss : ∀ x, (enc x).length = size) (h1 : ∀ x, ∀ u ∈ enc x, u.oneCell' = true)
    (v : Value) (xs : List α) (hs : a.eval s = v) (hown : Ow enc size e base w v xs) (A : Option Addr) (m c : Nat) (ys : List α) (hx : a.eval x = .slice A m c) (hr : Sl enc size w (.slice A m c) ys)
    (hbig : (xs.length + ys.length) * bytes ≤ 140737488355328) (hbytes : 0 < bytes) (hbase : base ≤ w.heap.size)
    (h : ∀ v' w', Ow enc size e base w' v' (xs ++ ys) → w.grownBy w' v.ownBlock → K (a.put o.dst v') w') :
    if Region.wanted o (yielded ops a.tmps) = true then Oper.wp P o a w K Q else E := by
  have hw : Region.wanted o (yielded ops a.tmps) = true := by simp [Region.wanted, hgd]
  rw [if_pos hw]
  exact wp_append_sl w s x t ho base e i z size bytes ht hi hz hsize hby hzs hsz hss h1 v xs hs hown A m c ys hx hr hbig hbytes hbase h
end
end Go.Proofs.Ytghglgaimhfedaa
