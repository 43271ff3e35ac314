/-
  The law CableLines: plain mathematics of the least load, and the contracts that its walk uses.
-/
import Derived.Test.YtghglgaimhfedaaQN
import Derived.Test.YtghglgaimhfedaaZKn
import Derived.Test.YtghglgaimhfedaaZMg
namespace Go.Proofs.Ytghglgaimhfedaa
open Go.RowKit Go.Shelf
attribute [local go_sem] monoUpon_value monoUpon_skip monoUpon_enter

theorem zsF_shift (z d : Int) (ks : List Lk) : zsF (z + d) ks = (zsF z ks).map (· + d) := by
  induction ks generalizing z with
  | nil => rfl
  | cons k r ih =>
    simp only [zsF, List.map_cons]
    rw [show z + d + k.2.1 = z + k.2.1 + d by omega, ih]
theorem zs_with (l : Ln) (z' : Int) : zs ⟨l.x, z', l.ks⟩ = (zs l).map (· + (z' - l.z)) := by
  unfold zs
  rw [← zsF_shift]
  congr 1
  simp only
  omega
theorem minF_le (m : Int) (xs : List Int) : minF m xs ≤ m ∧ ∀ x ∈ xs, minF m xs ≤ x := by
  induction xs generalizing m with
  | nil => exact ⟨Int.le_refl _, fun x h => by simp at h⟩
  | cons y r ih =>
    obtain ⟨h1, h2⟩ := ih (min m y)
    refine ⟨by simp only [minF]; omega, fun x hx => ?_⟩
    simp only [minF]
    rcases List.mem_cons.1 hx with rfl | hx
    · omega
    · exact h2 x hx
theorem minF_mem (m : Int) (xs : List Int) : minF m xs = m ∨ minF m xs ∈ xs := by
  induction xs generalizing m with
  | nil => exact .inl rfl
  | cons y r ih =>
    simp only [minF]
    rcases ih (min m y) with h | h
    · rw [h]
      by_cases hy : y ≤ m
      · right; rw [Int.min_eq_right hy]; simp
      · left; omega
    · exact .inr (List.mem_cons_of_mem _ h)
theorem slackF_nil (xs : List Int) (k : Nat) (h : ∀ x ∈ xs, 0 < x) : slackF xs k = [] := by
  induction xs generalizing k with
  | nil => rfl
  | cons y r ih =>
    rw [slackF, if_neg (by have := h y (by simp); omega)]
    exact ih _ (fun x hx => h x (by simp [hx]))
theorem slackF_pos (xs : List Int) (k : Nat) (x : Int) (hx : x ∈ xs) (h : x ≤ 0) : 0 < (slackF xs k).length := by
  induction xs generalizing k with
  | nil => simp at hx
  | cons y r ih =>
    rw [slackF]
    by_cases hy : y ≤ 0
    · rw [if_pos hy]; simp
    · rw [if_neg hy]
      rcases List.mem_cons.1 hx with rfl | hx
      · exact absurd h hy
      · exact ih _ hx
theorem headD_mem' (xs : List Int) (h : 0 < xs.length) : xs.headD 0 ∈ xs := by
  cases xs with
  | nil => simp at h
  | cons x r => simp
theorem least_tight (l : Ln) : slack ⟨l.x, least l, l.ks⟩ = [] := by
  unfold slack
  rw [zs_with]
  refine slackF_nil _ _ fun x hx => ?_
  obtain ⟨y, hy, rfl⟩ := List.mem_map.1 hx
  have := (minF_le ((zs l).headD 0) (zs l)).2 y hy
  unfold least
  omega
theorem least_loose (l : Ln) (h : 0 < l.ks.length) : 0 < (slack ⟨l.x, least l - 1, l.ks⟩).length := by
  unfold slack
  rw [zs_with]
  have hm : minF ((zs l).headD 0) (zs l) ∈ zs l := by
    rcases minF_mem ((zs l).headD 0) (zs l) with e | e
    · rw [e]; exact headD_mem' _ (by rw [zs_len]; exact h)
    · exact e
  refine slackF_pos _ _ _ (List.mem_map.2 ⟨_, hm, rfl⟩) ?_
  unfold least
  omega
theorem lineErr_with {l : Ln} (h : lineErr l = 0) (z' : Int) (hz : -10000 ≤ z' ∧ z' ≤ 10000) : lineErr ⟨l.x, z', l.ks⟩ = 0 := by
  have hk := lineErr_ok h
  have hc := checkLine_ok h
  unfold checkLine at hc
  unfold lineErr checkLine
  rw [if_pos ⟨inR_iff.2 ⟨hk.x0, hk.x1⟩, inR_iff.2 ⟨hk.z0, hk.z1⟩⟩] at hc
  rw [if_pos ⟨inR_iff.2 ⟨hk.x0, hk.x1⟩, inR_iff.2 hz⟩]
  simp only
  rw [hc]
theorem Sl.set {α : Type} {enc : α → List Value} {s : Nat} {w : World} {v : Value} {xs : List α} (h : Sl enc s w v xs) {p : Addr} {u : Value} (hne : ∀ b, v.ownBlock = some b → b ≠ p.block) : Sl enc s (w.setCell p u) v xs :=
  Sl.kpt (S := fun b => b ≠ p.block) h ⟨by simp, fun i hi _ => Below.heap_setCell _ _ _ i hi⟩ hne
/-- A new box for a line. -/
def lineBox (N : Nat) (v : Value) (w : World) : Prop := ∃ b, v = .pointer (some ⟨b, 0, none⟩) ∧ N ≤ b ∧ w.heap[b]? = some (.cells #[.int .i64 0, .int .i64 0, .slice none 0 0] 26 (0, 0))
theorem st_lineBox (N : Nat) : Stab (lineBox N) := fun _ w _ ⟨b, h1, h2, h3⟩ hb => ⟨b, h1, h2, (hb.block b (by
  rcases Nat.lt_or_ge b w.heap.size with h | h
  · exact h
  · rw [Array.getElem?_eq_none h] at h3; cases h3)).trans h3⟩
theorem lineBox_at {w : World} {b : Nat} (h : w.heap[b]? = some (.cells #[.int .i64 0, .int .i64 0, .slice none 0 0] 26 (0, 0))) : At w ⟨b, 0, none⟩ (.int .i64 0) ∧ At w ⟨b, 1, none⟩ (.int .i64 0) ∧ At w ⟨b, 2, none⟩ (.slice none 0 0) := by
  refine ⟨⟨?_, frozen_of_row _ _ _ _ _ h⟩, ⟨?_, frozen_of_row _ _ _ _ _ h⟩, ?_, frozen_of_row _ _ _ _ _ h⟩
  · rw [cell_of_row _ _ _ _ _ _ h]; rfl
  · rw [cell_of_row _ _ _ _ _ _ h]; rfl
  · rw [cell_of_row _ _ _ _ _ _ h]; rfl
/-- A list of links does not lie in a new box of a line. -/
theorem links_apart {w : World} {v : Value} {ks : List Lk} {b : Nat} (hs : Sl e3 3 w v ks) (hk : 0 < ks.length) (h : w.heap[b]? = some (.cells #[.int .i64 0, .int .i64 0, .slice none 0 0] 26 (0, 0))) : ∀ c, v.ownBlock = some c → c ≠ b := by
  obtain ⟨A, cap, rfl, _⟩ := hs.form
  obtain ⟨b', off, rfl, hb', _, _, hc⟩ := hs.at3 hk
  intro c e
  simp [Value.ownBlock] at e
  subst e
  rintro rfl
  rw [cell_of_row _ _ _ _ _ _ h] at hc
  simp only [Nat.zero_mul, Nat.add_zero] at hc
  match off with
  | 0 => simp at hc
  | off + 1 => simp at hc
/-- A store in a list of operations, its new world named by the caller. -/
theorem wpList_store {P : Program} {ops : Array Oper} {rest : List Oper} {o : Oper} {a : Act} {w w' : World} {Q : Exit → Act → World → Prop} {t : TypeId} {p x : Operand} {vp vx : Value} (hgd : o.guard = none) (ho : o.op = .store t p x) (hd : o.dst = none)
    (hp : a.eval p = vp) (hx : a.eval x = vx) (hrun : (Instr.storeAt t vp vx).run P w = .ok () w') (h : wpList P ops Q rest a w') : wpList P ops Q (o :: rest) a w :=
  wpList_plain hgd fun _ hK => by
    unfold Oper.wp execOp
    simp only [ho, Sem.run_bind, Sem.run_pure, Result.andThen_ok, hp, hx, hrun]
    have := hK a w' h
    simpa [Oper.upon, hd, Act.put] using this
set_option maxRecDepth 100000 in
theorem run_store_line (w : World) (b : Nat) (x z : Int) (A : Option Addr) (n c : Nat) {u0 u1 u2 : Value} (h0 : At w ⟨b, 0, none⟩ u0) (h1 : At w ⟨b, 1, none⟩ u1) (h2 : At w ⟨b, 2, none⟩ u2) :
    ∃ w', (Instr.storeAt 26 (.pointer (some ⟨b, 0, none⟩)) (.agg #[.int .i64 x, .int .i64 z, .slice A n c])).run Try.prog w = .ok () w' ∧ w' = ((w.setCell ⟨b, 0, none⟩ (.int .i64 x)).setCell ⟨b, 1, none⟩ (.int .i64 z)).setCell ⟨b, 2, none⟩ (.slice A n c) := by
  obtain ⟨c0, f0⟩ := h0
  obtain ⟨c1, f1⟩ := h1
  obtain ⟨c2, f2⟩ := h2
  refine ⟨_, ?_, rfl⟩
  go_simp
theorem lays_line : ∀ w, (Instr.alloc 26 true (.tuple #[])).run Try.prog w = .ok (.pointer (some ⟨w.heap.size, 0, none⟩)) (w.alloc (.cells #[.int .i64 0, .int .i64 0, .slice none 0 0] 26)) := by
  intro w
  go_simp
end Go.Proofs.Ytghglgaimhfedaa
