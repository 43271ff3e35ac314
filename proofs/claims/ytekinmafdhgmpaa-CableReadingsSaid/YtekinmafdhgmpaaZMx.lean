/-
  The law CableBalance: remainders, and the law where it says nothing.
-/
import Derived.Test.YtekinmafdhgmpaaZMw
namespace Go.Proofs.Ytekinmafdhgmpaa
open Go.RowKit Go.Shelf

theorem mod_math (n m : Int) (hm : 0 < m) : (if n.tmod m < 0 then n.tmod m + m else n.tmod m) = n % m := by
  have h1 := Int.mul_tdiv_add_tmod n m
  have h2 := Int.tmod_lt_of_pos n hm
  have h3 : -m < n.tmod m := by
    have := Int.lt_tmod_of_pos n hm
    omega
  by_cases h : n.tmod m < 0
  · rw [if_pos h]
    refine ((Int.ediv_emod_unique hm (a := n) (q := n.tdiv m - 1) (r := n.tmod m + m)).2 ⟨?_, by omega, by omega⟩).2.symm
    rw [Int.mul_sub]; omega
  · rw [if_neg h]
    exact ((Int.ediv_emod_unique hm (a := n) (q := n.tdiv m) (r := n.tmod m)).2 ⟨by omega, by omega, by omega⟩).2.symm
theorem Mod_any (n m : Int) (w : World) (hm : 0 < m) (hm' : m ≤ 1000000000000000000) :
    Calls Try.prog 23 #[.int .i64 n, .int .i64 m] w fun e w' => e = .returned (.int .i64 (n % m)) ∧ w = w' := by
  have E := Lib.hid (mod_math n m hm)
  have h2 := Int.tmod_lt_of_pos n hm
  have h3 : -m < n.tmod m := by
    have := Int.lt_tmod_of_pos n hm
    omega
  have hz : (m == 0) = false := by rw [beq_eq_false_iff_ne]; omega
  have hw1 : IntKind.i64.wrap (n.tmod m) = n.tmod m := IntWalk.i64_in _ (by omega)
  by_cases h : n.tmod m < 0
  · rw [if_pos h] at E
    have hw2 : IntKind.i64.wrap (n.tmod m + m) = n.tmod m + m := IntWalk.i64_in _ (by omega)
    go_enter Try.func23, Try.ntmps23
    go_wp2
    go_ret
    exact ⟨ret_int E.out, by trivial⟩
  · rw [if_neg h] at E
    go_enter Try.func23, Try.ntmps23
    go_wp2
    go_ret
    exact ⟨ret_int E.out, by trivial⟩
theorem run_store_int (w : World) (b o : Nat) (x : Int) {u : Value} (h : At w ⟨b, o, none⟩ u) :
    ∃ w', (Instr.storeAt 3 (.pointer (some ⟨b, o, none⟩)) (.int .i64 x)).run Try.prog w = .ok () w' ∧ w' = w.setCell ⟨b, o, none⟩ (.int .i64 x) := by
  obtain ⟨c0, f0⟩ := h
  refine ⟨_, ?_, rfl⟩
  go_simp
/-- What stays true while old memory stays as it is. -/
def Keeps (P : World → Prop) : Prop := ∀ w w', P w → Below w.heap.size w w' → P w'
theorem keeps_cell (p : Addr) (v : Value) : Keeps fun W => W.cell? p = some v := fun _ _ h hb => (hb.cell (cell_lt h)).trans h
theorem keeps_sl {α : Type} (enc : α → List Value) (s : Nat) (v : Value) (xs : List α) : Keeps fun W => Sl enc s W v xs := fun _ _ h hb => h.below hb
theorem keeps_below (w : World) : Keeps fun W => Below w.heap.size w W := fun _ _ h hb => below_tr h hb
theorem Keeps.and {P Q : World → Prop} (h : Keeps P) (k : Keeps Q) : Keeps fun W => P W ∧ Q W := fun _ _ ⟨a, b⟩ hb => ⟨h _ _ a hb, k _ _ b hb⟩
theorem keeps_cells (b : Nat) (x y : Int) (v : Value) : Keeps fun W => W.cell? ⟨b, 0, none⟩ = some (.int .i64 x) ∧ W.cell? ⟨b, 1, none⟩ = some (.int .i64 y) ∧ W.cell? ⟨b, 2, none⟩ = some v := (keeps_cell _ _).and ((keeps_cell _ _).and (keeps_cell _ _))
theorem box_cells {w : World} {b : Nat} {x y : Int} (h : Sl e1 1 w (.slice (some ⟨b, 0, none⟩) 2 2) [x, y]) : w.cell? ⟨b, 0, none⟩ = some (.int .i64 x) ∧ w.cell? ⟨b, 1, none⟩ = some (.int .i64 y) := by
  obtain ⟨b', o', e, _, c0⟩ := h.at1 (k := 0) (by simp)
  obtain ⟨b2, o2, e2, _, c1⟩ := h.at1 (k := 1) (by simp)
  injection e with e
  injection e with ea eb
  injection e2 with e2
  injection e2 with ec ed
  subst ea; subst eb; subst ec; subst ed
  exact ⟨by simpa using c0, by simpa using c1⟩
end Go.Proofs.Ytekinmafdhgmpaa
