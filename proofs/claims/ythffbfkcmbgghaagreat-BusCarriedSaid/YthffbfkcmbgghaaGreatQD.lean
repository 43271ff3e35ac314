/-
  Walks of chapter 1's turns: the iterator over the ways of a path, and what ranges over it.
-/
import Derived.Test.YthffbfkcmbgghaaGreatQC
import Derived.Test.YthffbfkcmbgghaaGreatQB
import Derived.Test.YthffbfkcmbgghaaGreatZWh
import Derived.StillTailTactics
import Derived.Deep.DeepCutAuto
set_option linter.all false
namespace Go.Proofs.YthffbfkcmbgghaaGreat
open Go.RowKit Go.Shelf
attribute [local go_sem] Oper.semAt_some
end Go.Proofs.YthffbfkcmbgghaaGreat

namespace Go.Proofs.YthffbfkcmbgghaaGreat
open Go.RowKit Go.Shelf
attribute [local go_sem] Oper.semAt_some wide_fn wide_depth round_fn round_depth
end Go.Proofs.YthffbfkcmbgghaaGreat

namespace Go.Proofs.YthffbfkcmbgghaaGreat
open Go.RowKit Go.Shelf
end Go.Proofs.YthffbfkcmbgghaaGreat

namespace Go.Proofs.YthffbfkcmbgghaaGreat
open Go.RowKit Go.Shelf
attribute [local go_sem] Oper.semAt_some wide_fn wide_depth round_fn round_depth
end Go.Proofs.YthffbfkcmbgghaaGreat

namespace Go.Proofs.YthffbfkcmbgghaaGreat
open Go.RowKit Go.Shelf
theorem Sl.way {w : World} {A : Option Addr} {n c : Nat} {path : List Pt} (h : Sl e2 2 w (.slice A n c) path) {k : Nat} (hk : k < path.length) (hbig : path.length ≤ 1000) :
    ∃ (b off j : Nat) (a1 a2 b1 b2 : Int), A = some ⟨b, off, none⟩ ∧ b < w.heap.size ∧ j < path.length ∧ (ways path).take (k + 1) = (ways path).take k ++ [((a1, a2), (b1, b2))] ∧ ((a1, a2), (b1, b2)) ∈ ways path ∧
      w.cell? ⟨b, off + k * 2, none⟩ = some (.int .i64 a1) ∧ w.cell? ⟨b, off + k * 2 + 1, none⟩ = some (.int .i64 a2) ∧ w.cell? ⟨b, off + j * 2, none⟩ = some (.int .i64 b1) ∧ w.cell? ⟨b, off + j * 2 + 1, none⟩ = some (.int .i64 b2) ∧
      ((path.length : Int) == 0) = false ∧ path ≠ [] ∧ IntKind.i64.wrap ((k : Int) + 1) = (k : Int) + 1 ∧ ((k : Int) + 1).tmod (path.length : Int) = (j : Int) ∧ ((k : Int) + 1) % (path.length : Int) = (j : Int) := by
  obtain ⟨b, off, rfl, hbl, hc0, hc1⟩ := h.at2 hk
  have hjl : (k + 1) % path.length < path.length := Nat.mod_lt _ (by omega)
  obtain ⟨b', off', e', _, hd0, hd1⟩ := h.at2 hjl
  injection e' with e'
  injection e' with e1 e2'
  subst e1; subst e2'
  have hwl : k < (ways path).length := by rw [ways_len]; exact hk
  have hway : (ways path)[k] = (path[k], path[(k + 1) % path.length]) := by rw [ways_at _ _ hk]; unfold wayAt; rw [getD_eq _ _ _ hk, getD_eq _ _ _ hjl]
  have hm : (path[k], path[(k + 1) % path.length]) ∈ ways path := by rw [← hway]; exact List.getElem_mem _
  refine ⟨b, off, (k + 1) % path.length, path[k].1, path[k].2, path[(k + 1) % path.length].1, path[(k + 1) % path.length].2, rfl, hbl, hjl, ?_, hm, hc0, hc1, hd0, hd1, ?_, ?_, IntWalk.i64_in _ (by omega), ?_, rfl⟩
  · rw [List.take_succ_eq_append_getElem hwl, hway]
  · rw [beq_eq_false_iff_ne]; omega
  · rintro rfl; simp at hk
  · rw [Int.tmod_eq_emod_of_nonneg (by omega)]; rfl
end Go.Proofs.YthffbfkcmbgghaaGreat

namespace Go.Proofs.YthffbfkcmbgghaaGreat
open Go.RowKit Go.Shelf
end Go.Proofs.YthffbfkcmbgghaaGreat

namespace Go.Proofs.YthffbfkcmbgghaaGreat
open Go.RowKit Go.Shelf
end Go.Proofs.YthffbfkcmbgghaaGreat
