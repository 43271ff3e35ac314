/-
  Calls of the library, by contracts that are proved once for every program.
-/
import Derived.Test.YtlfmdkmjfokgbaaGreatDoorZEd
import Derived.Lib.LaidTab
import Derived.Shelf.Strings.OnBuilder
import Derived.Shelf.Strconv.Itoa3
set_option linter.all false
namespace Go.Proofs.YtlfmdkmjfokgbaaGreatDoor.Cm
open Go Go.RowKit
theorem runs_fn {P : Program} {f : FuncId} {n : Nat} (h : runsB P f n = true) : ∃ fn cd, P.funcs[f]? = some fn ∧ fn.body = some cd ∧ (fn.name == "runtime.NumGoroutine") = false := by
  unfold runsB at h
  split at h
  · rename_i fn hf
    simp only [Bool.and_eq_true, Bool.not_eq_true'] at h
    obtain ⟨⟨h1, h2⟩, _⟩ := h
    split at h1
    · rename_i cd hcd
      exact ⟨fn, cd, hf, hcd, h2⟩
    · cases h1
  · cases h
theorem call_of {P : Program} {f n : Nat} {V V' : Val} {args : List CV} {O N : Objs} {r : CV} (hf : runsB P f n = true) (hN : N.length = O.length) (h : ∀ (φ : Phi) (args' : List Value) (w : World), @HR V φ (heapO O) w → @VRs V φ args args' →
    ∃ u, Calls P f ⟨args'⟩ w (fun e w' => e = .returned u ∧ Below w.heap.size w w') ∧ @VR V' φ r u ∧ ∀ w', Went φ O.length O.length w φ w' → @HR V' φ (heapO N) w') : CallOk P f V args O O.length V' r N := by
  refine ⟨runs_fn hf, fun φ args' w hh ha => ?_⟩
  obtain ⟨u, h1, h2, h3⟩ := h φ args' w hh ha
  refine h1.mono ?_
  rintro e w' ⟨rfl, hb⟩
  have hw : Went φ O.length O.length w φ w' := ⟨Phi.le_refl φ, fun _ _ h => .inl h, hb.os, hb.tape, hb.output, hb.size, fun r hr _ => hb.block r hr⟩
  refine ⟨u, φ, rfl, hw, fun _ _ => rfl, h3 w' hw, h2, fun b p hb1 ep => ?_⟩
  have := (@HR.lt V _ _ _ hh b p ep).1
  rw [heapO_n] at this
  omega
theorem glob_tab {P : Program} {V : Val} {φ : Phi} {h : CH} {w : World} {b g : Nat} {k : IntKind} {zs : List Nat} (hh : @HR V φ h w) (hb : h.get b = some (.glob g k zs)) {name : String} (hg : P.globalNamed name = some g) : Lib.TabIs P w name k (zs.map fun (n : Nat) => (n : Int)) := by
  obtain ⟨p, hp⟩ := @HR.gl V _ _ _ hh b _ hb rfl
  obtain ⟨h1, _, _, t, fz, h4⟩ := @HR.ob V _ _ _ hh b _ p hb hp
  unfold Lib.TabIs World.var?
  rw [hg, Option.bind_some, ← h1, h4, List.map_map]
  rfl
theorem below_grow (w : World) (k : Nat) (os : Array Obj) : Below w.heap.size w (Sort.grow (w.drewN k) os) :=
  ⟨rfl, rfl, rfl, by show w.heap.size ≤ (w.heap ++ os).size; simp, fun j hj => by
    show (w.heap ++ os)[j]? = w.heap[j]?
    rw [Array.getElem?_append_left hj]⟩
def ItoaC (P : Program) (f : FuncId) : Prop := ∀ (n : Int), -9223372036854775808 ≤ n → n ≤ 9223372036854775807 → ∀ w : World, Lib.TabIs P w "internal/strconv.uint64pow10" .u64 Lib.pow10Tab →
  Calls P f #[.int .i64 n] w fun e w' => e = .returned (.string ⟨(Lib.itoa n).toArray⟩) ∧ ∃ k os, w' = Sort.grow (w.drewN k) os
def JoinC (P : Program) (f : FuncId) : Prop := ∀ (bk o c : Nat) (xs : List ByteArray) (sep : ByteArray) (w : World), (∀ (j : Nat) x, xs[j]? = some x → w.cell? ⟨bk, o + j, none⟩ = some (.string x)) → bk < w.heap.size → xs.length ≤ 140737488355328 → xs.length ≤ c → (Lib.join (xs.map (·.data.toList)) sep.data.toList).length ≤ 140737488355328 →
  Calls P f #[.slice (some ⟨bk, o, none⟩) xs.length c, .string sep] w fun e w' => e = .returned (.string ⟨(Lib.join (xs.map (·.data.toList)) sep.data.toList).toArray⟩) ∧ Below w.heap.size w w'
end Go.Proofs.YtlfmdkmjfokgbaaGreatDoor.Cm
