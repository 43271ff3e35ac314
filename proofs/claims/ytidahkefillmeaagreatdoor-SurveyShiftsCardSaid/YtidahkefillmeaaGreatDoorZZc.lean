/-
  bits.Len64 as a known call, by its contract.
-/
import Derived.Test.YtidahkefillmeaaGreatDoorZZb
import Derived.Lib.BitFns
set_option linter.all false
namespace Go.Proofs.YtidahkefillmeaaGreatDoor.Cm
open Go Go.RowKit
def Len64C (P : Program) (f : FuncId) : Prop := ∀ (x : Int) (w : World), 0 ≤ x → x ≤ 18446744073709551615 → Calls P f #[.int .u64 x] w fun e w' => e = .returned (.int .i64 (Lib.bitLen x.toNat)) ∧ w' = w
theorem hr_nil {V V' : Val} {φ : Phi} {w w' : World} (h : @HR V φ (heapO []) w) (hw : w.heap.size ≤ w'.heap.size) : @HR V' φ (heapO []) w' := by
  obtain ⟨gn, gg⟩ := heapGo_get [] ⟨0, .e⟩ (fun b _ => by cases b <;> rfl)
  have gg : ∀ b, (heapO []).get b = none := fun b => by
    have := gg b
    rw [if_neg (Nat.not_lt_zero _)] at this
    exact this
  have lt := fun b p e => @HR.lt V _ _ _ h b p e
  refine ⟨fun b o p e => ?_, fun b b' o o' p p' e => ?_, fun b p e => ⟨(lt b p e).1, ?_⟩, fun b _ => gg b, fun b o e => ?_⟩
  · rw [gg] at e; cases e
  · rw [gg] at e; cases e
  · have := (lt b p e).2; omega
  · rw [gg] at e; cases e
theorem ext_len64 {P : Program} {f : Nat} (C : Len64C P f) (hf : runsB P f 1 = true) (a : Int) (h : 0 ≤ a ∧ a ≤ 18446744073709551615) : CallOk P f (vals [a] []) [.sym .u64 (.v 0)] [] 0 (vals [(Lib.bitLen a.toNat : Int)] []) (.sym .i64 (.v 0)) [] := by
  refine call_of (O := []) (N := []) hf rfl fun φ args' w hh ha => ?_
  refine ⟨.int .i64 (Lib.bitLen a.toNat), ?_, @VR.sym (vals [(Lib.bitLen a.toNat : Int)] []) φ .i64 (.v 0), fun w' hw => hr_nil hh hw.size⟩
  cases ha with
  | cons h1 h2 =>
    cases h1; cases h2
    refine (C a w h.1 h.2).mono ?_
    rintro e w' ⟨rfl, rfl⟩
    exact ⟨rfl, rfl, rfl, rfl, Nat.le_refl _, fun _ _ => rfl⟩
end Go.Proofs.YtidahkefillmeaaGreatDoor.Cm
