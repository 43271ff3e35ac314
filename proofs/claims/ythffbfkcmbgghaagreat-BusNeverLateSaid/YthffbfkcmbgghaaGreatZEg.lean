/-
  The clean machine: calls of what is known, evaluated whole.
-/
import Derived.Test.YthffbfkcmbgghaaGreatZEc
import Derived.Test.YthffbfkcmbgghaaGreatZEd
set_option linter.all false
namespace Go.Proofs.YthffbfkcmbgghaaGreat.Cm
open Go Go.RowKit
def closedC [Dec] (P : Program) (n f : Nat) (args : List CV) (O : Objs) (l0 : Nat) (R : Res) : Option (List Eqn) := callR O.length l0 R (callC0 P (codeC P n) f args (heapO O))
theorem closed_of {P : Program} (hm : P.follows .mixedOrders = true) (x : Fx) {V V' : Val} (hc : ∀ l, V.cod l = rangeAt P l) (hx : x.ok V) (hk : knsOk P V x.kns) {n f l0 : Nat} {args : List CV} {O : Objs} {R : Res} {qs : List Eqn} (hf : runsB P f args.length = true) (e : @closedC (decF x) P n f args O l0 R = some qs) (hq : eqnsOk V V' qs) : CallOk P f V args O l0 V' R.c R.O := by
 have hrun := (@codeC_ok (envF x V hx) P hm (known_env hk hc) n).1
 unfold closedC callR at e
 split at e
 ·rename_i c h' lw hc2
  refine ⟨?_, fun φ args' w hh ha => callsIn_wide.1 (?_ : CallsIn Fence.wide 0 P f ⟨args'⟩ w _)⟩
  ·unfold runsB at hf
   split at hf
   ·rename_i fn hfn
    simp only [Bool.and_eq_true, Bool.not_eq_true'] at hf
    obtain ⟨⟨h1, h2⟩, _⟩ := hf
    split at h1
    ·rename_i cd hcd
     exact ⟨fn, cd, hfn, hcd, h2⟩
    ·cases h1
   ·cases hf
  ·obtain ⟨_, _, _, h1⟩ := @call_in0 (envF x V hx) P φ (heapO O) w _ hrun f args args' c h' lw hc2 hh ha Fence.wide wide_fw 0
   refine h1.mono ?_
   rintro en w' ⟨v, φ', rfl, g1, g2, g3⟩
   have hl : l0 ≤ lw := by
    have e2 := e
    unfold chkR at e2
    obtain ⟨c1, _⟩ := bif_s e2
    simp only [Bool.and_eq_true] at c1
    exact Nat.le_of_ble_eq_true c1.1.1.1.1
   rw [heapO_n] at g1
   exact chkR_post (@Went.weak V _ _ _ _ _ _ _ _ g1 hl (Nat.le_refl _)) g2 g3 (fun b p ep => by have := (@HR.lt V _ _ _ hh b p ep).1; rwa [heapO_n] at this) e hq
 ·cases e
end Go.Proofs.YthffbfkcmbgghaaGreat.Cm
namespace Go.Proofs.YthffbfkcmbgghaaGreat
open Go Go.RowKit
abbrev ys (n : Nat) : Cm.CV := .sym .i64 (.v n)
theorem lnil {α : Type} (l : List α) : l = l ++ [] := (List.append_nil l).symm
abbrev KO (P : Program) (X : List Int) (Y : List (List Value)) (K : Cm.KE) : Prop := ∀ N M, ∃ v x q, Cm.KE.ok P (Cm.vals (X ++ N) (Y ++ M)) K v x q
abbrev ns (a b : Nat) : Cm.Eqn := .num (.v a) (.v b)
theorem tv : True := trivial
theorem bs1 {α β : Type} {o : Option α} {f : α → Option β} {b : β} (h : o.bind f = some b) : ∃ a, o = some a ∧ f a = some b := Option.bind_eq_some_iff.1 h
end Go.Proofs.YthffbfkcmbgghaaGreat
