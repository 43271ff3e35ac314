/-
  Arguments of a law: lists that are read.
-/
import Derived.Test.YthffbfkcmbgghaaGreatZKb
import Derived.Test.YthffbfkcmbgghaaGreatZEd
import Derived.Lib.LaidTab
set_option linter.all false
namespace Go.Proofs.YthffbfkcmbgghaaGreat.Cm
open Go Go.RowKit
def phiL (xs : List (Option Pl)) : Phi := fun b => match xs[b]? with
 | some x => x
 | none => none
def Rd (V : Val) (w : World) (i : Nat) (p : Pl) : Prop :=
 p.r < w.heap.size ∧ ∃ cs t fz, w.heap[p.r]? = some (.cells cs t fz) ∧ cs.size = p.z ∧ p.o + (V.lst i).length ≤ p.z ∧ (cs.toList.drop p.o).take (V.lst i).length = V.lst i
def RdG (w : World) (g : Nat) (k : IntKind) (zs : List Nat) (p : Pl) : Prop := p = ⟨g, 0, zs.length⟩ ∧ g < w.heap.size ∧ ∃ t fz, w.heap[g]? = some (.cells (zs.map fun (n : Nat) => Value.int k (n : Int)).toArray t fz)
def RdO (V : Val) (w : World) : Option CObj → Option Pl → Prop
 | some (.rows i [] _ true), some p => Rd V w i p
 | some (.glob g k zs), some p => RdG w g k zs p
 | some (.rows _ [] _ true), none => True
 | _, _ => False
def RdAll (V : Val) (w : World) : Objs → List (Option Pl) → Prop
 | [], [] => True
 | o :: O, x :: xs => RdO V w o x ∧ RdAll V w O xs
 | _, _ => False
theorem RdAll.at {V : Val} {w : World} : ∀ {O : Objs} {xs : List (Option Pl)}, RdAll V w O xs → xs.length = O.length ∧ ∀ (b : Nat) (o : Option CObj) (x : Option Pl), O[b]? = some o → xs[b]? = some x → RdO V w o x
 | [], [], _ => ⟨rfl, fun b o x e => by simp at e⟩
 | [], _ :: _, h => h.elim
 | _ :: _, [], h => h.elim
 | o :: O, x :: xs, h => by
  obtain ⟨h1, h2⟩ := h.2.at
  refine ⟨by simp [h1], fun b o' x' e1 e2 => ?_⟩
  cases b with
  | zero =>
   rw [List.getElem?_cons_zero] at e1 e2
   injection e1 with e1; injection e2 with e2
   subst e1; subst e2
   exact h.1
  | succ b => exact h2 b o' x' (by simpa using e1) (by simpa using e2)
theorem RdO.some {V : Val} {w : World} {o : Option CObj} {p : Pl} (h : RdO V w o (some p)) : (∃ i t, o = Option.some (.rows i [] t true) ∧ Rd V w i p) ∨ ∃ g k zs, o = Option.some (.glob g k zs) ∧ RdG w g k zs p := by
 unfold RdO at h
 split at h
 ·rename_i i t q e1 e2
  injection e2 with e2; subst e2
  exact .inl ⟨_, _, rfl, h⟩
 ·rename_i g k zs q e1 e2
  injection e2 with e2; subst e2
  exact .inr ⟨_, _, _, rfl, h⟩
 ·rename_i e2; cases e2
 ·exact h.elim
theorem hr_rows {V : Val} {w : World} {O : Objs} {xs : List (Option Pl)} (h : RdAll V w O xs) : @HR V (phiL xs) (heapO O) w := by
 obtain ⟨hl, ha⟩ := h.at
 obtain ⟨gn, gg⟩ := heapGo_get O ⟨0, .e⟩ (fun b _ => by cases b <;> rfl)
 have gn : (heapO O).n = O.length := gn.trans (Nat.zero_add _)
 have gg : ∀ b, (heapO O).get b = match O[b]? with | some o => o | none => none := fun b => by
  have := gg b
  rw [if_neg (Nat.not_lt_zero _)] at this
  exact this
 have one : ∀ b o p, (heapO O).get b = some o → phiL xs b = some p → (∃ i t, o = .rows i [] t true ∧ Rd V w i p) ∨ ∃ g k zs, o = .glob g k zs ∧ RdG w g k zs p := fun b o p e1 e2 => by
  rw [gg] at e1
  unfold phiL at e2
  split at e1
  ·rename_i o' ho
   subst e1
   split at e2
   ·rename_i x hx
    subst e2
    rcases (ha b _ _ ho hx).some with ⟨i, t, e, h⟩ | ⟨g, k, zs, e, h⟩
    ·injection e with e
     exact .inl ⟨i, t, e, h⟩
    ·injection e with e
     exact .inr ⟨g, k, zs, e, h⟩
   ·cases e2
  ·cases e1
 have ro : ∀ b o p, (heapO O).get b = some o → phiL xs b = some p → o.ro = true := fun b o p e1 e2 => by
  rcases one b o p e1 e2 with ⟨i, t, rfl, _⟩ | ⟨g, k, zs, rfl, _⟩ <;> rfl
 refine @HR.mk V _ _ _ (fun b o p e1 e2 => ?_) (fun b b' o o' p p' e1 e1' e2 e2' _ => ?_) (fun b p e => ?_) (fun b hb => ?_) (fun b o e1 hg => by
  have e1 := e1
  rw [gg] at e1
  split at e1
  ·rename_i o' ho
   subst e1
   have hbl : b < xs.length := by have := (List.getElem?_eq_some_iff.1 ho).1; omega
   have := ha b _ _ ho (List.getElem?_eq_getElem hbl)
   cases hx : xs[b] with
   | some p => exact ⟨p, by unfold phiL; rw [List.getElem?_eq_getElem hbl, hx]⟩
   | none =>
    rw [hx] at this
    unfold RdO at this
    split at this
    ·rename_i e3 e4; cases e4
    ·rename_i e3 e4; cases e4
    ·rename_i e3 _; injection e3 with e3; subst e3; cases hg
    ·exact this.elim
  ·cases e1)
 ·rcases one b o p e1 e2 with ⟨i, t, rfl, hlt, cs, t', fz, k1, k2, k3, k4⟩ | ⟨g, k, zs, rfl, rfl, hlt, t, fz, h1⟩
  ·refine ⟨cs, t', fz, k1, k2, k3, k4, ?_, fun e => by cases e⟩
   rw [List.length_nil, List.take_zero]
   exact .nil
  ·exact ⟨rfl, rfl, rfl, t, fz, h1⟩
 ·exact .inr ⟨ro b o p e1 e2, ro b' o' p' e1' e2'⟩
 ·unfold phiL at e
  split at e
  ·rename_i x hx
   subst e
   have hb : b < xs.length := (List.getElem?_eq_some_iff.1 hx).1
   refine ⟨by rw [gn]; omega, ?_⟩
   rcases (ha b _ _ (List.getElem?_eq_getElem (by omega)) hx).some with ⟨i, t, _, hr⟩ | ⟨g, k, zs, _, rfl, hr, _⟩
   ·exact hr.1
   ·exact hr
  ·cases e
 ·rw [gn] at hb
  rw [gg, List.getElem?_eq_none hb]
theorem phiL_none {xs : List (Option Pl)} {b : Nat} (h : xs.length ≤ b) : phiL xs b = none := by
 unfold phiL
 rw [List.getElem?_eq_none h]
theorem true_of_ok {P : Program} {f : FuncId} {V V' : Val} {args : List CV} {O N : Objs} {l0 : Nat} (h : CallOk P f V args O l0 V' (.bs (.v 0)) N) (h0 : l0 = O.length) (hv : V'.ρ 0 = 1) {w : World} {xs : List (Option Pl)} (hx : RdAll V w O xs) {args' : List Value} (ha : @VRs V (phiL xs) args args') :
  Calls P f ⟨args'⟩ w fun en w' => en = .returned (.bool true) ∧ Below w.heap.size w w' := by
 refine (h.ok (phiL xs) args' w (hr_rows hx) ha).mono ?_
 rintro en w' ⟨u, φ', rfl, g, _, _, hu, _⟩
 have hl := hx.at.1
 refine ⟨?_, ⟨g.os, g.tape, g.output, g.size, fun k hk => g.fr k hk fun b p hb e => ?_⟩⟩
 ·cases hu with
  | bs e =>
   show Ending.returned (.bool (V'.ρ 0 != 0)) = _
   rw [hv]; rfl
 ·rw [phiL_none (by omega)] at e
  cases e
theorem vr_gs {V : Val} {xs : List (Option Pl)} {b z n c : Nat} {e : Ex} {x : Option Pl} {A : Option Addr} (hx : xs[b]? = some x) (hn : (n : Int) = e.ev V.ρ) (hc : n ≤ c) (h : match (motive := Option Pl → Prop) x with | some p => A = some ⟨p.r, p.o, none⟩ | none => n = 0) : @VR V (phiL xs) (.gs b 0 e z false) (.slice A n c) := by
 refine @VR.gs V _ _ _ _ _ _ _ _ _ hn hc ?_
 cases x with
 | none => exact .inr ⟨h, fun e => by cases e⟩
 | some p => exact .inl ⟨p, by unfold phiL; rw [hx], by rw [h, Nat.zero_mul, Nat.add_zero], fun e => by cases e⟩
theorem sl_rd {V : Val} {α : Type} {enc : α → List Value} {s : Nat} {w : World} {v : Value} {l : List α} {i : Nat} (h : Sl enc s w v l) (hz : ∀ x, (enc x).length = s ∧ ∀ u ∈ enc x, u.oneCell' = true) (hs : 0 < s) (hV : V.lst i = l.flatMap enc) :
  ∃ (x : Option Pl) (A : Option Addr) (c : Nat), v = .slice A l.length c ∧ l.length ≤ c ∧ (match (motive := Option Pl → Prop) x with | some p => A = some ⟨p.r, p.o, none⟩ | none => l.length = 0) ∧ (match (motive := Option Pl → Prop) x with | some p => Rd V w i p | none => True) := by
 obtain ⟨A, c, rfl, hc, hx⟩ := h
 by_cases hl : l = []
 ·subst hl
  exact ⟨none, A, c, rfl, hc, rfl, trivial⟩
 ·obtain ⟨b, off, rfl, hb, hcell⟩ := hx hl
  have hlen : ∀ l : List α, (l.flatMap enc).length = l.length * s := fun l => by
   have := (flat_length hz l).1
   exact_mod_cast this
  have h0 : 0 < l.length := List.length_pos_iff.2 hl
  have at' : ∀ q, q < l.length * s → w.cell? ⟨b, off + q, none⟩ = (l.flatMap enc)[q]? ∧ ∃ v, (l.flatMap enc)[q]? = some v := fun q hq => by
   have hi : q / s < l.length := (Nat.div_lt_iff_lt_mul hs).2 hq
   have hj : q % s < s := Nat.mod_lt _ hs
   have hq2 : q / s * s + q % s = q := by rw [Nat.mul_comm]; exact Nat.div_add_mod q s
   have e1 := hcell (q / s) hi (q % s) hj
   rw [Nat.add_assoc, hq2] at e1
   have e2 := congrArg (fun x : List Value => x[q % s]?) (flat_row hz (List.getElem?_eq_getElem hi))
   simp only [List.getElem?_take_of_lt hj, List.getElem?_drop, hq2] at e2
   rw [e1, e2]
   exact ⟨rfl, _, List.getElem?_eq_getElem (by rw [(hz _).1]; exact hj)⟩
  obtain ⟨e0, v0, hv0⟩ := at' 0 (Nat.mul_pos h0 hs)
  rw [hv0] at e0
  unfold World.cell? at e0
  split at e0
  ·rename_i cs t fz hobj
   have cell : ∀ q, w.cell? ⟨b, q, none⟩ = cs[q]? := fun q => by
    unfold World.cell?
    simp only [hobj]
    rfl
   have hlast : off + l.length * s ≤ cs.size := by
    have hp := Nat.mul_pos h0 hs
    obtain ⟨e1, v1, hv1⟩ := at' (l.length * s - 1) (by omega)
    rw [hv1, cell] at e1
    have := (Array.getElem?_eq_some_iff.1 e1).1
    omega
   refine ⟨some ⟨b, off, cs.size⟩, _, c, rfl, hc, rfl, hb, cs, t, fz, hobj, rfl, by rw [hV, hlen]; exact hlast, ?_⟩
   rw [hV]
   apply List.ext_getElem?
   intro q
   by_cases hq : q < l.length * s
   ·rw [List.getElem?_take_of_lt (by rw [hlen]; exact hq), List.getElem?_drop, Array.getElem?_toList, ← cell, (at' q hq).1]
   ·rw [List.getElem?_eq_none (by rw [List.length_take, hlen]; omega), List.getElem?_eq_none (by rw [hlen]; omega)]
  ·cases e0
end Go.Proofs.YthffbfkcmbgghaaGreat.Cm
