/-
  The clean machine and the model: equality.
-/
import Derived.Test.YthffbfkcmbgghaaGreatZCf
import Derived.Laws.StructEq
set_option linter.all false
namespace Go.Proofs.YthffbfkcmbgghaaGreat.Cm
open Go Go.RowKit
variable [Env]
section
variable {P : Program} {φ : Phi} {w : World}
theorem part_agg {t : TypeId} {n : Nat} {xs : Array Value} {off : Nat} (ha : isAggC P t = some true) (hs : szC P t = some n) (w : World) : (part t xs off).run P w = .ok (.agg ⟨(xs.toList.drop off).take n⟩) w := by
 have : (xs.extract off (off + n)) = (⟨(xs.toList.drop off).take n⟩ : Array Value) := by
  apply Array.ext'
  simp
 simp [part, run_isAggC ha, run_sizeOf_szC hs, this]
theorem part_one {t : TypeId} {xs : Array Value} {off : Nat} {v : Value} (ha : isAggC P t = some false) (hx : xs.toList[off]? = some v) (w : World) : (part t xs off).run P w = .ok v w := by
 have hx' : xs[off]? = some v := by simpa using hx
 simp [part, run_isAggC ha, hx']
def AsV (P : Program) (t : TypeId) (xs : List Value) (v : Value) : Prop := (isAggC P t = some true ∧ v = .agg ⟨xs⟩) ∨ (isAggC P t = some false ∧ xs = [v])
theorem part_as {t : TypeId} {n : Nat} {xs : Array Value} {off : Nat} {v : Value} (hs : szC P t = some n) (h : AsV P t ((xs.toList.drop off).take n) v) (w : World) : (part t xs off).run P w = .ok v w := by
 rcases h with ⟨ha, rfl⟩ | ⟨ha, he⟩
 ·exact part_agg ha hs w
 ·refine part_one ha ?_ w
  have h0 : ((xs.toList.drop off).take n)[0]? = some v := by rw [he]; rfl
  have hn : 0 < n := by
   cases n with
   | zero => simp at he
   | succ n => omega
  rw [List.getElem?_take_of_lt hn, List.getElem?_drop, Nat.add_zero] at h0
  exact h0
theorem isAggC_struct {t : TypeId} {fs : Array Field} (hu : P.underlying t = some (.struct fs)) : isAggC P t = some true := by simp [isAggC, hu]
theorem isAggC_array {t e : TypeId} {n : Nat} (hu : P.underlying t = some (.array n e)) : isAggC P t = some true := by simp [isAggC, hu]
theorem exOf_rel {φ : Phi} {x : CV} {v : Value} {k : IntKind} {ex : Ex} (hv : VR φ x v) (e : exOf x = some (k, ex)) : v = .int k (ex.ev Val.ρ) := by
 cases hv <;> first
  | (injection e with e; injection e with e1 e2; subst e1; subst e2; rfl)
  | (cases e; done)
theorem eqSym_inv {x y : CV} {b : Bool} (e : eqSym x y = some b) : ∃ k a c, exOf x = some (k, a) ∧ exOf y = some (k, c) ∧ Dec.ask .eql a c = some b := by
 unfold eqSym at e
 split at e
 ·rename_i k a k' c h1 h2
  split at e
  ·rename_i hk; subst hk; exact ⟨k, a, c, h1, h2, e⟩
  ·cases e
 ·cases e
theorem strC_rel {φ : Phi} {x : CV} {v : Value} {e : Ex} (hv : VR φ x v) (h : strC x = some e) : v = .string (strOf (e.ev Val.ρ)) := by
 cases hv <;> first
  | (injection h with h; subst h; first | rfl | (show Value.string _ = Value.string (strOf (codeS _)); rw [strOf_code]))
  | (cases h; done)
theorem eqStr_inv {x y : CV} {b : Bool} (e : eqStr x y = some b) : ∃ a c, strC x = some a ∧ strC y = some c ∧ askO .eql a c = some b := by
 unfold eqStr at e
 split at e
 ·rename_i a c h1 h2; exact ⟨a, c, h1, h2, e⟩
 ·cases e
theorem eqC_rel : ∀ (d D : Nat), d ≤ D → ∀ {t : TypeId} {xs ys : List CV} {b : Bool} {xs' ys' : List Value}, eqC P d t xs ys = some b → VRs φ xs xs' → VRs φ ys ys' →
  ∃ x y, AsV P t xs' x ∧ AsV P t ys' y ∧ ∀ w, (Op.equalIn D t x y).run P w = .ok b w
 | 0, _, _, _, _, _, _, _, _, e, _, _ => by cases e
 | d + 1, 0, h, _, _, _, _, _, _, _, _, _ => by omega
 | d + 1, D + 1, hD, t, xs, ys, b, xs', ys', e, hx, hy => by
  unfold eqC at e
  split at e
  ·rename_i hu
   split at e
   ·split at e
    ·rename_i a b h1 h2
     injection e with e; subst e
     cases hx with | cons g1 t1 => cases t1; cases hy with | cons g2 t2 => cases t2; cases asB_rel g1 h1; cases asB_rel g2 h2; exact ⟨_, _, .inr ⟨by simp [isAggC, hu], rfl⟩, .inr ⟨by simp [isAggC, hu], rfl⟩, fun w => by simp [Op.equalIn, run_und hu]⟩
    ·cases e
   ·cases e
  ·rename_i k0 hu
   split at e
   ·rename_i k a k' a'
    split at e
    ·rename_i hk
     injection e with e; subst e
     cases hx with | cons h1 t1 => cases t1; cases h1; cases hy with | cons h2 t2 => cases t2; cases h2; exact ⟨_, _, .inr ⟨by simp [isAggC, hu], rfl⟩, .inr ⟨by simp [isAggC, hu], rfl⟩, fun w => by simp [Op.equalIn, run_und hu, hk]⟩
    ·cases e
   ·obtain ⟨k, a, c, g1, g2, g3⟩ := eqSym_inv e
    have g4 := Env.ok g3
    cases hx with | cons h1 t1 => cases t1; cases hy with | cons h2 t2 => cases t2; cases exOf_rel h1 g1; cases exOf_rel h2 g2; exact ⟨_, _, .inr ⟨by simp [isAggC, hu], rfl⟩, .inr ⟨by simp [isAggC, hu], rfl⟩, fun w => by injection g4 with g4; simp [Op.equalIn, run_und hu, g4]⟩
   ·cases e
  ·rename_i hu
   split at e
   ·injection e with e; subst e
    cases hx with | cons h1 t1 => cases t1; cases h1; cases hy with | cons h2 t2 => cases t2; cases h2; exact ⟨_, _, .inr ⟨by simp [isAggC, hu], rfl⟩, .inr ⟨by simp [isAggC, hu], rfl⟩, fun w => by simp [Op.equalIn, run_und hu]⟩
   ·obtain ⟨a, c, g1, g2, g3⟩ := eqStr_inv e
    have g4 := askO_ok g3
    cases hx with | cons h1 t1 => cases t1; cases hy with | cons h2 t2 => cases t2; cases strC_rel h1 g1; cases strC_rel h2 g2; exact ⟨_, _, .inr ⟨by simp [isAggC, hu], rfl⟩, .inr ⟨by simp [isAggC, hu], rfl⟩, fun w => by injection g4 with g4; simp [Op.equalIn, run_und hu, str_beq, g4]⟩
   ·cases e
  ·rename_i el hu
   split at e
   ·injection e with e; subst e
    cases hx with | cons h1 t1 => cases t1; cases h1; cases hy with | cons h2 t2 => cases t2; cases h2; exact ⟨_, _, .inr ⟨by simp [isAggC, hu], rfl⟩, .inr ⟨by simp [isAggC, hu], rfl⟩, fun w => by simp [Op.equalIn, run_und hu]⟩
   ·injection e with e; subst e
    cases hx with | cons h1 t1 => cases t1; cases h1; cases hy with | cons h2 t2 => cases t2; cases h2; exact ⟨_, _, .inr ⟨by simp [isAggC, hu], rfl⟩, .inr ⟨by simp [isAggC, hu], rfl⟩, fun w => by simp [Op.equalIn, run_und hu]⟩
   ·injection e with e; subst e
    cases hx with | cons h1 t1 => cases t1; cases h1; cases hy with | cons h2 t2 => cases t2; cases h2; exact ⟨_, _, .inr ⟨by simp [isAggC, hu], rfl⟩, .inr ⟨by simp [isAggC, hu], rfl⟩, fun w => by simp [Op.equalIn, run_und hu]⟩
   ·cases e
  ·rename_i fs hu
   have ht : P.underlying t = some (.struct (P.fieldsOf t)) := by simp [Program.fieldsOf, hu]
   have hfs : P.fieldsOf t = fs := by simp [Program.fieldsOf, hu]
   cases hsi : P.stoodInHeld t with
   | true => rw [hsi] at e; simp at e
   | false =>
    rw [hsi] at e
    simp only [cond_false] at e
    refine ⟨_, _, .inl ⟨isAggC_struct hu, rfl⟩, .inl ⟨isAggC_struct hu, rfl⟩, fun w => ?_⟩
    rw [run_equalIn_struct w D t ⟨xs'⟩ ⟨ys'⟩ ht hsi, hfs]
    generalize fs.toList = l at e
    clear hu ht hfs hsi
    induction l generalizing b with
    | nil => injection e with e; subst e; rfl
    | cons f l ih =>
     unfold eqFs at e
     cases hf : f.name == "_" with
     | true => rw [hf] at e; simp at e
     | false =>
      rw [hf] at e
      simp only [cond_false] at e
      split at e
      ·rename_i n hn
       have one : ∀ a, eqC P d f.type ((xs.drop f.offset).take n) ((ys.drop f.offset).take n) = some a → (a = true → eqFs P (eqC P d) xs ys l = some b) → (a = false → b = false) → (Op.eqFields D ⟨xs'⟩ ⟨ys'⟩ (f :: l)).run P w = .ok b w := fun a h1 h2 h3 => by
        obtain ⟨x, y, hxa, hya, hr⟩ := eqC_rel d D (by omega) h1 ((hx.drop f.offset).take n) ((hy.drop f.offset).take n)
        have hne : f.name ≠ "_" := by simpa using hf
        have p1 := part_as (xs := ⟨xs'⟩) hn hxa w
        have p2 := part_as (xs := ⟨ys'⟩) hn hya w
        simp only [Op.eqFields, hne, ne_eq, not_false_eq_true, if_true, Sem.run_bind, p1, p2, hr w, Result.andThen_ok, Sem.run_ite]
        cases a
        ·rw [h3 rfl]; rfl
        ·simp only [Bool.not_true, Bool.false_eq_true, if_false]
         exact ih _ (h2 rfl)
       split at e
       ·rename_i h1; exact one true h1 (fun _ => e) (fun h => by cases h)
       ·rename_i h1; injection e with e; exact one false h1 (fun h => by cases h) (fun _ => e.symm)
       ·cases e
      ·cases e
  ·rename_i len el hu
   split at e
   ·rename_i n hn
    refine ⟨_, _, .inl ⟨isAggC_array hu, rfl⟩, .inl ⟨isAggC_array hu, rfl⟩, fun w => ?_⟩
    simp only [Op.equalIn, Sem.run_bind, run_und hu, Result.andThen_ok, run_sizeOf_szC hn, Std.Legacy.Range.forIn_eq_forIn_range', Std.Legacy.Range.size, Nat.sub_zero, Nat.add_one_sub_one, Nat.div_one, ← List.range_eq_range']
    generalize List.range len = l at e
    clear hu
    induction l generalizing b with
    | nil => injection e with e; subst e; rfl
    | cons i l ih =>
     unfold eqEs at e
     split at e
     ·rename_i h1
      obtain ⟨x, y, hxa, hya, hr⟩ := eqC_rel d D (by omega) h1 ((hx.drop (i * n)).take n) ((hy.drop (i * n)).take n)
      have p1 := part_as (xs := ⟨xs'⟩) hn hxa w
      have p2 := part_as (xs := ⟨ys'⟩) hn hya w
      simp only [List.forIn_cons, Sem.run_bind, p1, p2, hr w, Result.andThen_ok, Sem.run_ite]
      simp only [Bool.not_true, Bool.false_eq_true, if_false, Sem.run_pure, Result.andThen_ok]
      exact ih _ e
     ·rename_i h1
      injection e with e; subst e
      obtain ⟨x, y, hxa, hya, hr⟩ := eqC_rel d D (by omega) h1 ((hx.drop (i * n)).take n) ((hy.drop (i * n)).take n)
      have p1 := part_as (xs := ⟨xs'⟩) hn hxa w
      have p2 := part_as (xs := ⟨ys'⟩) hn hya w
      simp only [List.forIn_cons, Sem.run_bind, p1, p2, hr w, Result.andThen_ok, Sem.run_ite]
      simp
     ·cases e
   ·cases e
  ·cases e
end
end Go.Proofs.YthffbfkcmbgghaaGreat.Cm
