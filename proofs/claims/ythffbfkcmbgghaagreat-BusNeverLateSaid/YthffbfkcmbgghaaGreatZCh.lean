/-
  The clean machine and the model: values that are reckoned.
-/
import Derived.Test.YthffbfkcmbgghaaGreatZCg
import Derived.Laws.Strings
set_option linter.all false
namespace Go.Proofs.YthffbfkcmbgghaaGreat.Cm
open Go Go.RowKit
variable [Env]
section
variable {P : Program} {φ : Phi} {h : CH} {w : World}
theorem aggOk_lit {t : TypeId} {v : Value} : aggOk P t (.lit v) = false := by
 unfold aggOk
 cases isAggC P t with
 | none => rfl
 | some b => cases b <;> rfl
theorem toList_inj {a b : ByteArray} (h : a.toList = b.toList) : a = b := by
 rw [ByteArray.toList_eq, ByteArray.toList_eq] at h
 exact ByteArray.ext (Array.toList_inj.1 h)
theorem eqGuard_rel {op : BinOp} {t : TypeId} {x y : Operand} {c d : CV} {a b : Value} (h1 : VR φ c a) (h2 : VR φ d b) (hg : P.eqGuardType P.depth t = false ∨ ¬ (op = .eql ∨ op = .neq) ∨ c.cell = true) (w : World) : (eqGuard op t x y a b).run P w = .ok () w := by
 by_cases ho : op = .eql ∨ op = .neq
 ·rcases hg with hg | hg | hg
  ·rcases ho with rfl | rfl <;> cases h1 <;> cases h2 <;> simp [eqGuard, hg]
  ·exact absurd ho hg
  ·rcases ho with rfl | rfl <;> cases h1 <;> first
    | (simp [CV.cell] at hg; done)
    | (cases h2 <;> simp [eqGuard])
 ·cases op <;> first
   | (simp at ho; done)
   | simp [eqGuard]
theorem int_rel {op : BinOp} {t : TypeId} {k : IntKind} {a b : Int} {c : CV} (ho : op ≠ .shl ∧ op ≠ .shr) (e : intC op k a b = some c) (w : World) : ∃ u, (binOp op t (.int k a) (.int k b)).run P w = .ok u w ∧ VR φ c u := by
 have bo : ∀ (x : Option CV), (bif b == 0 then none else x) = some c → b ≠ 0 ∧ x = some c := fun x hx => by
  cases hb : b == 0 with
  | true => rw [hb] at hx; simp at hx
  | false => rw [hb] at hx; exact ⟨by simpa using hb, hx⟩
 cases op <;> simp only [intC, cmpC, Option.map_some, Option.map_none] at e <;> first
  | (injection e with e; subst e; refine ⟨_, ?_, .int _ _⟩; simp [binOp, Op.intArith]; done)
  | (injection e with e; subst e; refine ⟨_, ?_, .int _ _⟩; simp only [binOp, ne_eq, not_true_eq_false, if_false]; rfl)
  | (injection e with e; subst e; refine ⟨_, ?_, .bool _⟩; simp [binOp, Op.intCmp]; done)
  | (obtain ⟨hb, e⟩ := bo _ e; injection e with e; subst e; refine ⟨_, ?_, .int _ _⟩; simp [binOp, Op.intDiv, hb]; done)
  | (cases e; done)
  | (exact absurd rfl ho.1)
  | (exact absurd rfl ho.2)
theorem asV_cells {t : TypeId} {c : CV} {v x : Value} (hv : VR φ c v) (ha : AsV P t v.cells.toList x) (hc : aggOk P t c = true) : x = v := by
 unfold aggOk at hc
 rcases ha with ⟨h1, rfl⟩ | ⟨h1, h2⟩
 ·rw [h1] at hc
  cases hv <;> first | (simp at hc; done) | rfl
 ·rw [h1] at hc
  cases hv <;> first
   | (simp [CV.cell] at hc; done)
   | (simp [Value.cells] at h2; exact h2.symm)
theorem eq_rel {t : TypeId} {x y : CV} {a b : Value} {r : Bool} (hx : VR φ x a) (hy : VR φ y b) (ox : aggOk P t x = true) (oy : aggOk P t y = true) (e : eqC P 20 t x.cells y.cells = some r) (w : World) : (Op.equal t a b).run P w = .ok r w := by
 obtain ⟨u, v, h1, h2, hr⟩ := eqC_rel 20 10000 (by omega) e hx.cells hy.cells
 rw [asV_cells hx h1 ox, asV_cells hy h2 oy] at hr
 exact hr w
theorem bin_rel0 {op : BinOp} {t : TypeId} {x y c : CV} {a b : Value} (q1 : ∀ a b, x = .ss a → y = .ss b → False) (q2 : ∀ a b, x = .ss a → y = .str b → False) (q3 : ∀ a b, x = .str a → y = .ss b → False) (s1 : ∀ k a k' b, x = .sym k a → y = .sym k' b → False) (s2 : ∀ k a k' b, x = .sym k a → y = .int k' b → False) (s3 : ∀ k a k' b, x = .int k a → y = .sym k' b → False) (hx : VR φ x a) (hy : VR φ y b) (e : binC0 P op t x y = some c) (w : World) :
  ∃ u, (∀ (p q : Operand), (eqGuard op t p q a b).run P w = .ok () w) ∧ (binOp op t a b).run P w = .ok u w ∧ VR φ c u := by
 have cl : ∀ {x : CV} {a : Value}, VR φ x a → (∃ k n, a = .int k n) → x.cell = true := fun h ⟨k, n, e⟩ => by subst e; cases h <;> rfl
 unfold binC0 at e
 split at e
 ·rename_i k m k' n
  cases hx; cases hy
  have hn : ¬ n < 0 := by
   intro hn
   rw [show decide (n < 0) = true from decide_eq_true hn] at e; cases e
  rw [show decide (n < 0) = false from decide_eq_false hn] at e
  injection e with e; subst e
  exact ⟨_, fun p q => eqGuard_rel (φ := φ) (.int k m) (.int k' n) (.inr (.inl (by simp))) w, by simp only [binOp, Op.shift, if_neg hn]; rfl, .int _ _⟩
 ·rename_i k m k' n
  cases hx; cases hy
  have hn : ¬ n < 0 := by
   intro hn
   rw [show decide (n < 0) = true from decide_eq_true hn] at e; cases e
  rw [show decide (n < 0) = false from decide_eq_false hn] at e
  injection e with e; subst e
  exact ⟨_, fun p q => eqGuard_rel (φ := φ) (.int k m) (.int k' n) (.inr (.inl (by simp))) w, by simp only [binOp, Op.shift, if_neg hn]; rfl, .int _ _⟩
 ·rename_i k m k' n h1 h2
  cases hx; cases hy
  split at e
  ·rename_i hk
   subst hk
   obtain ⟨u, hr, hv⟩ := int_rel (P := P) (φ := φ) (t := t) ⟨fun ho => h1 ho, fun ho => h2 ho⟩ e w
   exact ⟨u, fun p q => eqGuard_rel (φ := φ) (.int k m) (.int k n) (.inr (.inr rfl)) w, hr, hv⟩
  ·cases e
 ·cases hx; cases hy
  injection e with e; subst e
  exact ⟨_, fun p q => eqGuard_rel (φ := φ) (.str _) (.str _) (.inr (.inr rfl)) w, by simp only [binOp, Op.stringOp]; rfl, .bool _⟩
 ·cases hx; cases hy
  injection e with e; subst e
  exact ⟨_, fun p q => eqGuard_rel (φ := φ) (.str _) (.str _) (.inr (.inr rfl)) w, by simp only [binOp, Op.stringOp]; rfl, .bool _⟩
 ·rename_i sa sb
  cases hx; cases hy
  obtain ⟨h1, e⟩ := bif_some e
  have h1 := ble_le h1
  injection e with e; subst e
  have hn : ¬ (9223372036854775807 < (sa.size : Int) + (sb.size : Int)) := by omega
  exact ⟨_, fun p q => eqGuard_rel (φ := φ) (.str _) (.str _) (.inr (.inr rfl)) w, by simp [binOp, Op.stringOp, hn], .str _⟩
 ·rename_i h3 h4
  cases hg : (P.eqGuardType P.depth t || !(aggOk P t x && aggOk P t y)) with
  | true => rw [hg] at e; cases e
  | false =>
   rw [hg] at e
   simp only [cond_false] at e
   rw [Option.map_eq_some_iff] at e
   obtain ⟨r, e, rfl⟩ := e
   simp only [Bool.or_eq_false_iff, Bool.not_eq_false', Bool.and_eq_true] at hg
   have hr := eq_rel hx hy hg.2.1 hg.2.2 e w
   refine ⟨.bool r, fun p q => eqGuard_rel hx hy (.inl hg.1) w, ?_, .bool r⟩
   have hb : (binOp .eql t a b) = (do pure (.bool (← Op.equal t a b))) := by
    cases hx <;> cases hy <;> first
     | rfl
     | (exfalso; exact h3 _ _ _ _ rfl rfl)
     | (exfalso; exact h4 _ _ rfl rfl)
     | (exfalso; exact s1 _ _ _ _ rfl rfl)
     | (exfalso; exact s2 _ _ _ _ rfl rfl)
     | (exfalso; exact s3 _ _ _ _ rfl rfl)
     | (exfalso; exact q1 _ _ rfl rfl)
     | (exfalso; exact q2 _ _ rfl rfl)
     | (exfalso; exact q3 _ _ rfl rfl)
     | (exfalso; have h9 := hg.2.1; rw [aggOk_lit] at h9; cases h9)
   rw [hb]; simp [hr]
 ·rename_i h3 h4
  cases hg : (P.eqGuardType P.depth t || !(aggOk P t x && aggOk P t y)) with
  | true => rw [hg] at e; cases e
  | false =>
   rw [hg] at e
   simp only [cond_false] at e
   rw [Option.map_eq_some_iff] at e
   obtain ⟨r, e, rfl⟩ := e
   simp only [Bool.or_eq_false_iff, Bool.not_eq_false', Bool.and_eq_true] at hg
   have hr := eq_rel hx hy hg.2.1 hg.2.2 e w
   refine ⟨.bool !r, fun p q => eqGuard_rel hx hy (.inl hg.1) w, ?_, .bool !r⟩
   have hb : (binOp .neq t a b) = (do pure (.bool (!(← Op.equal t a b)))) := by
    cases hx <;> cases hy <;> first
     | rfl
     | (exfalso; exact h3 _ _ _ _ rfl rfl)
     | (exfalso; exact h4 _ _ rfl rfl)
     | (exfalso; exact s1 _ _ _ _ rfl rfl)
     | (exfalso; exact s2 _ _ _ _ rfl rfl)
     | (exfalso; exact s3 _ _ _ _ rfl rfl)
     | (exfalso; exact q1 _ _ rfl rfl)
     | (exfalso; exact q2 _ _ rfl rfl)
     | (exfalso; exact q3 _ _ rfl rfl)
     | (exfalso; have h9 := hg.2.1; rw [aggOk_lit] at h9; cases h9)
   rw [hb]; simp [hr]
 ·cases e
theorem sym_rel {op : BinOp} {t : TypeId} {k : IntKind} {a b : Ex} {c : CV} (e : symC op k a b = some c) (w : World) :
  ∃ u, (∀ (p q : Operand), (eqGuard op t p q (.int k (a.ev Val.ρ)) (.int k (b.ev Val.ρ))).run P w = .ok () w) ∧ (binOp op t (.int k (a.ev Val.ρ)) (.int k (b.ev Val.ρ))).run P w = .ok u w ∧ VR φ c u := by
 have hg : ∀ (p q : Operand), (eqGuard op t p q (.int k (a.ev Val.ρ)) (.int k (b.ev Val.ρ))).run P w = .ok () w := fun p q => eqGuard_rel (φ := φ) (.sym k a) (.sym k b) (.inr (.inr rfl)) w
 have asked : ∀ {o : BinOp}, (askO o a b).map CV.bool = some c → ∃ r, c = .bool r ∧ cmpC o (a.ev Val.ρ) (b.ev Val.ρ) = some r := fun h => by
  rw [Option.map_eq_some_iff] at h
  obtain ⟨r, h1, h2⟩ := h
  exact ⟨r, h2.symm, askO_ok h1⟩
 have nz : askO .eql b (.c 0) = some false → b.ev Val.ρ ≠ 0 := fun h h0 => by
  have := askO_ok h
  simp [cmpC, Ex.ev, h0] at this
 unfold symC at e
 split at e
 ·injection e with e; subst e
  exact ⟨_, hg, by simp only [binOp, ne_eq, not_true_eq_false, if_false]; rfl, .sym k (.bit .and k a b)⟩
 ·injection e with e; subst e
  exact ⟨_, hg, by simp only [binOp, ne_eq, not_true_eq_false, if_false]; rfl, .sym k (.bit .or k a b)⟩
 ·injection e with e; subst e
  exact ⟨_, hg, by simp only [binOp, ne_eq, not_true_eq_false, if_false]; rfl, .sym k (.bit .xor k a b)⟩
 ·injection e with e; subst e
  exact ⟨_, hg, by simp only [binOp, ne_eq, not_true_eq_false, if_false]; rfl, .sym k (.bit .andNot k a b)⟩
 ·injection e with e; subst e
  exact ⟨_, hg, by simp [binOp, Op.intArith]; rfl, .sym k (.add k a b)⟩
 ·injection e with e; subst e
  exact ⟨_, hg, by simp [binOp, Op.intArith]; rfl, .sym k (.sub k a b)⟩
 ·injection e with e; subst e
  exact ⟨_, hg, by simp [binOp, Op.intArith]; rfl, .sym k (.mul k a b)⟩
 ·split at e
  ·rename_i hb
   injection e with e; subst e
   exact ⟨_, hg, by simp [binOp, Op.intDiv, nz hb]; rfl, .sym k (.quo k a b)⟩
  ·cases e
 ·split at e
  ·rename_i hb
   injection e with e; subst e
   exact ⟨_, hg, by simp [binOp, Op.intDiv, nz hb]; rfl, .sym k (.rem k a b)⟩
  ·cases e
 ·obtain ⟨r, rfl, hr⟩ := asked e
  refine ⟨.bool r, hg, ?_, .bool r⟩
  cases op <;> simp only [cmpC] at hr <;> first
   | (cases hr; done)
   | (injection hr with hr; simp [binOp, Op.intCmp, ← hr]; done)
theorem shift_rel {op : BinOp} {t : TypeId} {k k' : IntKind} {a b : Ex} {c : CV} (ho : isShift op = true) (e : shiftC op k a b = some c) (w : World) :
  ∃ u, (∀ (p q : Operand), (eqGuard op t p q (.int k (a.ev Val.ρ)) (.int k' (b.ev Val.ρ))).run P w = .ok () w) ∧ (binOp op t (.int k (a.ev Val.ρ)) (.int k' (b.ev Val.ρ))).run P w = .ok u w ∧ VR φ c u := by
 obtain ⟨h1, e⟩ := bif_some e
 injection e with e; subst e
 have h2 : 0 ≤ b.ev Val.ρ := askB_leq h1
 have hn : ¬ b.ev Val.ρ < 0 := by omega
 refine ⟨.int k (bitE op k (a.ev Val.ρ) (b.ev Val.ρ)), fun p q => eqGuard_rel (φ := φ) (.sym k a) (.sym k' b) (.inr (.inl (by cases op <;> first | (cases ho; done) | simp))) w, ?_, .sym k (.bit op k a b)⟩
 cases op <;> first
  | (cases ho; done)
  | (simp only [binOp, Op.shift, if_neg hn]; rfl)
theorem strB_rel {op : BinOp} {t : TypeId} {a b : Ex} {c : CV} (e : strB op a b = some c) (w : World) :
  ∃ u, (∀ (p q : Operand), (eqGuard op t p q (.string (strOf (a.ev Val.ρ))) (.string (strOf (b.ev Val.ρ)))).run P w = .ok () w) ∧ (binOp op t (.string (strOf (a.ev Val.ρ))) (.string (strOf (b.ev Val.ρ)))).run P w = .ok u w ∧ VR φ c u := by
 have hg : ∀ (p q : Operand), (eqGuard op t p q (.string (strOf (a.ev Val.ρ))) (.string (strOf (b.ev Val.ρ)))).run P w = .ok () w := fun p q => eqGuard_rel (φ := φ) (.ss a) (.ss b) (.inr (.inr rfl)) w
 have hq : ∀ {r : Bool}, askO .eql a b = some r → ((strOf (a.ev Val.ρ)).toList == (strOf (b.ev Val.ρ)).toList) = r := fun {r} h => by
  have h1 := askO_ok h
  injection h1 with h1
  rw [← h1]
  by_cases hab : a.ev Val.ρ = b.ev Val.ρ
  ·rw [hab]; simp
  ·rw [show (a.ev Val.ρ == b.ev Val.ρ) = false from by simpa using hab]
   exact beq_eq_false_iff_ne.2 fun e => hab (strOf_inj (toList_inj e))
 unfold strB at e
 split at e
 ·rw [Option.map_eq_some_iff] at e
  obtain ⟨r, h1, rfl⟩ := e
  exact ⟨_, hg, by simp only [binOp, Op.stringOp, hq h1]; rfl, .bool r⟩
 ·rw [Option.map_eq_some_iff] at e
  obtain ⟨r, h1, rfl⟩ := e
  exact ⟨_, hg, by simp only [binOp, Op.stringOp, hq h1]; rfl, .bool !r⟩
 ·obtain ⟨h1, e⟩ := bif_some e
  injection e with e; subst e
  simp only [Bool.and_eq_true] at h1
  have h2 := askB_lss h1.1
  have h3 := askB_lss h1.2
  simp only [Ex.ev, sln] at h2 h3
  have hv := VR.ss (φ := φ) (.cat a b)
  rw [show (Ex.cat a b).ev Val.ρ = codeS (strOf (a.ev Val.ρ) ++ strOf (b.ev Val.ρ)) from rfl, strOf_code] at hv
  refine ⟨.string (strOf (a.ev Val.ρ) ++ strOf (b.ev Val.ρ)), hg, ?_, hv⟩
  clear hg hq hv
  generalize strOf (a.ev Val.ρ) = x at h2 h3 ⊢
  generalize strOf (b.ev Val.ρ) = y at h2 h3 ⊢
  have hn : ¬ (9223372036854775807 < (x.size : Int) + (y.size : Int)) := by omega
  simp [binOp, Op.stringOp, hn]
 ·cases e
theorem strS_rel {op : BinOp} {t : TypeId} {x y c : CV} {a b : Value} (s1 : ∀ k a k' b, x = .sym k a → y = .sym k' b → False) (s2 : ∀ k a k' b, x = .sym k a → y = .int k' b → False) (s3 : ∀ k a k' b, x = .int k a → y = .sym k' b → False) (hx : VR φ x a) (hy : VR φ y b) (e : binS P op t x y = some c) (w : World) :
  ∃ u, (∀ (p q : Operand), (eqGuard op t p q a b).run P w = .ok () w) ∧ (binOp op t a b).run P w = .ok u w ∧ VR φ c u := by
 unfold binS at e
 split at e
 ·cases strC_rel hx rfl; cases strC_rel hy rfl; exact strB_rel e w
 ·cases strC_rel hx rfl; cases strC_rel hy rfl; exact strB_rel e w
 ·cases strC_rel hx rfl; cases strC_rel hy rfl; exact strB_rel e w
 ·rename_i h1 h2 h3
  exact bin_rel0 (fun a b e1 e2 => h1 a b e1 e2) (fun a b e1 e2 => h2 a b e1 e2) (fun a b e1 e2 => h3 a b e1 e2) s1 s2 s3 hx hy e w
theorem bin_rel {op : BinOp} {t : TypeId} {x y c : CV} {a b : Value} (hx : VR φ x a) (hy : VR φ y b) (e : binC P op t x y = some c) (w : World) :
  ∃ u, (∀ (p q : Operand), (eqGuard op t p q a b).run P w = .ok () w) ∧ (binOp op t a b).run P w = .ok u w ∧ VR φ c u := by
 unfold binC at e
 have both : ∀ {k k' : IntKind} {p q : Ex}, (bif isShift op then shiftC op k p q else if k = k' then symC op k p q else none) = some c → ∃ u, (∀ (p' q' : Operand), (eqGuard op t p' q' (.int k (p.ev Val.ρ)) (.int k' (q.ev Val.ρ))).run P w = .ok () w) ∧ (binOp op t (.int k (p.ev Val.ρ)) (.int k' (q.ev Val.ρ))).run P w = .ok u w ∧ VR φ c u := fun {k k' p q} e => by
  cases ho : isShift op with
  | true => rw [ho, cond_true] at e; exact shift_rel ho e w
  | false =>
   rw [ho, cond_false] at e
   split at e
   ·rename_i hk; subst hk; exact sym_rel e w
   ·cases e
 split at e
 ·cases hx; cases hy; exact both e
 ·cases hx; cases hy; exact both e
 ·cases hx; cases hy; exact both e
 ·rename_i h1 h2 h3
  exact strS_rel (fun k a k' b e1 e2 => h1 k a k' b e1 e2) (fun k a k' b e1 e2 => h2 k a k' b e1 e2) (fun k a k' b e1 e2 => h3 k a k' b e1 e2) hx hy e w
theorem isNilK_at {y : Operand} (h : isNilK y = true) : y = .const (.slice none 0 0) := by
 unfold isNilK at h
 split at h
 ·rfl
 ·cases h
theorem nilCmp_at {op : BinOp} {t : TypeId} {y : Operand} {x : Option CV} {c : CV} (e : nilCmp P op t y x = some c) : ∃ p, x = some p ∧ notNilC (some p) = true ∧ ∀ a : Act, a.eval y = .slice none 0 0 := by
 have both : ∀ {r : CV}, (bif isNilK y && notNilC x then some r else none) = some c → ∃ p, x = some p ∧ notNilC (some p) = true ∧ ∀ a : Act, a.eval y = .slice none 0 0 := fun h => by
  obtain ⟨h1, _⟩ := bif_some h
  simp only [Bool.and_eq_true] at h1
  cases x with
  | none => cases h1.2
  | some p => exact ⟨p, rfl, h1.2, fun a => by rw [isNilK_at h1.1]; rfl⟩
 unfold nilCmp at e
 split at e
 ·exact both e
 ·exact both e
 ·cases e
theorem nilCmp_rel {op : BinOp} {t : TypeId} {x y : Operand} {p c : CV} {ox : Option CV} {v : Value} (hx : VR φ p v) (e : nilCmp P op t y ox = some c) (hp : ox = some p) (hn : notNilC (some p) = true) (w : World) :
  ∃ u, (eqGuard op t x y v (.slice none 0 0)).run P w = .ok () w ∧ (binOp op t v (.slice none 0 0)).run P w = .ok u w ∧ VR φ c u := by
 obtain ⟨ad, n, k, rfl⟩ : ∃ ad n k, v = .slice (some ad) n k := by
  cases hx with
  | sl h1 h2 h3 h4 => exact ⟨_, _, _, rfl⟩
  | gs h1 h2 ha =>
   have h0 := askB_lss hn
   simp only [Ex.ev] at h0
   rcases ha with ⟨p, _, rfl, _⟩ | ⟨h3, _⟩
   ·exact ⟨_, _, _, rfl⟩
   ·omega
  | _ => cases hn
 have eq : ∀ (d : Nat) (el : TypeId), P.underlying t = some (.slice el) → (Op.equalIn (d + 1) t (.slice (some ad) n k) (.slice none 0 0)).run P w = .ok false w := fun d el hu => by simp [Op.equalIn, run_und hu]
 have eq' : ∀ el, P.underlying t = some (.slice el) → (Op.equal t (.slice (some ad) n k) (.slice none 0 0)).run P w = .ok false w := fun el hu => eq 9999 el hu
 unfold nilCmp at e
 split at e
 ·rename_i el hu
  obtain ⟨_, e⟩ := bif_some e
  injection e with e; subst e
  exact ⟨.bool false, by simp [eqGuard], by simp [binOp, eq' el hu], .bool false⟩
 ·rename_i el hu
  obtain ⟨_, e⟩ := bif_some e
  injection e with e; subst e
  exact ⟨.bool true, by simp [eqGuard], by simp [binOp, eq' el hu], .bool true⟩
 ·cases e
theorem nilEq_rel {op : BinOp} {t : TypeId} {x y : Operand} {c : CV} {ox : Option CV} (e : nilEq P op t y ox = some c) (w : World) :
  ox = some .niln ∧ (∀ a : Act, a.eval y = .slice none 0 0) ∧ ∃ u, (eqGuard op t x y (.slice none 0 0) (.slice none 0 0)).run P w = .ok () w ∧ (binOp op t (.slice none 0 0) (.slice none 0 0)).run P w = .ok u w ∧ VR φ c u := by
 have eq : ∀ (d : Nat) (el : TypeId), P.underlying t = some (.slice el) → (Op.equalIn (d + 1) t (.slice none 0 0) (.slice none 0 0)).run P w = .ok true w := fun d el hu => by simp [Op.equalIn, run_und hu]
 have eq' : ∀ el, P.underlying t = some (.slice el) → (Op.equal t (.slice none 0 0) (.slice none 0 0)).run P w = .ok true w := fun el hu => eq 9999 el hu
 unfold nilEq at e
 split at e
 ·rename_i el hu
  obtain ⟨h1, e⟩ := bif_some e
  injection e with e; subst e
  exact ⟨rfl, fun a => by rw [isNilK_at h1]; rfl, .bool true, by simp [eqGuard], by simp [binOp, eq' el hu], .bool true⟩
 ·rename_i el hu
  obtain ⟨h1, e⟩ := bif_some e
  injection e with e; subst e
  exact ⟨rfl, fun a => by rw [isNilK_at h1]; rfl, .bool false, by simp [eqGuard], by simp [binOp, eq' el hu], .bool false⟩
 ·cases e
end
end Go.Proofs.YthffbfkcmbgghaaGreat.Cm
