/-
  The clean machine and the model: one operation.
-/
import Derived.Test.YthffbfkcmbgghaaGreatZCo
import Derived.Test.YthffbfkcmbgghaaGreatZCm
set_option linter.all false
namespace Go.Proofs.YthffbfkcmbgghaaGreat.Cm
open Go Go.RowKit
variable [Env]
def EvL (φ : Phi) (ts : Tr CV) (a : Act) (l : List Operand) : Prop := ∀ x ∈ l, ∀ c, argC ts x = some c → VR φ c (a.eval x)
section
variable {P : Program} {φ : Phi} {h : CH} {w : World} {run : Runs} {ts : Tr CV} {a : Act}
theorem EvL.mono {l m : List Operand} (h : EvL φ ts a l) (hm : ∀ x ∈ m, x ∈ l) : EvL φ ts a m := fun x hx => h x (hm x hx)
theorem args_rel : ∀ {l : List Operand} {cs : List CV}, EvL φ ts a l → argsC ts l = some cs → VRs φ cs (l.map a.eval)
 | [], cs, _, e => by injection e with e; subst e; exact .nil
 | x :: l, cs, he, e => by
  unfold argsC at e
  split at e
  ·rename_i c cs' h1 h2
   injection e with e; subst e
   exact .cons (he x (by simp) c h1) (args_rel (he.mono fun y hy => by simp [hy]) h2)
  ·cases e
theorem parts_rel : ∀ {l : List (Nat × Operand)} {cs : List (Nat × CV)}, EvL φ ts a (l.map (·.2)) → partsC ts l = some cs → PRs φ cs (l.map fun x => (x.1, a.eval x.2))
 | [], cs, _, e => by injection e with e; subst e; exact .nil
 | (i, x) :: l, cs, he, e => by
  unfold partsC at e
  split at e
  ·rename_i c cs' h1 h2
   injection e with e; subst e
   exact .cons (he x (by simp) c h1) (parts_rel (he.mono fun y hy => by simp at hy ⊢; exact .inr hy) h2)
  ·cases e
theorem opt_rel {o : Option Operand} {c : Option CV} (he : EvL φ ts a o.toList) (e : optC ts o = some c) : ORel φ c (o.map a.eval) := by
 cases o with
 | none => injection e with e; subst e; trivial
 | some x =>
  simp only [optC] at e
  cases hx : argC ts x with
  | none => rw [hx] at e; cases e
  | some y =>
   rw [hx] at e
   injection e with e; subst e
   exact he x (by simp) y hx
theorem vC_inv {oc : Option CV} {c : CV} {h' : CH} {lw : Nat} (e : vC h oc = some (c, h', lw)) : oc = some c ∧ h' = h ∧ lw = h.n := by
 unfold vC at e
 split at e
 ·injection e with e; injection e with e1 e; injection e with e2 e3; exact ⟨by rw [e1], e2.symm, e3.symm⟩
 ·cases e
theorem uC_inv {oc : Option (CH × Nat)} {c : CV} {h' : CH} {lw : Nat} (e : uC oc = some (c, h', lw)) : oc = some (h', lw) ∧ c = .tup [] := by
 unfold uC at e
 split at e
 ·injection e with e; injection e with e1 e; injection e with e2 e3; exact ⟨by rw [e2, e3], e1.symm⟩
 ·cases e
def Goes (P : Program) (F : Fence) (n : Nat) (o : Oper) (a : Act) (w : World) (φ : Phi) (m lw : Nat) (c : CV) (h' : CH) : Prop :=
 ∀ (K : Act → World → Prop) (Q : Exit → Act → World → Prop), (∀ φ' v w', Went φ m lw w φ' w' → HR φ' h' w' → VR φ' c v → K (a.put o.dst v) w') → o.wpIn F n P a w K Q
theorem goes_value {F : Fence} (hF : FW F) {n : Nat} {o : Oper} {m lw : Nat} {c : CV} {h' : CH} {v : Value} {w' : World} {φ' : Phi} (hnd : ∀ c, o.op ≠ .defer c) (hr : (execOp a.eval o).run P w = .ok (.value v) w') (h1 : Went φ m lw w φ' w') (h2 : HR φ' h' w') (h3 : VR φ' c v) : Goes P F n o a w φ m lw c h' := fun K Q hk =>
 ⟨fun f _ => hF.fn f, by rw [Oper.semAt_eq _ _ _ hnd, hr]; exact hk φ' v w' h1 h2 h3⟩
theorem goes_skip {F : Fence} (hF : FW F) {n : Nat} {o : Oper} {m lw : Nat} {h' : CH} {w' : World} {φ' : Phi} (hnd : ∀ c, o.op ≠ .defer c) (hr : (execOp a.eval o).run P w = .ok .skip w') (h1 : Went φ m lw w φ' w') (h2 : HR φ' h' w') : Goes P F n o a w φ m lw (.tup []) h' := fun K Q hk =>
 ⟨fun f _ => hF.fn f, by rw [Oper.semAt_eq _ _ _ hnd, hr]; exact hk φ' undef w' h1 h2 (.tup .nil)⟩
theorem goes_v {F : Fence} (hF : FW F) {n : Nat} {o : Oper} {c : CV} {h' : CH} {lw : Nat} {oc : Option CV} (e : vC h oc = some (c, h', lw)) (hh : HR φ h w) (hnd : ∀ c, o.op ≠ .defer c) (hx : ∀ c, oc = some c → ∃ u, (execOp a.eval o).run P w = .ok (.value u) w ∧ VR φ c u) : Goes P F n o a w φ h.n lw c h' := by
 obtain ⟨e1, e2, e3⟩ := vC_inv e
 subst e2; subst e3
 obtain ⟨u, hr, hv⟩ := hx c e1
 exact goes_value hF hnd hr (Went.refl _ _ _ _) hh hv
theorem exec_v {ρ : Operand → Value} {o : Oper} {s : Sem Value} {v : Value} {w w' : World} (he : execOp ρ o = (do pure (.value (← s)))) (hr : s.run P w = .ok v w') : (execOp ρ o).run P w = .ok (.value v) w' := by
 rw [he]; simp [hr]
theorem exec_u {ρ : Operand → Value} {o : Oper} {s : Sem Unit} {w w' : World} (he : execOp ρ o = (do s; pure .skip)) (hr : s.run P w = .ok () w') : (execOp ρ o).run P w = .ok .skip w' := by
 rw [he]; simp [hr]
theorem exec_build {ρ : Operand → Value} {dst : Option Tmp} {ty : TypeId} {pos : String} {af : Array Edge} {gd : Option (Nat × Bool)} {t : TypeId} {ps : Array (Nat × Operand)} : execOp ρ ⟨dst, .build t ps, ty, pos, af, gd⟩ = (do pure (.value (← Instr.build t (ps.map fun x => (x.1, ρ x.2))))) := by
 simp only [execOp]
theorem exec_buildSlice {ρ : Operand → Value} {dst : Option Tmp} {ty : TypeId} {pos : String} {af : Array Edge} {gd : Option (Nat × Bool)} {t : TypeId} {k : Nat} {ps : Array (Nat × Operand)} : execOp ρ ⟨dst, .buildSlice t k ps, ty, pos, af, gd⟩ = (do pure (.value (← Instr.buildSlice t k (ps.map fun x => (x.1, ρ x.2))))) := by
 simp only [execOp]
set_option maxHeartbeats 4000000 in
theorem op_plain {F : Fence} (hF : FW F) {n : Nat} {dst : Option Tmp} {ty : TypeId} {pos : String} {af : Array Edge} {gd : Option (Nat × Bool)} {op : Op} {c : CV} {h' : CH} {lw : Nat} (e : opC P run op ts h = some (c, h', lw)) (hh : HR φ h w) (he : EvL φ ts a op.operands.toList) (hnc : ∀ c, op ≠ .call c) :
  Goes P F n ⟨dst, op, ty, pos, af, gd⟩ a w φ h.n lw c h' := by
 have mem : ∀ x, x ∈ op.operands.toList → ∀ c, argC ts x = some c → VR φ c (a.eval x) := he
 cases op with
 | move x => exact goes_v hF e hh (fun _ => by simp) fun c hc => ⟨_, rfl, mem x (by simp [Op.operands]) c hc⟩
 | assign x => exact goes_v hF e hh (fun _ => by simp) fun c hc => ⟨_, rfl, mem x (by simp [Op.operands]) c hc⟩
 | pick k x y =>
  simp only [opC] at e
  split at e
  ·rename_i b hb
   have hk := mem k (by simp [Op.operands]) _ hb
   refine goes_v hF e hh (fun _ => by simp) fun c hc => ?_
   generalize hkv : a.eval k = kv at hk
   cases hk
   cases b with
   | true => exact ⟨a.eval x, by simp [execOp, hkv, asBool], mem x (by simp [Op.operands]) c hc⟩
   | false => exact ⟨a.eval y, by simp [execOp, hkv, asBool], mem y (by simp [Op.operands]) c hc⟩
  ·cases e
 | alloc t =>
  simp only [opC] at e
  split at e
  ·rename_i z k hz hk
   obtain ⟨h1, e⟩ := bif_some e
   injection e with e; injection e with e1 e; injection e with e2 e3; subst e1; subst e2; subst e3
   obtain ⟨zv, hzr, hzv⟩ := run_zeroC (φ := φ) hz w
   obtain ⟨w', φ', r1, r2, r3, r4⟩ := newVar_rel (P := P) hh t hzv
   exact goes_value hF (fun _ => by simp) (exec_v (s := Instr.alloc t true (.tuple #[])) rfl (by simpa [Instr.alloc, hzr] using r1)) r2 r3 r4
  ·cases e
 | box t x =>
  simp only [opC] at e
  split at e
  ·rename_i z hz
   injection e with e; injection e with e1 e; injection e with e2 e3; subst e1; subst e2; subst e3
   obtain ⟨w', φ', r1, r2, r3, r4⟩ := newVar_rel (P := P) hh t (mem x (by simp [Op.operands]) z hz)
   exact goes_value hF (fun _ => by simp) (exec_v (s := Instr.box t (a.eval x)) rfl (by simpa [Instr.box] using r1)) r2 r3 r4
  ·cases e
 | build t ps =>
  simp only [opC] at e
  split at e
  ·rename_i cs hcs
   have hp := parts_rel (φ := φ) (a := a) (he.mono fun x hx => by simpa [Op.operands] using hx) hcs
   refine goes_v hF e hh (fun _ => by simp) fun c hc => ?_
   obtain ⟨u, hr, hv⟩ := build_rel (ps' := ps.map fun x => (x.1, a.eval x.2)) (by simpa using hp) hc w
   exact ⟨u, exec_v exec_build hr, hv⟩
  ·cases e
 | buildSlice t k ps =>
  simp only [opC] at e
  split at e
  ·rename_i cs hcs
   have hp := parts_rel (φ := φ) (a := a) (he.mono fun x hx => by simpa [Op.operands] using hx) hcs
   obtain ⟨u, w', φ', hr, r2, r3, r4⟩ := buildSlice_rel (P := P) (ps' := ps.map fun x => (x.1, a.eval x.2)) hh (by simpa using hp) e
   exact goes_value hF (fun _ => by simp) (exec_v exec_buildSlice hr) r2 r3 r4
  ·cases e
 | load t x =>
  refine goes_v hF e hh (fun _ => by simp) fun c hc => ?_
  rw [Option.bind_eq_some_iff] at hc
  obtain ⟨y, hy, hl⟩ := hc
  obtain ⟨u, hr, hv⟩ := load_rel (P := P) hh (mem x (by simp [Op.operands]) y hy) hl
  exact ⟨u, exec_v (s := Instr.loadAt t (a.eval x)) rfl hr, hv⟩
 | store t x y =>
  simp only [opC] at e
  split at e
  ·rename_i p v hp hv
   obtain ⟨e1, e2⟩ := uC_inv e
   subst e2
   obtain ⟨w', hr, r2, r3⟩ := store_rel (P := P) hh (mem x (by simp [Op.operands]) p hp) (mem y (by simp [Op.operands]) v hv) e1
   exact goes_skip hF (fun _ => by simp) (exec_u (s := Instr.storeAt t (a.eval x) (a.eval y)) rfl hr) r2 r3
  ·cases e
 | nilCheck x =>
  simp only [opC] at e
  split at e
  ·rename_i b o hx
   have hv := mem x (by simp [Op.operands]) _ hx
   refine goes_v hF e hh (fun _ => by simp) fun c hc => ?_
   injection hc with hc; subst hc
   generalize hkv : a.eval x = xv at hv
   cases hv with | ptr hp => exact ⟨_, by simp [execOp, hkv], .ptr hp⟩
  ·rename_i f l m hx
   have hv := mem x (by simp [Op.operands]) _ hx
   refine goes_v hF e hh (fun _ => by simp) fun c hc => ?_
   injection hc with hc; subst hc
   generalize hkv : a.eval x = xv at hv
   cases hv with | fn h1 h2 => exact ⟨_, by simp [execOp, hkv], .fn h1 h2⟩
  ·rename_i b hx
   have hv := mem x (by simp [Op.operands]) _ hx
   refine goes_v hF e hh (fun _ => by simp) fun c hc => ?_
   injection hc with hc; subst hc
   generalize hkv : a.eval x = xv at hv
   cases hv with | yield hp => exact ⟨_, by simp [execOp, hkv], .yield hp⟩
  ·rename_i b k y z d hx
   have hv := mem x (by simp [Op.operands]) _ hx
   refine goes_v hF e hh (fun _ => by simp) fun c hc => ?_
   injection hc with hc; subst hc
   generalize hkv : a.eval x = xv at hv
   cases hv with | gp hp hx0 => exact ⟨_, by simp [execOp, hkv], .gp hp hx0⟩
  ·cases e
 | binOp op t x y yt =>
  simp only [opC] at e
  refine goes_v hF e hh (fun _ => by simp) fun c hc => ?_
  unfold binX at hc
  split at hc
  ·rename_i c' hn
   injection hc with hc; subst hc
   obtain ⟨p, hp, hny, hk⟩ := nilCmp_at hn
   obtain ⟨u, hg, hr, hv⟩ := nilCmp_rel (P := P) (x := x) (y := y) (mem x (by simp [Op.operands]) p hp) hn hp hny w
   exact ⟨u, exec_v (s := do eqGuard op t x y (a.eval x) (a.eval y); binOp op t (a.eval x) (a.eval y)) rfl (by rw [hk a]; simp only [Sem.run_bind, hg, Result.andThen_ok, hr]), hv⟩
  ·split at hc
   ·rename_i c' hn
    injection hc with hc; subst hc
    obtain ⟨hp, hk, u, hg, hr, hv⟩ := nilEq_rel (P := P) (φ := φ) (x := x) (y := y) hn w
    have hxv := mem x (by simp [Op.operands]) _ hp
    have hxv : a.eval x = .slice none 0 0 := by
     generalize a.eval x = xv at hxv
     cases hxv; rfl
    exact ⟨u, exec_v (s := do eqGuard op t x y (a.eval x) (a.eval y); binOp op t (a.eval x) (a.eval y)) rfl (by rw [hk a, hxv]; simp only [Sem.run_bind, hg, Result.andThen_ok, hr]), hv⟩
   split at hc
   ·rename_i p q hp hq
    obtain ⟨u, hg, hr, hv⟩ := binL_rel (P := P) (mem x (by simp [Op.operands]) p hp) (mem y (by simp [Op.operands]) q hq) hc w
    exact ⟨u, exec_v (s := do eqGuard op t x y (a.eval x) (a.eval y); binOp op t (a.eval x) (a.eval y)) rfl (by simp only [Sem.run_bind, hg, Result.andThen_ok, hr]), hv⟩
   ·cases hc
 | unOp op t x =>
  refine goes_v hF e hh (fun _ => by simp) fun c hc => ?_
  rw [Option.bind_eq_some_iff] at hc
  obtain ⟨y, hy, hl⟩ := hc
  obtain ⟨u, hr, hv⟩ := un_rel (P := P) (mem x (by simp [Op.operands]) y hy) hl w
  exact ⟨u, exec_v (s := Op.unary op (a.eval x)) rfl hr, hv⟩
 | convert s d x =>
  refine goes_v hF e hh (fun _ => by simp) fun c hc => ?_
  rw [Option.bind_eq_some_iff] at hc
  obtain ⟨y, hy, hl⟩ := hc
  obtain ⟨u, hr, hv⟩ := convS_rel (P := P) hh (mem x (by simp [Op.operands]) y hy) hl
  exact ⟨u, exec_v (s := convert s d (a.eval x)) rfl hr, hv⟩
 | makeFunc fn first cap =>
  cases fn <;> simp only [opC] at e <;> try (cases e; done)
  rename_i f
  split at e
  ·rename_i l m hl hm
   refine goes_v hF e hh (fun _ => by simp) fun c hc => ?_
   injection hc with hc; subst hc
   have h1 := args_rel (φ := φ) (a := a) (he.mono fun x hx => by simp [Op.operands]; exact .inl (by simpa using hx)) hl
   have h2 := args_rel (φ := φ) (a := a) (he.mono fun x hx => by simp [Op.operands]; exact .inr (by simpa using hx)) hm
   obtain ⟨first⟩ := first
   obtain ⟨cap⟩ := cap
   exact ⟨.func (.func f) ⟨first.map a.eval⟩ ⟨cap.map a.eval⟩, by simp [execOp, Instr.makeFunc], .fn h1 h2⟩
  ·cases e
 | makeMap t r =>
  cases r <;> simp only [opC] at e <;> try (cases e; done)
  injection e with e; injection e with e1 e; injection e with e2 e3; subst e1; subst e2; subst e3
  have r1 := Went.alloc hh (h.n + 1) ⟨w.heap.size, 0, 0⟩ rfl (.map #[] 0)
  have r2 : HR (φ.put h.n ⟨w.heap.size, 0, 0⟩) (h.new (.map [])) (w.alloc (.map #[] 0)) := hh.new rfl ⟨#[], 0, rfl, .nil, .nil, rfl, rfl⟩
  exact goes_value hF (fun _ => by simp) (exec_v (s := Instr.makeMap t none) rfl (v := .map (some w.heap.size)) (by simp [Instr.makeMap])) r1 r2 (.map (p := ⟨w.heap.size, 0, 0⟩) (Phi.put_same _ _ _))
 | makeSlice t l k =>
  simp only [opC] at e
  split at e
  ·rename_i p q hp hq
   obtain ⟨u, w', φ', hr, r2, r3, r4⟩ := makeSlice_rel (P := P) hh (mem l (by simp [Op.operands]) p hp) (mem k (by simp [Op.operands]) q hq) e
   exact goes_value hF (fun _ => by simp) (exec_v (s := Instr.makeSlice t (a.eval l) (a.eval k)) rfl hr) r2 r3 r4
  ·cases e
 | slice t x lo hi mx =>
  cases mx with
  | none =>
   simp only [opC] at e
   split at e
   ·rename_i xv hx
    split at e
    ·rename_i l u hl hu
     refine goes_v hF e hh (fun _ => by simp) fun c hc => ?_
     have h1 := opt_rel (φ := φ) (a := a) (he.mono fun x hx => by simp [Op.operands] at hx ⊢; exact .inr (.inl hx)) hl
     have h2 := opt_rel (φ := φ) (a := a) (he.mono fun x hx => by simp [Op.operands] at hx ⊢; exact .inr (.inr hx)) hu
     obtain ⟨v, hr, hv⟩ := slice_rel (P := P) hh (mem x (by simp [Op.operands]) xv hx).nn h1 h2 hc
     exact ⟨v, exec_v (s := Instr.sliceAt t (a.eval x) (lo.map a.eval) (hi.map a.eval) none) rfl hr, hv⟩
    ·cases e
   ·cases e
  | some m =>
   simp only [opC] at e
   split at e
   ·rename_i xv mv hx hm
    split at e
    ·rename_i l u hl hu
     refine goes_v hF e hh (fun _ => by simp) fun c hc => ?_
     have h1 := opt_rel (φ := φ) (a := a) (he.mono fun x hx => by simp [Op.operands] at hx ⊢; exact .inr (.inl hx)) hl
     have h2 := opt_rel (φ := φ) (a := a) (he.mono fun x hx => by simp [Op.operands] at hx ⊢; exact .inr (.inr (.inl hx))) hu
     obtain ⟨v, hr, hv⟩ := slice3_rel (P := P) (mem x (by simp [Op.operands]) xv hx).nn h1 h2 (mem m (by simp [Op.operands]) mv hm) hc w
     exact ⟨v, exec_v (s := Instr.sliceAt t (a.eval x) (lo.map a.eval) (hi.map a.eval) (some (a.eval m))) rfl hr, hv⟩
    ·cases e
   ·cases e
 | fieldAddr s x f =>
  refine goes_v hF e hh (fun _ => by simp) fun c hc => ?_
  rw [Option.bind_eq_some_iff] at hc
  obtain ⟨y, hy, hl⟩ := hc
  obtain ⟨u, hr, hv⟩ := fieldAddr_rel (P := P) (mem x (by simp [Op.operands]) y hy) hl w
  exact ⟨u, exec_v (s := Instr.fieldAt s (a.eval x) f) rfl hr, hv⟩
 | sliceToArrayPointer t x =>
  refine goes_v hF e hh (fun _ => by simp) fun c hc => ?_
  rw [Option.bind_eq_some_iff] at hc
  obtain ⟨y, hy, hl⟩ := hc
  obtain ⟨u, hr, hv⟩ := arrAt_rel (P := P) (mem x (by simp [Op.operands]) y hy) hl w
  exact ⟨u, exec_v (s := Instr.arrayAt t (a.eval x)) rfl hr, hv⟩
 | field t x f =>
  refine goes_v hF e hh (fun _ => by simp) fun c hc => ?_
  rw [Option.bind_eq_some_iff] at hc
  obtain ⟨y, hy, hl⟩ := hc
  obtain ⟨u, hr, hv⟩ := field_rel (P := P) (mem x (by simp [Op.operands]) y hy) hl w
  exact ⟨u, exec_v (s := Instr.field t (a.eval x) f) rfl hr, hv⟩
 | indexAddr t x i =>
  simp only [opC] at e
  split at e
  ·rename_i p q hp hq
   refine goes_v hF e hh (fun _ => by simp) fun c hc => ?_
   obtain ⟨u, hr, hv⟩ := indexAddr_rel (P := P) (mem x (by simp [Op.operands]) p hp) (mem i (by simp [Op.operands]) q hq) hc w
   exact ⟨u, exec_v (s := Instr.indexAt t (a.eval x) (a.eval i)) rfl hr, hv⟩
  ·cases e
 | index t x i =>
  simp only [opC] at e
  split at e
  ·rename_i p q hp hq
   refine goes_v hF e hh (fun _ => by simp) fun c hc => ?_
   obtain ⟨u, hr, hv⟩ := index_rel (P := P) (mem x (by simp [Op.operands]) p hp) (mem i (by simp [Op.operands]) q hq) hc w
   exact ⟨u, exec_v (s := Instr.index t (a.eval x) (a.eval i)) rfl hr, hv⟩
  ·cases e
 | lookup t m k ok =>
  simp only [opC] at e
  split at e
  ·rename_i p q hp hq
   refine goes_v hF e hh (fun _ => by simp) fun c hc => ?_
   obtain ⟨u, hr, hv⟩ := lookup_rel (P := P) hh (mem m (by simp [Op.operands]) p hp) (mem k (by simp [Op.operands]) q hq) hc
   exact ⟨u, exec_v (s := Instr.lookup t (a.eval m) (a.eval k) ok) rfl hr, hv⟩
  ·cases e
 | insert t m k x =>
  simp only [opC] at e
  split at e
  ·rename_i p q r hp hq hx
   obtain ⟨e1, e2⟩ := uC_inv e
   subst e2
   obtain ⟨w', hr, r2, r3⟩ := insert_rel (P := P) hh (mem m (by simp [Op.operands]) p hp) (mem k (by simp [Op.operands]) q hq) (mem x (by simp [Op.operands]) r hx) e1
   exact goes_skip hF (fun _ => by simp) (exec_u (s := Instr.mapUpdate t (a.eval m) (a.eval k) (a.eval x)) rfl hr) r2 r3
  ·cases e
 | mapUpdate t m k x =>
  simp only [opC] at e
  split at e
  ·rename_i p q r hp hq hx
   obtain ⟨e1, e2⟩ := uC_inv e
   subst e2
   obtain ⟨w', hr, r2, r3⟩ := insert_rel (P := P) hh (mem m (by simp [Op.operands]) p hp) (mem k (by simp [Op.operands]) q hq) (mem x (by simp [Op.operands]) r hx) e1
   exact goes_skip hF (fun _ => by simp) (exec_u (s := Instr.mapUpdate t (a.eval m) (a.eval k) (a.eval x)) rfl hr) r2 r3
  ·cases e
 | range t x =>
  simp only [opC] at e
  split at e
  ·rename_i y hy
   obtain ⟨u, w', φ', hr, r2, r3, r4⟩ := range_rel (P := P) hh (mem x (by simp [Op.operands]) y hy) e
   exact goes_value hF (fun _ => by simp) (exec_v (s := Instr.range t (a.eval x)) rfl hr) r2 r3 r4
  ·cases e
 | next x isS =>
  cases isS with
  | true => simp only [opC] at e; cases e
  | false =>
   simp only [opC] at e
   split at e
   ·rename_i y hy
    obtain ⟨u, w', hr, r2, r3, r4⟩ := next_rel (P := P) hh (mem x (by simp [Op.operands]) y hy) e ty
    exact goes_value hF (fun _ => by simp) (exec_v (s := Instr.next (a.eval x) false ty) rfl hr) r2 r3 r4
   ·cases e
 | entry x =>
  refine goes_v hF e hh (fun _ => by simp) fun c hc => ?_
  rw [Option.bind_eq_some_iff] at hc
  obtain ⟨y, hy, hl⟩ := hc
  obtain ⟨u, hr, hv⟩ := entry_rel (P := P) hh (mem x (by simp [Op.operands]) y hy) hl
  exact ⟨u, exec_v (s := Instr.entry (a.eval x)) rfl hr, hv⟩
 | extract x i =>
  simp only [opC] at e
  split at e
  ·rename_i l hx
   have hv := mem x (by simp [Op.operands]) _ hx
   refine goes_v hF e hh (fun _ => by simp) fun c hc => ?_
   generalize hkv : a.eval x = xv at hv
   cases hv with
   | tup hl =>
    obtain ⟨u, hu, hr⟩ := hl.get hc
    exact ⟨u, by simp [execOp, hkv, Instr.extract, hu], hr⟩
  ·cases e
 | call k => exact absurd rfl (hnc k)
 | _ => simp only [opC] at e; cases e
end
end Go.Proofs.YthffbfkcmbgghaaGreat.Cm
