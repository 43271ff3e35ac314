/-
  The clean machine and the model: memory.
-/
import Derived.Test.YthffbfkcmbgghaaGreatZCb
set_option linter.all false
namespace Go.Proofs.YthffbfkcmbgghaaGreat.Cm
open Go Go.RowKit
variable [Val]
structure TR (φ : Phi) (ts : Tr CV) (nt : Nat) (tm : Array Value) : Prop where
  size : tm.size = nt
  get : ∀ d c, ts.get d = some c → ∃ v, tm[d]? = some v ∧ VR φ c v
def CE.code : CE → Code
  | .normal => .skip
  | .exit id => .exit id
  | .ret => .ret
  | .goto l => .goto l
def OR (φ : Phi) (ob : Option Obj) (p : Pl) : CObj → Prop
  | .cells l t ro => ∃ cs fz, ob = some (.cells cs t fz) ∧ cs.size = p.z ∧ p.o + l.length ≤ p.z ∧ VRs φ l ((cs.toList.drop p.o).take l.length) ∧ (ro = false → fz = (0, 0))
  | .loop st pe ts nt ps l df => ∃ (pd : Pl) (tm : Array Value) (fnid : FuncId), φ df = some pd ∧
      ob = some (.loop { state := st, pending := pe.map CE.code, fn := fnid, tmps := tm, params := ⟨ps⟩, assign := (Val.cod l).1, body := (Val.cod l).2, defers := pd.r }) ∧ TR φ ts nt tm
  | .dfr => ob = some (.deferred (some []))
  | .rows i l t ro => ∃ cs t' fz, ob = some (.cells cs t' fz) ∧ cs.size = p.z ∧ p.o + (Val.lst i).length + l.length ≤ p.z ∧ (cs.toList.drop p.o).take (Val.lst i).length = Val.lst i ∧ VRs φ l ((cs.toList.drop (p.o + (Val.lst i).length)).take l.length) ∧ (ro = false → t' = t ∧ fz = (0, 0))
  | .map l => ∃ es clock, ob = some (.map es clock) ∧ VRs φ (l.map (·.1)) (es.toList.map (·.key)) ∧ VRs φ (l.map (·.2)) (es.toList.map (·.val)) ∧ clock = l.length ∧ es.toList.map (·.born) = List.range l.length
  | .iter m since seen last => ∃ pm, φ m = some pm ∧ p.o = 0 ∧ ob = some (.mapIter (some pm.r) since ⟨seen⟩ last)
  | .glob g k zs => p.r = g ∧ p.o = 0 ∧ p.z = zs.length ∧ ∃ t fz, ob = some (.cells (zs.map fun (n : Nat) => Value.int k (n : Int)).toArray t fz)
def CObj.ro : CObj → Bool
  | .cells _ _ r => r
  | .rows _ _ _ r => r
  | .glob .. => true
  | _ => false
structure HR (φ : Phi) (h : CH) (w : World) : Prop where
  ob : ∀ b o p, h.get b = some o → φ b = some p → OR φ w.heap[p.r]? p o
  ap : ∀ b b' o o' p p', h.get b = some o → h.get b' = some o' → φ b = some p → φ b' = some p' → p.r = p'.r → b = b' ∨ (o.ro = true ∧ o'.ro = true)
  lt : ∀ b p, φ b = some p → b < h.n ∧ p.r < w.heap.size
  nw : ∀ b, h.n ≤ b → h.get b = none
  gl : ∀ b o, h.get b = some o → o.isGlob = true → ∃ p, φ b = some p
structure Went (φ : Phi) (n lw : Nat) (w : World) (φ' : Phi) (w' : World) : Prop where
  le : φ.le φ'
  new : ∀ b p, φ' b = some p → φ b = some p ∨ (n ≤ b ∧ (w.heap.size ≤ p.r ∨ ∃ b0 p0, lw ≤ b0 ∧ φ b0 = some p0 ∧ p0.r = p.r))
  os : w'.os = w.os
  tape : w'.tape = w.tape
  output : w'.output = w.output
  size : w.heap.size ≤ w'.heap.size
  fr : ∀ r, r < w.heap.size → (∀ b p, lw ≤ b → φ b = some p → p.r ≠ r) → w'.heap[r]? = w.heap[r]?
theorem Phi.le_refl (φ : Phi) : φ.le φ := fun _ _ h => h
theorem Phi.le_trans {a b c : Phi} (h : a.le b) (k : b.le c) : a.le c := fun x p e => k x p (h x p e)
theorem TR.mono {φ φ' : Phi} (hle : φ.le φ') {ts : Tr CV} {nt : Nat} {tm : Array Value} (h : TR φ ts nt tm) : TR φ' ts nt tm :=
  ⟨h.size, fun d c e => let ⟨v, hv, hr⟩ := h.get d c e; ⟨v, hv, hr.mono hle⟩⟩
theorem OR.mono {φ φ' : Phi} (hle : φ.le φ') {ob : Option Obj} {p : Pl} {o : CObj} (h : OR φ ob p o) : OR φ' ob p o := by
  cases o with
  | cells l t ro => obtain ⟨cs, fz, h1, h2, h3, h4, h5⟩ := h; exact ⟨cs, fz, h1, h2, h3, h4.mono hle, h5⟩
  | loop st pe ts nt ps l df => obtain ⟨pd, tm, fnid, h1, h2, h3⟩ := h; exact ⟨pd, tm, fnid, hle _ _ h1, h2, h3.mono hle⟩
  | dfr => exact h
  | rows i l t ro => obtain ⟨cs, t', fz, h1, h2, h3, h4, h5, h6⟩ := h; exact ⟨cs, t', fz, h1, h2, h3, h4, h5.mono hle, h6⟩
  | map l => obtain ⟨es, clock, h1, h2, h3, h4⟩ := h; exact ⟨es, clock, h1, h2.mono hle, h3.mono hle, h4⟩
  | iter m since seen last => obtain ⟨pm, h1, h2⟩ := h; exact ⟨pm, hle _ _ h1, h2⟩
  | glob g k zs => exact h
namespace Went
variable {φ φ' φ'' : Phi} {n n' lw lw' lw'' : Nat} {w w' w'' : World}
theorem refl (φ : Phi) (n lw : Nat) (w : World) : Went φ n lw w φ w := ⟨Phi.le_refl φ, fun _ _ h => .inl h, rfl, rfl, rfl, Nat.le_refl _, fun _ _ _ => rfl⟩
theorem drew (φ : Phi) (n lw : Nat) (w : World) : Went φ n lw w φ w.drew := ⟨Phi.le_refl φ, fun _ _ h => .inl h, rfl, rfl, rfl, Nat.le_refl _, fun _ _ _ => rfl⟩
theorem trans (h : Went φ n lw w φ' w') (k : Went φ' n' lw' w' φ'' w'') (hn : n ≤ n') (h1 : lw'' ≤ lw) (h2 : lw'' ≤ lw') : Went φ n lw'' w φ'' w'' := by
  have old : ∀ b p, lw'' ≤ b → φ' b = some p → (w.heap.size ≤ p.r ∨ ∃ b0 p0, lw'' ≤ b0 ∧ φ b0 = some p0 ∧ p0.r = p.r) := by
    intro b p hb e
    rcases h.new b p e with e | ⟨_, e | ⟨b0, p0, e1, e2, e3⟩⟩
    · exact .inr ⟨b, p, hb, e, rfl⟩
    · exact .inl e
    · exact .inr ⟨b0, p0, Nat.le_trans h1 e1, e2, e3⟩
  refine ⟨Phi.le_trans h.le k.le, fun b p e => ?_, k.os.trans h.os, k.tape.trans h.tape, k.output.trans h.output, Nat.le_trans h.size k.size, fun r hr hf => ?_⟩
  · rcases k.new b p e with e | ⟨hb, e⟩
    · rcases h.new b p e with e | ⟨hb, e | ⟨b0, p0, e1, e2, e3⟩⟩
      · exact .inl e
      · exact .inr ⟨hb, .inl e⟩
      · exact .inr ⟨hb, .inr ⟨b0, p0, Nat.le_trans h1 e1, e2, e3⟩⟩
    · refine .inr ⟨Nat.le_trans hn hb, ?_⟩
      rcases e with e | ⟨b0, p0, e1, e2, e3⟩
      · exact .inl (Nat.le_trans h.size e)
      · rw [← e3]; exact old b0 p0 (Nat.le_trans h2 e1) e2
  · rw [k.fr r (Nat.lt_of_lt_of_le hr h.size) fun b p hb e e' => ?_, h.fr r hr fun b p hb e => hf b p (Nat.le_trans h1 hb) e]
    rcases old b p (Nat.le_trans h2 hb) e with e2 | ⟨b0, p0, e1, e2, e3⟩
    · omega
    · exact hf b0 p0 e1 e2 (e3.trans e')
theorem weak (h : Went φ n lw w φ' w') (h1 : lw' ≤ lw) (hn : n' ≤ n) : Went φ n' lw' w φ' w' :=
  (Went.refl φ n' lw' w).trans h hn (Nat.le_refl _) h1
end Went
def Phi.put (φ : Phi) (b : Nat) (p : Pl) : Phi := fun x => if x = b then some p else φ x
theorem Phi.put_same (φ : Phi) (b : Nat) (p : Pl) : φ.put b p b = some p := if_pos rfl
theorem Phi.put_other (φ : Phi) {b x : Nat} (h : x ≠ b) (p : Pl) : φ.put b p x = φ x := if_neg h
section
variable {φ φ' : Phi} {h : CH} {w w' : World} {n lw : Nat}
theorem HR.fresh (hh : HR φ h w) {b : Nat} (hb : h.n ≤ b) : φ b = none := by
  cases e : φ b with
  | none => rfl
  | some p => have := (hh.lt b p e).1; omega
theorem HR.put_le (hh : HR φ h w) (p : Pl) : φ.le (φ.put h.n p) := fun b q e => by
  have : b ≠ h.n := fun e' => by rw [e', hh.fresh (Nat.le_refl _)] at e; cases e
  rw [φ.put_other this, e]
theorem CH.get_new (h : CH) (o : CObj) (b : Nat) : (h.new o).get b = if b = h.n then some o else h.get b := by
  unfold CH.new CH.get; exact Tr.get_put _ _ _ _
theorem CH.get_put (h : CH) (b : Nat) (o : Option CObj) (x : Nat) : (h.put b o).get x = if x = b then o else h.get x := by
  unfold CH.put CH.get; exact Tr.get_put _ _ _ _
theorem HR.went_same (hh : HR φ h w) (hg : Went φ n h.n w φ w') : HR φ h w' := by
  refine ⟨fun b o p e1 e2 => ?_, hh.ap, fun b p e => ⟨(hh.lt b p e).1, Nat.lt_of_lt_of_le (hh.lt b p e).2 hg.size⟩, hh.nw, hh.gl⟩
  rw [hg.fr p.r (hh.lt b p e2).2 fun b' p' hb e _ => by have := (hh.lt b' p' e).1; omega]
  exact hh.ob b o p e1 e2
theorem HR.drew (hh : HR φ h w) : HR φ h w.drew := hh.went_same (Went.drew φ h.n h.n w)
theorem Went.alloc (hh : HR φ h w) (lw : Nat) (p : Pl) (hp : p.r = w.heap.size) (ob : Obj) : Went φ h.n lw w (φ.put h.n p) (w.alloc ob) :=
  ⟨hh.put_le p, fun b q e => by
    by_cases hb : b = h.n
    · subst hb; rw [φ.put_same] at e; injection e with e; subst e; exact .inr ⟨Nat.le_refl _, .inl (by omega)⟩
    · rw [φ.put_other hb] at e; exact .inl e, rfl, rfl, rfl, by simp, fun r hr _ => Below.heap_alloc w ob r hr⟩
theorem HR.new (hh : HR φ h w) {o : CObj} {ob : Obj} {p : Pl} (hp : p.r = w.heap.size) (ho : OR (φ.put h.n p) (some ob) p o) : HR (φ.put h.n p) (h.new o) (w.alloc ob) := by
  have hle := hh.put_le p
  have old : ∀ b q, b ≠ h.n → (φ.put h.n p) b = some q → φ b = some q := fun b q hb e => by rwa [φ.put_other hb] at e
  refine ⟨fun b x q e1 e2 => ?_, fun b b' x x' q q' e1 e1' e2 e2' er => ?_, fun b q e => ?_, fun b hb => ?_, fun b o' e1 e2 => by
    by_cases hb : b = h.n
    · exact ⟨p, by rw [hb, φ.put_same]⟩
    · rw [h.get_new, if_neg hb] at e1
      rw [φ.put_other hb]
      exact hh.gl b o' e1 e2⟩
  · rw [h.get_new] at e1
    by_cases hb : b = h.n
    · subst hb
      rw [if_pos rfl] at e1
      rw [φ.put_same] at e2
      injection e1 with e1; injection e2 with e2; subst e1; subst e2
      rw [hp, World.alloc_heap_new]; exact ho
    · rw [if_neg hb] at e1
      have e3 := old b q hb e2
      rw [Below.heap_alloc w ob q.r (hh.lt b q e3).2]
      exact (hh.ob b x q e1 e3).mono hle
  · rw [h.get_new] at e1 e1'
    by_cases hb : b = h.n <;> by_cases hb' : b' = h.n
    · exact .inl (hb.trans hb'.symm)
    · subst hb
      rw [φ.put_same] at e2; injection e2 with e2; subst e2
      have := (hh.lt b' q' (old b' q' hb' e2')).2; omega
    · subst hb'
      rw [φ.put_same] at e2'; injection e2' with e2'; subst e2'
      have := (hh.lt b q (old b q hb e2)).2; omega
    · rw [if_neg hb] at e1; rw [if_neg hb'] at e1'
      exact hh.ap b b' x x' q q' e1 e1' (old b q hb e2) (old b' q' hb' e2') er
  · by_cases hb : b = h.n
    · subst hb
      rw [φ.put_same] at e; injection e with e; subst e
      exact ⟨Nat.lt_succ_self _, by simp [hp]⟩
    · have := hh.lt b q (old b q hb e)
      exact ⟨Nat.lt_succ_of_lt this.1, by simp; omega⟩
  · have hb : h.n + 1 ≤ b := hb
    rw [h.get_new, if_neg (by omega)]; exact hh.nw b (by omega)
theorem HR.put (hh : HR φ h w) {b : Nat} {o o' : CObj} {p : Pl} (hb : h.get b = some o) (hr : o.ro = false) (hp : φ b = some p) (hr' : o'.ro = false) (hsz : w'.heap.size = w.heap.size) (hfr : ∀ r, r ≠ p.r → w'.heap[r]? = w.heap[r]?)
    (ho : OR φ w'.heap[p.r]? p o') : HR φ (h.put b (some o')) w' := by
  refine ⟨fun x y q e1 e2 => ?_, fun x x' y y' q q' e1 e1' e2 e2' er => ?_, fun x q e => by rw [hsz]; exact hh.lt x q e, fun x hx => ?_, fun x y e1 e2 => by
    by_cases hx : x = b
    · exact ⟨p, by rw [hx, hp]⟩
    · rw [h.get_put, if_neg hx] at e1
      exact hh.gl x y e1 e2⟩
  · rw [h.get_put] at e1
    by_cases hx : x = b
    · subst hx
      rw [if_pos rfl] at e1; injection e1 with e1; subst e1
      rw [hp] at e2; injection e2 with e2; subst e2
      exact ho
    · rw [if_neg hx] at e1
      rw [hfr q.r fun er => ?_]
      · exact hh.ob x y q e1 e2
      · rcases hh.ap x b y o q p e1 hb e2 hp er with e | ⟨_, e⟩
        · exact hx e
        · rw [hr] at e; cases e
  · rw [h.get_put] at e1 e1'
    by_cases hx : x = b <;> by_cases hx' : x' = b
    · exact .inl (hx.trans hx'.symm)
    · subst hx
      rw [if_neg hx'] at e1'
      rcases hh.ap x x' o y' q q' hb e1' e2 e2' er with e | ⟨e, _⟩
      · exact .inl e
      · rw [hr] at e; cases e
    · subst hx'
      rw [if_neg hx] at e1
      rcases hh.ap x x' y o q q' e1 hb e2 e2' er with e | ⟨_, e⟩
      · exact .inl e
      · rw [hr] at e; cases e
    · rw [if_neg hx] at e1; rw [if_neg hx'] at e1'
      exact hh.ap x x' y y' q q' e1 e1' e2 e2' er
  · rw [h.get_put, if_neg]
    · exact hh.nw x hx
    · rintro rfl; rw [hh.nw x hx] at hb; cases hb
theorem HR.short (hh : HR φ h w) {b : Nat} {l : List CV} {t : TypeId} (hb : h.get b = some (.cells l t false)) (k : Nat) : HR φ (h.put b (some (.cells (l.take k) t false))) w := by
  cases hp : φ b with
  | some p =>
    refine hh.put (o := .cells l t false) (p := p) hb rfl hp rfl rfl (fun _ _ => rfl) ?_
    obtain ⟨cs, fz, h1, h2, h3, h4, h5⟩ := hh.ob b _ p hb hp
    refine ⟨cs, fz, h1, h2, by simp; omega, ?_, h5⟩
    have := h4.take k
    rw [List.take_take] at this
    rw [List.length_take]; exact this
  | none =>
    have old : ∀ x o p, (h.put b (some (.cells (l.take k) t false))).get x = some o → φ x = some p → h.get x = some o := fun x o p e1 e2 => by
      rw [h.get_put] at e1
      by_cases hx : x = b
      · subst hx; rw [hp] at e2; cases e2
      · rwa [if_neg hx] at e1
    exact ⟨fun x o p e1 e2 => hh.ob x o p (old x o p e1 e2) e2, fun x x' o o' p p' e1 e1' e2 e2' => hh.ap x x' o o' p p' (old x o p e1 e2) (old x' o' p' e1' e2') e2 e2', hh.lt, (fun x hx => by
      rw [h.get_put, if_neg]
      · exact hh.nw x hx
      · rintro rfl; rw [hh.nw x hx] at hb; cases hb), (fun x y e1 e2 => by
      rw [h.get_put] at e1
      by_cases hx : x = b
      · rw [if_pos hx] at e1; injection e1 with e1; subst e1; cases e2
      · rw [if_neg hx] at e1; exact hh.gl x y e1 e2)⟩
theorem HR.kill (hh : HR φ h w) (b : Nat) : HR φ (h.put b none) w := by
  have old : ∀ x o, (h.put b none).get x = some o → h.get x = some o := fun x o e => by
    rw [h.get_put] at e; by_cases hx : x = b
    · rw [if_pos hx] at e; cases e
    · rwa [if_neg hx] at e
  exact ⟨fun x o p e1 e2 => hh.ob x o p (old x o e1) e2, fun x x' o o' p p' e1 e1' => hh.ap x x' o o' p p' (old _ _ e1) (old _ _ e1'), hh.lt, (fun x hx => by
    rw [h.get_put]; by_cases e : x = b
    · rw [if_pos e]
    · rw [if_neg e]; exact hh.nw x hx), fun x y e1 e2 => hh.gl x y (old _ _ e1) e2⟩
theorem Went.wrote (φ : Phi) (n : Nat) {b : Nat} {p : Pl} (hp : φ b = some p) (hos : w'.os = w.os) (ht : w'.tape = w.tape) (ho : w'.output = w.output) (hsz : w'.heap.size = w.heap.size) (hfr : ∀ r, r ≠ p.r → w'.heap[r]? = w.heap[r]?) : Went φ n b w φ w' :=
  ⟨Phi.le_refl φ, fun _ _ h => .inl h, hos, ht, ho, Nat.le_of_eq hsz.symm, fun r _ hf => hfr r fun e => hf b p (Nat.le_refl _) hp e.symm⟩
end
end Go.Proofs.YthffbfkcmbgghaaGreat.Cm
