/-
  The clean machine: what is said of numbers, lists and calls along one path.
-/
import Derived.Test.YthffbfkcmbgghaaGreatZEb
set_option linter.all false
namespace Go.Proofs.YthffbfkcmbgghaaGreat.Cm
open Go Go.RowKit
def factsOk (ρ : Nat → Int) : List Fact → Prop
 | [] => True
 | (o, x, y, r) :: l => cmpC o (x.ev ρ) (y.ev ρ) = some r ∧ factsOk ρ l
theorem askL_ok {ρ : Nat → Int} {op : BinOp} {a b : Ex} {r : Bool} : ∀ {l : List Fact}, factsOk ρ l → askL op a b l = some r → cmpC op (a.ev ρ) (b.ev ρ) = some r
 | [], _, e => by cases e
 | (o, x, y, r') :: l, h, e => by
  unfold askL at e
  cases hq : (decide (o = op) && x.beq a && y.beq b) with
  | true =>
   rw [hq] at e
   simp only [Bool.and_eq_true, decide_eq_true_eq] at hq
   obtain ⟨⟨h1, h2⟩, h3⟩ := hq
   have h2 := Ex.eq_of_beq h2
   have h3 := Ex.eq_of_beq h3
   subst h1; subst h2; subst h3
   rw [← e]; exact h.1
  | false =>
   rw [hq] at e
   exact askL_ok h.2 e
theorem askF_ok {ρ : Nat → Int} {op : BinOp} {a b : Ex} {r : Bool} {l : List Fact} (h : factsOk ρ l) (e : askF l op a b = some r) : cmpC op (a.ev ρ) (b.ev ρ) = some r := by
 unfold askF at e
 cases hq : a.beq b with
 | true =>
  rw [hq] at e
  have := Ex.eq_of_beq hq
  subst this
  cases op <;> simp [selfC] at e <;> simp [cmpC, e]
 | false =>
  rw [hq] at e
  exact askL_ok h e
abbrev RowF := Nat × Nat × Ex × List CV
def rowF (i k : Nat) (x : Ex) : List RowF → Option (List CV)
 | [] => none
 | (i', k', x', cs) :: l => bif Nat.beq i i' && Nat.beq k k' && x'.beq x then some cs else rowF i k x l
def rowsOk (V : Val) : List RowF → Prop
 | [] => True
 | (i, k, x, cs) :: l => (0 ≤ x.ev V.ρ ∧ ∃ vs, pvs V.ρ cs = some vs ∧ ((V.lst i).drop ((k + (x.ev V.ρ).toNat) * cs.length)).take cs.length = vs) ∧ rowsOk V l
theorem rowF_ok {V : Val} {i k : Nat} {x : Ex} {cs : List CV} : ∀ {l : List RowF}, rowsOk V l → rowF i k x l = some cs → 0 ≤ x.ev V.ρ ∧ ∃ vs, pvs V.ρ cs = some vs ∧ ((V.lst i).drop ((k + (x.ev V.ρ).toNat) * cs.length)).take cs.length = vs
 | [], _, e => by cases e
 | (i', k', x', cs') :: l, h, e => by
  unfold rowF at e
  cases hq : (Nat.beq i i' && Nat.beq k k' && x'.beq x) with
  | true =>
   rw [hq] at e
   simp only [Bool.and_eq_true] at hq
   obtain ⟨⟨h1, h2⟩, h3⟩ := hq
   have h1 := beq_s h1
   have h2 := beq_s h2
   have h3 := Ex.eq_of_beq h3
   subst h1; subst h2; subst h3
   injection e with e; subst e
   exact h.1
  | false =>
   rw [hq] at e
   exact rowF_ok h.2 e
abbrev LenF := Nat × Nat × Ex
def lenF (i z : Nat) : List LenF → Option Ex
 | [] => none
 | (i', z', e) :: l => bif Nat.beq i i' && Nat.beq z z' then some e else lenF i z l
def lensOk (V : Val) : List LenF → Prop
 | [] => True
 | (i, z, e) :: l => (((V.lst i).length : Int) = e.ev V.ρ * z ∧ 0 ≤ e.ev V.ρ ∧ ∀ u ∈ V.lst i, u.oneCell' = true) ∧ lensOk V l
theorem lenF_ok {V : Val} {i z : Nat} {e : Ex} : ∀ {l : List LenF}, lensOk V l → lenF i z l = some e → ((V.lst i).length : Int) = e.ev V.ρ * z ∧ 0 ≤ e.ev V.ρ ∧ ∀ u ∈ V.lst i, u.oneCell' = true
 | [], _, h => by cases h
 | (i', z', e') :: l, h, q => by
  unfold lenF at q
  cases hq : (Nat.beq i i' && Nat.beq z z') with
  | true =>
   rw [hq] at q
   simp only [Bool.and_eq_true] at hq
   have h1 := beq_s hq.1
   have h2 := beq_s hq.2
   subst h1; subst h2
   injection q with q; subst q
   exact h.1
  | false =>
   rw [hq] at q
   exact lenF_ok h.2 q
/-! ### Equal by their looks -/
def sameP : CV → CV → Bool
 | .bool a, .bool b => a == b
 | .bs a, .bs b => a.beq b
 | .int k a, .int k' b => decide (k = k') && a == b
 | .sym k a, .sym k' b => decide (k = k') && a.beq b
 | .str a, .str b => decide (a = b)
 | .ss a, .ss b => a.beq b
 | _, _ => false
def samePs : List CV → List CV → Bool
 | [], [] => true
 | a :: l, b :: m => sameP a b && samePs l m
 | _, _ => false
theorem sameP_eq {a b : CV} (h : sameP a b = true) : a = b := by
 unfold sameP at h
 split at h
 ·rename_i a b
  rw [show a = b from by simpa using h]
 ·rw [Ex.eq_of_beq h]
 ·simp only [Bool.and_eq_true, decide_eq_true_eq, beq_iff_eq] at h
  rw [h.1, h.2]
 ·simp only [Bool.and_eq_true, decide_eq_true_eq] at h
  rw [h.1, Ex.eq_of_beq h.2]
 ·rename_i a b
  rw [show a = b from by simpa using h]
 ·rw [Ex.eq_of_beq h]
 ·cases h
theorem samePs_eq : ∀ {l m : List CV}, samePs l m = true → l = m
 | [], [], _ => rfl
 | a :: l, b :: m, h => by
  simp only [samePs, Bool.and_eq_true] at h
  rw [sameP_eq h.1, samePs_eq h.2]
 | [], _ :: _, h => by cases h
 | _ :: _, [], h => by cases h
/-! ### Lists that are written, and made -/
structure UpdF where
 i : Nat
 k : Nat
 x : Ex
 z : Nat
 d : Nat
 cs : List CV
 j : Nat
def updF (i k : Nat) (x : Ex) (z d : Nat) (cs : List CV) : List UpdF → Option Nat
 | [] => none
 | u :: l => bif Nat.beq i u.i && Nat.beq k u.k && u.x.beq x && Nat.beq z u.z && Nat.beq d u.d && samePs u.cs cs then some u.j else updF i k x z d cs l
def updsOk (V : Val) : List UpdF → Prop
 | [] => True
 | u :: l => (0 ≤ u.x.ev V.ρ ∧ ∃ vs, pvs V.ρ u.cs = some vs ∧ (u.k + (u.x.ev V.ρ).toNat) * u.z + u.d + u.cs.length ≤ (V.lst u.i).length ∧ V.lst u.j = (V.lst u.i).take ((u.k + (u.x.ev V.ρ).toNat) * u.z + u.d) ++ vs ++ (V.lst u.i).drop ((u.k + (u.x.ev V.ρ).toNat) * u.z + u.d + u.cs.length)) ∧ updsOk V l
theorem updF_ok {V : Val} {i k : Nat} {x : Ex} {z d : Nat} {cs : List CV} {j : Nat} : ∀ {l : List UpdF}, updsOk V l → updF i k x z d cs l = some j → 0 ≤ x.ev V.ρ ∧ ∃ vs, pvs V.ρ cs = some vs ∧ (k + (x.ev V.ρ).toNat) * z + d + cs.length ≤ (V.lst i).length ∧ V.lst j = (V.lst i).take ((k + (x.ev V.ρ).toNat) * z + d) ++ vs ++ (V.lst i).drop ((k + (x.ev V.ρ).toNat) * z + d + cs.length)
 | [], _, e => by cases e
 | u :: l, h, e => by
  unfold updF at e
  cases hq : (Nat.beq i u.i && Nat.beq k u.k && u.x.beq x && Nat.beq z u.z && Nat.beq d u.d && samePs u.cs cs) with
  | true =>
   rw [hq] at e
   simp only [Bool.and_eq_true] at hq
   obtain ⟨⟨⟨⟨⟨h1, h2⟩, h3⟩, h4⟩, h5⟩, h6⟩ := hq
   rw [beq_s h1, beq_s h2, ← Ex.eq_of_beq h3, beq_s h4, beq_s h5, ← samePs_eq h6]
   injection e with e; subst e
   exact h.1
  | false =>
   rw [hq] at e
   exact updF_ok h.2 e
abbrev MadeF := Ex × List CV × Nat
def madeF (e : Ex) (zs : List CV) : List MadeF → Option Nat
 | [] => none
 | (e', zs', j) :: l => bif e'.beq e && samePs zs' zs then some j else madeF e zs l
def madesOk (V : Val) : List MadeF → Prop
 | [] => True
 | (e, zs, j) :: l => (∃ vs, pvs V.ρ zs = some vs ∧ V.lst j = zerosV vs (e.ev V.ρ).toNat) ∧ madesOk V l
theorem madeF_ok {V : Val} {e : Ex} {zs : List CV} {j : Nat} : ∀ {l : List MadeF}, madesOk V l → madeF e zs l = some j → ∃ vs, pvs V.ρ zs = some vs ∧ V.lst j = zerosV vs (e.ev V.ρ).toNat
 | [], _, h => by cases h
 | (e', zs', j') :: l, h, q => by
  unfold madeF at q
  cases hq : (e'.beq e && samePs zs' zs) with
  | true =>
   rw [hq] at q
   simp only [Bool.and_eq_true] at hq
   rw [← Ex.eq_of_beq hq.1, ← samePs_eq hq.2]
   injection q with q; subst q
   exact h.1
  | false =>
   rw [hq] at q
   exact madeF_ok h.2 q
def sameN : Option Nat → Option Nat → Bool
 | none, none => true
 | some a, some b => Nat.beq a b
 | _, _ => false
def sameQ : Eqn → Eqn → Bool
 | .num a b, .num c d => a.beq c && b.beq d
 | .lst j i l, .lst j' i' l' => Nat.beq j j' && sameN i i' && samePs l l'
 | .cod l, .cod l' => sameAt l l'
 | _, _ => false
def sameQs : List Eqn → List Eqn → Bool
 | [], [] => true
 | a :: l, b :: m => sameQ a b && sameQs l m
 | _, _ => false
theorem sameQ_eq {a b : Eqn} (h : sameQ a b = true) : a = b := by
 unfold sameQ at h
 split at h
 ·simp only [Bool.and_eq_true] at h
  rw [Ex.eq_of_beq h.1, Ex.eq_of_beq h.2]
 ·rename_i j i l j' i' l'
  simp only [Bool.and_eq_true] at h
  have h1 := beq_s h.1.1
  have h2 : i = i' := by
   cases i <;> cases i' <;> first
    | rfl
    | (cases h.1.2; done)
    | rw [beq_s h.1.2]
  rw [h1, h2, samePs_eq h.2]
 ·rw [sameAt_eq h]
 ·cases h
theorem sameQs_eq : ∀ {l m : List Eqn}, sameQs l m = true → l = m
 | [], [], _ => rfl
 | a :: l, b :: m, h => by
  simp only [sameQs, Bool.and_eq_true] at h
  rw [sameQ_eq h.1, sameQs_eq h.2]
 | [], _ :: _, h => by cases h
 | _ :: _, [], h => by cases h
/-! ### Calls that are known -/
structure KE where
 f : FuncId
 n0 : Nat
 sa : List (Option (Nat × Nat))
 pa : List CV
 pO : Objs
 qs : List Eqn
 l0 : Nat
 r : CV
 N : Objs
 c : CV
 news : Objs
 puts : List (Nat × Option CObj)
def putAll (h : CH) : List (Nat × Option CObj) → CH
 | [] => h
 | x :: l => (putAll h l).put x.1 x.2
def minOf (n : Nat) : List (Nat × Option CObj) → Nat
 | [] => n
 | x :: l => min x.1 (minOf n l)
def putsOk (n0 : Nat) (sa : List (Option (Nat × Nat))) (O : Objs) : Nat → List (Nat × Option CObj) → Bool
 | b, [] => Nat.beq b sa.length
 | b, x :: l => Nat.blt x.1 n0 && (match sa[b]? with | some (some (y, o)) => Nat.beq y x.1 && Nat.beq o 0 | _ => false) && (match O[b]? with | some (some o) => !o.ro | _ => false) && putsOk n0 sa O (b + 1) l
def ngO : Option CObj → Bool
 | some o => !o.isGlob
 | none => true
def KE.fits (e : KE) (f : FuncId) (args : List CV) (h : CH) : Bool :=
 Nat.beq e.f f && Nat.beq e.n0 h.n && Nat.beq e.sa.length e.pO.length && apOk (sgL e.sa) 0 e.pO && (putsOk e.n0 e.sa e.pO e.l0 e.puts && (e.news.all ngO && e.puts.all fun x => ngO x.2)) && match reL (reF (sgL e.sa)) args e.pa, reH (sgL e.sa) h 0 e.pO with
  | some x, some y => sameQs (x ++ y) e.qs
  | _, _ => false
def knownF (f : FuncId) (args : List CV) (h : CH) : List KE → Option (CV × CH × Nat)
 | [] => none
 | e :: l => bif e.fits f args h then some (e.c, heapGo (putAll h e.puts) e.news, minOf h.n e.puts) else knownF f args h l
def findP (x : Nat) : Nat → List (Nat × Option CObj) → Option (Nat × Nat)
 | _, [] => none
 | b, y :: l => bif Nat.beq y.1 x then some (b, 0) else findP x (b + 1) l
def findS (x : Nat) : Nat → List (Option (Nat × Nat)) → Option (Nat × Nat)
 | _, [] => none
 | j, some (y, o) :: l => bif Nat.beq y x && Nat.beq o 0 then some (j, 0) else findS x (j + 1) l
 | j, none :: l => findS x (j + 1) l
def newSg (n m l0 : Nat) (puts : List (Nat × Option CObj)) (sa : List (Option (Nat × Nat))) : Sg := fun b => bif Nat.ble n b then some (m + (b - n), 0) else match findP b l0 puts with
 | some r => some r
 | none => findS b 0 sa
def reN (sg : Sg) : Objs → Objs → Option (List Eqn)
 | [], [] => some []
 | none :: l, none :: m => reN sg l m
 | some o :: l, some o' :: m => match reO sg 0 o o', reN sg l m with
  | some x, some y => some (x ++ y)
  | _, _ => none
 | _, _ => none
def KE.res (e : KE) : Option (List Eqn) :=
 match reT (newSg e.n0 e.pO.length e.l0 e.puts e.sa) e.r e.c, reN (newSg e.n0 e.pO.length e.l0 e.puts e.sa) (e.N.drop e.pO.length) e.news, reN (newSg e.n0 e.pO.length e.l0 e.puts e.sa) ((e.N.drop e.l0).take e.puts.length) (e.puts.map fun x => x.2) with
  | some x, some y, some z => some (x ++ (y ++ z))
  | _, _, _ => none
structure KE.ok (P : Program) (V : Val) (e : KE) (v v' : Val) (q : List Eqn) : Prop where
 call : CallOk P e.f v e.pa e.pO e.l0 v' e.r e.N
 arg : eqnsOk V v e.qs
 res : e.res = some q
 ans : eqnsOk v' V q
def knsOk (P : Program) (V : Val) : List KE → Prop
 | [] => True
 | e :: l => (∃ v v' q, e.ok P V v v' q) ∧ knsOk P V l
theorem heapGo_kp (lw : Nat) : ∀ (l : Objs) (h : CH), l.all ngO = true → Kp h (heapGo h l) lw
 | [], h, _ => ⟨Nat.le_refl _, fun _ _ _ => rfl, fun h => h, fun _ _ e _ => e⟩
 | o :: l, h, hng => by
  rw [List.all_cons, Bool.and_eq_true] at hng
  have get : ∀ b, (CH.mk (h.n + 1) (h.m.put h.n o)).get b = if b = h.n then o else h.get b := fun b => by
   unfold CH.get
   letI : Val := ⟨fun _ => 0, fun _ => [], fun _ => (.skip, .skip)⟩
   exact Tr.get_put _ _ _ _
  have k := heapGo_kp lw l ⟨h.n + 1, h.m.put h.n o⟩ hng.2
  refine ⟨?_, fun b h1 h2 => ?_, fun hw => k.wf fun b hb => ?_, fun b o' e1 e2 => by
   have := k.ng b o' e1 e2
   rw [get] at this
   by_cases hb : b = h.n
   ·rw [if_pos hb] at this; subst this
    have h3 : (!o'.isGlob) = true := hng.1
    rw [e2] at h3; cases h3
   ·rwa [if_neg hb] at this⟩
  ·have := k.n
   have h2 : h.n + 1 ≤ (heapGo ⟨h.n + 1, h.m.put h.n o⟩ l).n := this
   show h.n ≤ (heapGo ⟨h.n + 1, h.m.put h.n o⟩ l).n
   omega
  ·refine (k.same b h1 (by show b < h.n + 1; omega)).trans ?_
   rw [get, if_neg (by omega)]
  ·have hb : h.n + 1 ≤ b := hb
   rw [get, if_neg (by omega)]; exact hw b (by omega)
theorem putAll_n (h : CH) : ∀ l : List (Nat × Option CObj), (putAll h l).n = h.n
 | [] => rfl
 | x :: l => putAll_n h l
theorem put_get (h : CH) (b : Nat) (o : Option CObj) (x : Nat) : (h.put b o).get x = if x = b then o else h.get x := by
 letI : Val := ⟨fun _ => 0, fun _ => [], fun _ => (.skip, .skip)⟩
 exact CH.get_put h b o x
theorem putAll_no {h : CH} {x : Nat} : ∀ {l : List (Nat × Option CObj)}, (∀ y ∈ l, y.1 ≠ x) → (putAll h l).get x = h.get x
 | [], _ => rfl
 | y :: l, hn => by
  unfold putAll
  rw [put_get, if_neg (fun e => hn y List.mem_cons_self e.symm)]
  exact putAll_no fun z hz => hn z (List.mem_cons_of_mem _ hz)
theorem minOf_le {n : Nat} : ∀ {l : List (Nat × Option CObj)}, minOf n l ≤ n ∧ ∀ y ∈ l, minOf n l ≤ y.1
 | [] => ⟨Nat.le_refl _, fun y hy => by cases hy⟩
 | x :: l => by
  obtain ⟨h1, h2⟩ := minOf_le (n := n) (l := l)
  unfold minOf
  refine ⟨by omega, fun y hy => ?_⟩
  rcases List.mem_cons.1 hy with rfl | hy
  ·omega
  ·have := h2 y hy; omega
theorem putsOk_at {n0 : Nat} {sa : List (Option (Nat × Nat))} {O : Objs} : ∀ {l : List (Nat × Option CObj)} {b : Nat}, putsOk n0 sa O b l = true → b + l.length = sa.length ∧ ∀ (j : Nat) (y : Nat × Option CObj), l[j]? = some y → y.1 < n0 ∧ sa[b + j]? = some (some (y.1, 0)) ∧ ∃ o, O[b + j]? = some (some o) ∧ o.ro = false
 | [], b, h => ⟨by have := beq_s h; simpa using this, fun j y e => by simp at e⟩
 | x :: l, b, h => by
  unfold putsOk at h
  simp only [Bool.and_eq_true] at h
  obtain ⟨⟨⟨h1, h2⟩, h3⟩, h4⟩ := h
  obtain ⟨g1, g2⟩ := putsOk_at h4
  refine ⟨by simp; omega, fun j y e => ?_⟩
  cases j with
  | zero =>
   simp at e; subst e
   refine ⟨Nat.le_of_ble_eq_true h1, ?_, ?_⟩
   ·split at h2
    ·rename_i y o hs
     simp only [Bool.and_eq_true] at h2
     have e1 := beq_s h2.1
     have e2 := beq_s h2.2
     rw [Nat.add_zero, hs, e1, e2]
    ·cases h2
   ·split at h3
    ·rename_i o ho; exact ⟨o, by rw [Nat.add_zero]; exact ho, by simpa using h3⟩
    ·cases h3
  | succ j =>
   have := g2 j y (by simpa using e)
   rw [show b + 1 + j = b + (j + 1) by omega] at this
   exact this
theorem putAll_ng {h : CH} {x : Nat} {o : CObj} : ∀ {l : List (Nat × Option CObj)}, (l.all fun x => ngO x.2) = true → (putAll h l).get x = some o → o.isGlob = true → h.get x = some o
 | [], _, e, _ => e
 | y :: l, hn, e, hg => by
  rw [List.all_cons, Bool.and_eq_true] at hn
  unfold putAll at e
  rw [put_get] at e
  by_cases hx : x = y.1
  ·rw [if_pos hx] at e
   have h1 := hn.1
   rw [e] at h1
   have h1 : (!o.isGlob) = true := h1
   rw [hg] at h1; cases h1
  ·rw [if_neg hx] at e
   exact putAll_ng hn.2 e hg
theorem knownF_kp {f : FuncId} {args : List CV} {h h' : CH} {c : CV} {lw : Nat} : ∀ {l : List KE}, knownF f args h l = some (c, h', lw) → Kp h h' lw ∧ lw ≤ h.n
 | [], e => by cases e
 | x :: l, e => by
  unfold knownF at e
  cases hq : x.fits f args h with
  | true =>
   rw [hq] at e
   injection e with e; injection e with _ e; injection e with e1 e2; subst e1; subst e2
   unfold KE.fits at hq
   simp only [Bool.and_eq_true] at hq
   obtain ⟨⟨⟨⟨⟨_, h2⟩, _⟩, _⟩, h5, hn1, hn2⟩, _⟩ := hq
   have h2 := beq_s h2
   obtain ⟨_, g2⟩ := putsOk_at h5
   obtain ⟨m1, m2⟩ := minOf_le (n := h.n) (l := x.puts)
   have k := heapGo_kp (minOf h.n x.puts) x.news (putAll h x.puts) hn1
   refine ⟨⟨?_, fun b hb hn => ?_, fun hw => k.wf fun b hb => ?_, fun b o e1 e2 => ?_⟩, m1⟩
   ·have := k.n; rwa [putAll_n] at this
   ·refine (k.same b hb (by rw [putAll_n]; exact hn)).trans (putAll_no fun y hy => ?_)
    have := m2 y hy; omega
   ·rw [putAll_n] at hb
    refine (putAll_no fun y hy => ?_).trans (hw b hb)
    obtain ⟨j, hj⟩ := List.mem_iff_getElem?.1 hy
    have := (g2 j y hj).1; omega
   ·exact putAll_ng hn2 (k.ng b o e1 e2) e2
  | false => rw [hq] at e; exact knownF_kp e
theorem reN_at {v V : Val} {sg : Sg} : ∀ {l m : Objs} {qs : List Eqn}, reN sg l m = some qs → eqnsOk v V qs → l.length = m.length ∧ ∀ (j : Nat) (o' : CObj), m[j]? = some (some o') → ∃ o q, l[j]? = some (some o) ∧ reO sg 0 o o' = some q ∧ eqnsOk v V q
 | [], [], _, _, _ => ⟨rfl, fun j o' e => by simp at e⟩
 | none :: l, none :: m, qs, e, hq => by
  obtain ⟨h1, h2⟩ := reN_at (l := l) (m := m) e hq
  refine ⟨by simp [h1], fun j o' ej => ?_⟩
  cases j with
  | zero => simp at ej
  | succ j => simpa using h2 j o' (by simpa using ej)
 | some o :: l, some o' :: m, qs, e, hq => by
  unfold reN at e
  split at e
  ·rename_i x y e1 e2
   injection e with e; subst e
   obtain ⟨q1, q2⟩ := eqns_app hq
   obtain ⟨h1, h2⟩ := reN_at e2 q2
   refine ⟨by simp [h1], fun j o2 ej => ?_⟩
   cases j with
   | zero => simp at ej; subst ej; exact ⟨o, x, rfl, e1, q1⟩
   | succ j => simpa using h2 j o2 (by simpa using ej)
  ·cases e
 | [], _ :: _, _, e, _ => by cases e
 | none :: _, [], _, e, _ => by cases e
 | some _ :: _, [], _, e, _ => by cases e
 | none :: _, some _ :: _, _, e, _ => by cases e
 | some _ :: _, none :: _, _, e, _ => by cases e
theorem findP_at {x : Nat} : ∀ {l : List (Nat × Option CObj)} {b b1 o : Nat}, findP x b l = some (b1, o) → o = 0 ∧ ∃ j y, b1 = b + j ∧ l[j]? = some y ∧ y.1 = x
 | [], _, _, _, e => by cases e
 | y :: l, b, b1, o, e => by
  unfold findP at e
  cases hq : Nat.beq y.1 x with
  | true =>
   rw [hq] at e
   injection e with e; injection e with e1 e2
   exact ⟨e2.symm, 0, y, by omega, rfl, beq_s hq⟩
  | false =>
   rw [hq] at e
   obtain ⟨h1, j, z, h2, h3, h4⟩ := findP_at (l := l) (b := b + 1) e
   exact ⟨h1, j + 1, z, by omega, by simpa using h3, h4⟩
theorem findS_at {x : Nat} : ∀ {l : List (Option (Nat × Nat))} {b b1 o : Nat}, findS x b l = some (b1, o) → o = 0 ∧ ∃ j, b1 = b + j ∧ l[j]? = some (some (x, 0))
 | [], _, _, _, e => by cases e
 | some (y, z) :: l, b, b1, o, e => by
  unfold findS at e
  cases hq : Nat.beq y x && Nat.beq z 0 with
  | true =>
   rw [hq] at e
   simp only [Bool.and_eq_true] at hq
   have h1 := beq_s hq.1
   have h2 := beq_s hq.2
   injection e with e; injection e with e1 e2
   subst h1; subst h2
   exact ⟨e2.symm, 0, by omega, rfl⟩
  | false =>
   rw [hq] at e
   obtain ⟨h1, j, h2, h3⟩ := findS_at (l := l) (b := b + 1) e
   exact ⟨h1, j + 1, by omega, by simpa using h3⟩
 | none :: l, b, b1, o, e => by
  unfold findS at e
  obtain ⟨h1, j, h2, h3⟩ := findS_at (l := l) (b := b + 1) e
  exact ⟨h1, j + 1, by omega, by simpa using h3⟩
theorem putAll_yes {h : CH} {x : Nat} {o : CObj} : ∀ {l : List (Nat × Option CObj)}, (putAll h l).get x = some o → (h.get x = some o ∧ ∀ y ∈ l, y.1 ≠ x) ∨ ∃ j : Nat, l[j]? = some (x, some o)
 | [], e => .inl ⟨e, fun y hy => by cases hy⟩
 | y :: l, e => by
  unfold putAll at e
  rw [put_get] at e
  by_cases hx : x = y.1
  ·rw [if_pos hx] at e
   obtain ⟨y1, y2⟩ := y
   simp only at hx e
   subst hx; subst e
   exact .inr ⟨0, rfl⟩
  ·rw [if_neg hx] at e
   rcases putAll_yes e with ⟨h1, h2⟩ | ⟨j, hj⟩
   ·refine .inl ⟨h1, fun z hz => ?_⟩
    rcases List.mem_cons.1 hz with rfl | hz
    ·exact fun e => hx e.symm
    ·exact h2 z hz
   ·exact .inr ⟨j + 1, by simpa using hj⟩
theorem ke_calls {P : Program} {V v v' : Val} {e : KE} {q : List Eqn} (hk : e.ok P V v v' q) {f : FuncId} {args : List CV} {h : CH} (hf : e.fits f args h = true) {φ : Phi} {args' : List Value} {w : World} (hh : @HR V φ h w) (ha : @VRs V φ args args') :
  Calls P f ⟨args'⟩ w fun en w' => ∃ u φ', en = .returned u ∧ Went φ h.n (minOf h.n e.puts) w φ' w' ∧ @HR V φ' (heapGo (putAll h e.puts) e.news) w' ∧ @VR V φ' e.c u := by
 unfold KE.fits at hf
 simp only [Bool.and_eq_true] at hf
 obtain ⟨⟨⟨⟨⟨h1, h2⟩, h3⟩, h4⟩, h45, hn1, hn2⟩, h5⟩ := hf
 have h1 := beq_s h1
 have h2 := beq_s h2
 have h3 := beq_s h3
 obtain ⟨p1, p2⟩ := putsOk_at h45
 obtain ⟨mn1, mn2⟩ := minOf_le (n := h.n) (l := e.puts)
 subst h1
 split at h5
 ·rename_i x y e1 e2
  have h6 := sameQs_eq h5
  have hq := hk.arg
  rw [← h6] at hq
  obtain ⟨q1, q2⟩ := eqns_app hq
  have a1 := reH_rel hh e2 q2 h4 (by omega)
  have a2 := reL_rel (sg := sgL e.sa) reF_rel e1 q1 ha
  -- the blocks that are written
  have pat : ∀ (j : Nat) (y : Nat × Option CObj), e.puts[j]? = some y → sgL e.sa (e.l0 + j) = some (y.1, 0) ∧ ∃ o, h.get y.1 = some o ∧ o.ro = false := fun j y hj => by
   obtain ⟨_, s1, o, s2, s3⟩ := p2 j y hj
   have s4 : sgL e.sa (e.l0 + j) = some (y.1, 0) := by unfold sgL; rw [s1]
   obtain ⟨o0, qs', g1, g2, _⟩ := reH_at (V := V) (V' := v) e2 q2 (e.l0 + j) o s2 y.1 0 (by rw [Nat.zero_add]; exact s4)
   exact ⟨s4, o0, g1, reO_rw g2 s3⟩
  have blk : ∀ b, e.l0 ≤ b → ∀ p, phiS φ (sgL e.sa) b = some p → ∃ (y : Nat × Option CObj) (o : CObj) (p0 : Pl), y ∈ e.puts ∧ φ y.1 = some p0 ∧ p0 = p ∧ h.get y.1 = some o ∧ o.ro = false := fun b hb p ep => by
   obtain ⟨b1, o, p0, s1, s2, rfl⟩ := phiS_inv ep
   have hlt : b < e.sa.length := by
    unfold sgL at s1
    cases hx : e.sa[b]? with
    | none => rw [hx] at s1; cases s1
    | some z => exact (List.getElem?_eq_some_iff.1 hx).1
   obtain ⟨y, hy⟩ : ∃ y, e.puts[b - e.l0]? = some y := ⟨_, List.getElem?_eq_getElem (by omega)⟩
   obtain ⟨s3, ob, s4, s5⟩ := pat _ y hy
   rw [show e.l0 + (b - e.l0) = b by omega, s1] at s3
   injection s3 with s3; injection s3 with s6 s7; subst s6; subst s7
   exact ⟨y, ob, p0, List.mem_of_getElem? hy, s2, by simp, s4, s5⟩
  refine (hk.call.ok _ args' w a1 a2).mono ?_
  rintro en w' ⟨u, φ', rfl, hg, hroot, g1, g2, g3⟩
  have hres := hk.res
  unfold KE.res at hres
  split at hres
  ·rename_i x' y' z' r1 r2 r3
   injection hres with hres; subst hres
   obtain ⟨q3, q45⟩ := eqns_app hk.ans
   obtain ⟨q4, q5⟩ := eqns_app q45
   obtain ⟨n1, n2⟩ := reN_at r2 q4
   obtain ⟨n3, n4⟩ := reN_at r3 q5
   have hwf : ∀ b, h.n ≤ b → (putAll h e.puts).get b = none := fun b hb => by
    rw [putAll_no fun y hy => ?_]
    ·exact @HR.nw V _ _ _ hh b hb
    ·obtain ⟨j, hj⟩ := List.mem_iff_getElem?.1 hy
     have := (p2 j y hj).1; omega
   obtain ⟨k1, k2⟩ := heapGo_get e.news (putAll h e.puts) (by rw [putAll_n]; exact hwf)
   rw [putAll_n] at k1
   simp only [putAll_n] at k2
   obtain ⟨ψ, hψ⟩ : ∃ ψ : Phi, ψ = fun b => if b < h.n then φ b else φ' (e.pO.length + (b - h.n)) := ⟨_, rfl⟩
   have ψlo : ∀ b, b < h.n → ψ b = φ b := fun b hb => by rw [hψ]; exact if_pos hb
   have ψhi : ∀ b, h.n ≤ b → ψ b = φ' (e.pO.length + (b - h.n)) := fun b hb => by rw [hψ]; exact if_neg (by omega)
   have le1 : φ.le ψ := fun b p ep => by rw [ψlo b (@HR.lt V _ _ _ hh b p ep).1]; exact ep
   have old : ∀ b p, b < h.n → ψ b = some p → φ b = some p := fun b p hlt ep => by rw [← ψlo b hlt]; exact ep
   have rt : ∀ (j : Nat) (y : Nat × Option CObj), e.puts[j]? = some y → φ' (e.l0 + j) = φ y.1 := fun j y hj => by
    obtain ⟨s1, _⟩ := pat j y hj
    have hlt : e.l0 + j < e.pO.length := by
     have := (List.getElem?_eq_some_iff.1 hj).1; omega
    rw [hroot _ hlt]
    cases hx : φ y.1 with
    | none => unfold phiS; rw [s1]; simp [hx]
    | some p => have := phiS_some (sg := sgL e.sa) s1 hx; simpa using this
   have le2 : (phiS φ' (newSg e.n0 e.pO.length e.l0 e.puts e.sa)).le ψ := fun b p ep => by
    obtain ⟨b1, o, q, hs, hp, rfl⟩ := phiS_inv ep
    unfold newSg at hs
    cases hc : Nat.ble e.n0 b with
    | true =>
     rw [hc, cond_true] at hs
     have c1 := ble_s hc
     injection hs with hs; injection hs with c2 c3
     subst c2; subst c3
     rw [ψhi b (by omega), ← h2]; simpa using hp
    | false =>
     rw [hc, cond_false] at hs
     cases hf : findP b e.l0 e.puts with
     | some r =>
      rw [hf] at hs
      injection hs with hs; subst hs
      obtain ⟨c1, j, y, c2, c3, c4⟩ := findP_at hf
      subst c1; subst c2; subst c4
      rw [ψlo y.1 (by have := (p2 j y c3).1; omega), ← rt j y c3]; simpa using hp
     | none =>
      rw [hf] at hs
      obtain ⟨c1, j, c2, c3⟩ := findS_at hs
      subst c1
      have c4 : e.sa[b1]? = some (some (b, 0)) := by rw [c2, Nat.zero_add]; exact c3
      have hlt : b1 < e.pO.length := by have := (List.getElem?_eq_some_iff.1 c4).1; omega
      have c5 : sgL e.sa b1 = some (b, 0) := by unfold sgL; rw [c4]
      rw [hroot b1 hlt] at hp
      obtain ⟨b2, o2, p0, s1, s2, rfl⟩ := phiS_inv hp
      rw [c5] at s1
      injection s1 with s1; injection s1 with s3 s4; subst s3; subst s4
      rw [ψlo b (@HR.lt V _ _ _ hh b p0 s2).1, s2]; simp
   refine ⟨u, ψ, rfl, ⟨le1, fun b p ep => ?_, hg.os, hg.tape, hg.output, hg.size, fun r hr hn => hg.fr r hr fun b p hb ep er => ?_⟩, ?_, @VR.mono V _ _ le2 _ _ (reT_rel r1 q3 g2)⟩
   ·rcases Nat.lt_or_ge b h.n with hlt | hge
    ·left; rw [← ψlo b hlt]; exact ep
    ·rw [ψhi b hge] at ep
     refine .inr ⟨hge, ?_⟩
     rcases g3 _ p (by omega) ep with g4 | ⟨b0, p0, g4, g5, g6, g7, _⟩
     ·exact .inl g4
     ·obtain ⟨y, o, p1, s1, s2, s3, _, _⟩ := blk b0 g4 p0 g6
      subst s3
      exact .inr ⟨y.1, p1, mn2 y s1, s2, g7⟩
   ·obtain ⟨y, o, p0, s1, s2, s3, _, _⟩ := blk b hb p ep
    subst s3
    exact hn y.1 p0 (mn2 y s1) s2 er
   ·-- an old block that is not written
    have still : ∀ b o p, h.get b = some o → φ b = some p → (∀ y ∈ e.puts, y.1 ≠ b) → w'.heap[p.r]? = w.heap[p.r]? := fun b o p e1 ep hn => hg.fr p.r (@HR.lt V _ _ _ hh b p ep).2 fun b2 p2 hb2 ep2 er => by
     obtain ⟨y, o2, p0, s1, s2, s3, s4, s5⟩ := blk b2 hb2 p2 ep2
     subst s3
     rcases @HR.ap V _ _ _ hh y.1 b o2 o p0 p s4 e1 s2 ep er with e3 | ⟨e3, _⟩
     ·exact hn y s1 e3
     ·rw [s5] at e3; cases e3
    -- what a block of the new memory is
    have what : ∀ b o p, (heapGo (putAll h e.puts) e.news).get b = some o → ψ b = some p → (b < h.n ∧ h.get b = some o ∧ φ b = some p ∧ ∀ y ∈ e.puts, y.1 ≠ b) ∨ ∃ b1 o0 q0, e.N[b1]? = some (some o0) ∧ reO (newSg e.n0 e.pO.length e.l0 e.puts e.sa) 0 o0 o = some q0 ∧ eqnsOk v' V q0 ∧ φ' b1 = some p ∧ ((b < h.n ∧ (∃ y ∈ e.puts, y.1 = b) ∧ ∃ j, b1 = e.l0 + j ∧ ∃ y, e.puts[j]? = some y ∧ y.1 = b) ∨ (h.n ≤ b ∧ b1 = e.pO.length + (b - h.n))) := fun b o p e1 ep => by
     rw [k2] at e1
     by_cases hlt : b < h.n
     ·rw [if_pos hlt] at e1
      have ep := old b p hlt ep
      rcases putAll_yes e1 with ⟨e3, e4⟩ | ⟨j, hj⟩
      ·exact .inl ⟨hlt, e3, ep, e4⟩
      ·have hj2 : (e.puts.map fun x => x.2)[j]? = some (some o) := by simp [hj]
       obtain ⟨o0, q0, m1, m2, m3⟩ := n4 j o hj2
       have hjl := (List.getElem?_eq_some_iff.1 hj).1
       rw [List.getElem?_take_of_lt hjl, List.getElem?_drop] at m1
       exact .inr ⟨e.l0 + j, o0, q0, m1, m2, m3, by rw [rt j (b, some o) hj]; exact ep, .inl ⟨hlt, ⟨(b, some o), List.mem_of_getElem? hj, rfl⟩, j, rfl, (b, some o), hj, rfl⟩⟩
     ·rw [if_neg hlt] at e1
      have hj : e.news[b - h.n]? = some (some o) := by
       cases hx : e.news[b - h.n]? with
       | none => rw [hx] at e1; cases e1
       | some z => rw [hx] at e1; simp only at e1; rw [e1]
      obtain ⟨o0, q0, m1, m2, m3⟩ := n2 _ _ hj
      rw [List.getElem?_drop] at m1
      rw [ψhi b (by omega)] at ep
      exact .inr ⟨_, o0, q0, m1, m2, m3, ep, .inr ⟨by omega, rfl⟩⟩
    refine @HR.mk V _ _ _ (fun b o p e1 ep => ?_) (fun b b' o o' p p' e1 e1' ep ep' er => ?_) (fun b p ep => ?_) (fun b hb' => ?_) (fun b o e1 hg => by
     have e2 := putAll_ng hn2 ((heapGo_kp 0 e.news (putAll h e.puts) hn1).ng b o e1 hg) hg
     obtain ⟨p, hp⟩ := @HR.gl V _ _ _ hh b o e2 hg
     exact ⟨p, le1 b p hp⟩)
    ·rcases what b o p e1 ep with ⟨_, e3, e4, e5⟩ | ⟨b1, o0, q0, m1, m2, m3, m4, _⟩
     ·rw [still b o p e3 e4 e5]
      exact @OR.mono V _ _ le1 _ _ _ (@HR.ob V _ _ _ hh b o p e3 e4)
     ·have m5 := @HR.ob v' _ _ _ g1 b1 o0 p (by rw [heapO_get, m1]) m4
      have m6 := reO_rel (V := v') (V' := V) (sg := newSg e.n0 e.pO.length e.l0 e.puts e.sa) m2 m3 m5
      exact @OR.mono V _ _ le2 _ _ _ (by simpa using m6)
    ·rcases what b o p e1 ep with ⟨c1, e3, e4, e5⟩ | ⟨b1, o0, q0, m1, m2, m3, m4, m5⟩ <;> rcases what b' o' p' e1' ep' with ⟨c1', e3', e4', e5'⟩ | ⟨b1', o0', q0', m1', m2', m3', m4', m5'⟩
     ·exact @HR.ap V _ _ _ hh b b' o o' p p' e3 e3' e4 e4' er
     ·exfalso
      rcases m5' with ⟨c2, ⟨y, hy, rfl⟩, _⟩ | ⟨c2, rfl⟩
      ·obtain ⟨j, hj⟩ := List.mem_iff_getElem?.1 hy
       obtain ⟨_, o2, s1, s2⟩ := pat j y hj
       rcases @HR.ap V _ _ _ hh b y.1 o o2 p p' e3 s1 e4 (old _ _ c2 ep') er with e6 | ⟨_, e6⟩
       ·exact e5 y hy e6.symm
       ·rw [s2] at e6; cases e6
      ·have x1 := (@HR.lt V _ _ _ hh b p e4).2
       rcases g3 _ p' (by omega) m4' with x2 | ⟨b0, p0, x2, _, x3, x4, _⟩
       ·omega
       ·obtain ⟨y, o2, p1, s1, s2, s3, s4, s5⟩ := blk b0 x2 p0 x3
        subst s3
        rcases @HR.ap V _ _ _ hh b y.1 o o2 p p1 e3 s4 e4 s2 (er.trans x4.symm) with e6 | ⟨_, e6⟩
        ·exact e5 y s1 e6.symm
        ·rw [s5] at e6; cases e6
     ·exfalso
      rcases m5 with ⟨c2, ⟨y, hy, rfl⟩, _⟩ | ⟨c2, rfl⟩
      ·obtain ⟨j, hj⟩ := List.mem_iff_getElem?.1 hy
       obtain ⟨_, o2, s1, s2⟩ := pat j y hj
       rcases @HR.ap V _ _ _ hh y.1 b' o2 o' p p' s1 e3' (old _ _ c2 ep) e4' er with e6 | ⟨e6, _⟩
       ·exact e5' y hy e6
       ·rw [s2] at e6; cases e6
      ·have x1 := (@HR.lt V _ _ _ hh b' p' e4').2
       rcases g3 _ p (by omega) m4 with x2 | ⟨b0, p0, x2, _, x3, x4, _⟩
       ·omega
       ·obtain ⟨y, o2, p1, s1, s2, s3, s4, s5⟩ := blk b0 x2 p0 x3
        subst s3
        rcases @HR.ap V _ _ _ hh y.1 b' o2 o' p1 p' s4 e3' s2 e4' (x4.trans er) with e6 | ⟨e6, _⟩
        ·exact e5' y s1 e6
        ·rw [s5] at e6; cases e6
     ·rcases @HR.ap v' _ _ _ g1 b1 b1' o0 o0' p p' (by rw [heapO_get, m1]) (by rw [heapO_get, m1']) m4 m4' er with eb | ⟨c1, c2⟩
      ·left
       rcases m5 with ⟨c2, _, j, rfl, y, hj, rfl⟩ | ⟨c2, rfl⟩ <;> rcases m5' with ⟨c2', _, j', hj1, y', hj', rfl⟩ | ⟨c2', hj1⟩
       ·have : j = j' := by omega
        subst this
        rw [hj] at hj'; injection hj' with hj'; rw [hj']
       ·have := (List.getElem?_eq_some_iff.1 hj).1; omega
       ·have := (List.getElem?_eq_some_iff.1 hj').1; omega
       ·omega
      ·exact .inr ⟨reO_ro m2 c1, reO_ro m2' c2⟩
    ·rw [k1]
     by_cases hlt : b < h.n
     ·exact ⟨by omega, Nat.lt_of_lt_of_le (@HR.lt V _ _ _ hh b p (old b p hlt ep)).2 hg.size⟩
     ·rw [ψhi b (by omega)] at ep
      have := @HR.lt v' _ _ _ g1 _ p ep
      rw [heapO_n] at this
      rw [List.length_drop] at n1
      exact ⟨by omega, this.2⟩
    ·rw [k1] at hb'
     rw [k2, if_neg (by omega), List.getElem?_eq_none (by omega)]
  ·cases hres
 ·cases h5
/-! ### All that is said along a path -/
structure Fx where
 facts : List Fact
 rows : List RowF
 lens : List LenF
 kns : List KE
 upds : List UpdF
 mades : List MadeF
@[reducible] def decF (x : Fx) : Dec := { ask := askF x.facts, known := fun f args h => knownF f args h x.kns, row := fun i k y => rowF i k y x.rows, upd := fun i k y z d cs => updF i k y z d cs x.upds, made := fun e zs => madeF e zs x.mades, lenL := fun i z => lenF i z x.lens }
structure Fx.ok (x : Fx) (V : Val) : Prop where
 facts : factsOk V.ρ x.facts
 rows : rowsOk V x.rows
 lens : lensOk V x.lens
 upds : updsOk V x.upds
 mades : madesOk V x.mades
@[reducible] def envF (x : Fx) (V : Val) (h : x.ok V) : Env := { toDec := decF x, toVal := V, ok := fun e => askF_ok h.facts e, rowOk := fun e => rowF_ok h.rows e, updOk := fun e => updF_ok h.upds e, madeOk := fun e => madeF_ok h.mades e, knKp := fun e => knownF_kp e, lenOk := fun e => lenF_ok h.lens e }
theorem known_env {P : Program} {x : Fx} {V : Val} {h : x.ok V} (hk : knsOk P V x.kns) (hc : ∀ l, V.cod l = rangeAt P l) : @KnownOk (envF x V h) P := by
 refine @KnownOk.mk (envF x V h) P hc ?_
 intro f args hp c h' lw e
 have e : knownF f args hp x.kns = some (c, h', lw) := e
 generalize x.kns = l at e hk
 induction l with
 | nil => cases e
 | cons a l ih =>
  unfold knownF at e
  cases hq : a.fits f args hp with
  | true =>
   rw [hq] at e
   injection e with e; injection e with e1 e; injection e with e2 e3; subst e1; subst e2; subst e3
   obtain ⟨v, v', q, ho⟩ := hk.1
   have hf : a.f = f := by
    unfold KE.fits at hq
    simp only [Bool.and_eq_true] at hq
    exact beq_s hq.1.1.1.1.1
   refine ⟨by rw [← hf]; exact ho.call.fn, fun φ args' w hh ha => ke_calls ho hq hh ha⟩
  | false => rw [hq] at e; exact ih e hk.2
@[reducible] def valsP (P : Program) (ns : List Int) (Ls : List (List Value)) : Val := ⟨fun i => ns.getD i 0, fun i => Ls.getD i [], rangeAt P⟩
/-! ### Where code lies -/
def runsB (P : Program) (f : FuncId) (n : Nat) : Bool :=
 match P.funcs[f]? with
 | some fn => (match fn.body with | some _ => true | none => false) && !(fn.name == "runtime.NumGoroutine") && Nat.ble n fn.ntmps
 | none => false
theorem fun_of {P : Program} {f nt : Nat} {V V' : Val} {args : List CV} {O N : Objs} {r : CV} {l0 : Nat} (hf : runsB P f args.length = true) (hnt : (fnOf P f).ntmps = nt)
  (h : ∀ φ0 w0 a w, AtS V (argSl 0 args) O nt O.length l0 φ0 w0 a w → (Wk.code (bodyOf P f) []).goal Fence.wide 0 P [] (bodyPostM Fence.wide 0 P (fnOf P f) (RPost V' r N O.length l0 φ0 w0)) a w) : CallOk P f V args O l0 V' r N := by
 subst hnt
 unfold runsB at hf
 split at hf
 ·rename_i fn hfn
  simp only [Bool.and_eq_true, Bool.not_eq_true'] at hf
  obtain ⟨⟨h1, h2⟩, h3⟩ := hf
  split at h1
  ·rename_i cd hcd
   have e1 : fnOf P f = fn := by unfold fnOf; rw [hfn]; rfl
   have e2 : bodyOf P f = cd := by unfold bodyOf; rw [e1, hcd]; rfl
   rw [e1, e2] at h
   exact fun_in hfn hcd h2 (ble_s h3) h
  ·cases h1
 ·cases hf
def bI (b : Bool) : Int := if b then 1 else 0
theorem bi_t {b : Bool} (h : b = true) : cmpC .neq (bI b) 0 = some true := by subst h; rfl
theorem bi_f {b : Bool} (h : ¬ b = true) : cmpC .neq (bI b) 0 = some false := by cases b <;> first | rfl | exact absurd rfl h
theorem wide_fw : FW Fence.wide := ⟨fun _ => trivial, rfl, rfl⟩
theorem at_re {V V' : Val} {S : List (Tmp × CV)} {O : Objs} {nt m l0 : Nat} {φ0 : Phi} {w0 w : World} {a : Act} {T : Pat} {qs : List Eqn} (h : AtS V S O nt m l0 φ0 w0 a w) (e : chkSt m l0 nt (stP S O nt) T = some qs) (hq : eqnsOk V V' qs) : AtS V' T.S T.O nt m l0 φ0 w0 a w := by
 obtain ⟨φ, h1, h2, h3, h4⟩ := h
 exact chk_at h1 h2 h3 e hq
/-! ### Segments, with all that is said -/
section
variable {P : Program} (hm : P.follows .mixedOrders = true) (x : Fx) {V V' : Val} (hc : ∀ l, V.cod l = rangeAt P l) (hx : x.ok V) (hk : knsOk P V x.kns) {S : List (Tmp × CV)} {O : Objs} {nt m l0 n f fid : Nat} {K K' : List Fr} {wk : Wk} {φ0 : Phi} {w0 w : World} {a : Act} {F : Fence} {k : Nat} {qs : List Eqn}
include hm hc hx hk
theorem to_loop {T : Pat} {B : Code} {Q : Exit → Act → World → Prop} (hW : WOk P fid wk) (hK : KOk P fid K) (hF : FW F) (hr : F.round = none) (e : loopC m l0 nt T (@goTo (decF x) (@codeC (decF x) P n) fid f K wk (stP S O nt)) = some (B, K', qs)) (hq : eqnsOk V V' qs) (h : AtS V S O nt m l0 φ0 w0 a w)
  (hQ : ∀ a' w', AtS V' T.S T.O nt m l0 φ0 w0 a' w' → (Code.loop B).wpIn F k P (postK F k P K' Q) a' w') : wk.goal F k P K Q a w :=
 @seg_loop (envF x V hx) P n hm (known_env hk hc) fid _ _ _ _ _ _ _ _ _ _ _ _ _ _ _ _ _ _ _ _ hW hK hF hr e hq h hQ
theorem to_done {T : Pat} {ce : CE} {Q : Exit → Act → World → Prop} (hW : WOk P fid wk) (hK : KOk P fid K) (hF : FW F) (hr : F.round = none) (e : doneC m l0 nt T (@goTo (decF x) (@codeC (decF x) P n) fid f K wk (stP S O nt)) = some (ce, qs)) (hq : eqnsOk V V' qs) (h : AtS V S O nt m l0 φ0 w0 a w)
  (hQ : ∀ a' w', AtS V' T.S T.O nt m l0 φ0 w0 a' w' → Q ce.way a' w') : wk.goal F k P K Q a w :=
 @seg_done (envF x V hx) P n hm (known_env hk hc) fid _ _ _ _ _ _ _ _ _ _ _ _ _ _ _ _ _ _ _ hW hK hF hr e hq h hQ
theorem to_fin {fn : Func} {R : Res} (hW : WOk P fid wk) (hK : KOk P fid K) (hF : FW F) (hr : F.round = none) (e : @finC (decF x) P fn m l0 R (@goTo (decF x) (@codeC (decF x) P n) fid f K wk (stP S O nt)) = some qs) (hq : eqnsOk V V' qs) (h : AtS V S O nt m l0 φ0 w0 a w) : wk.goal F k P K (bodyPostM F k P fn (RPost V' R.c R.O m l0 φ0 w0)) a w :=
 @seg_fin (envF x V hx) P n hm (known_env hk hc) fid _ _ _ _ _ _ _ _ _ _ _ _ _ _ _ _ _ _ hW hK hF hr e hq h
end
theorem rounds_in {F : Fence} {k n : Nat} {P : Program} {B : Code} {p : List Nat} {R : Exit → Act → World → Prop} {a : Act} {w : World} (h : (Wk.code B p).goal F k P [] (Exit.then (Code.roundsIn F k P B R n) R) a w) : Code.roundsIn F k P B R (n + 1) a w := h
theorem loop_in {F : Fence} {k n : Nat} {P : Program} {B : Code} {R : Exit → Act → World → Prop} {a : Act} {w : World} (h : Code.roundsIn F k P B R n a w) : (Code.loop B).wpIn F k P R a w := wpIn_loop_rounds n h
section
variable {a b : Int}
theorem r (x : Int) : x = x := rfl
theorem ask_by {o : BinOp} {r : Bool} (h : cmpC o a b = some r) : cmpC o a b = some r := h
theorem lss_t (h : a < b) : cmpC .lss a b = some true := congrArg some (decide_eq_true h)
theorem lss_f (h : ¬ a < b) : cmpC .lss a b = some false := congrArg some (decide_eq_false h)
theorem leq_t (h : a ≤ b) : cmpC .leq a b = some true := congrArg some (decide_eq_true h)
theorem leq_f (h : ¬ a ≤ b) : cmpC .leq a b = some false := congrArg some (decide_eq_false h)
theorem gtr_t (h : b < a) : cmpC .gtr a b = some true := congrArg some (decide_eq_true h)
theorem gtr_f (h : ¬ b < a) : cmpC .gtr a b = some false := congrArg some (decide_eq_false h)
theorem geq_t (h : b ≤ a) : cmpC .geq a b = some true := congrArg some (decide_eq_true h)
theorem geq_f (h : ¬ b ≤ a) : cmpC .geq a b = some false := congrArg some (decide_eq_false h)
theorem eql_t (h : a = b) : cmpC .eql a b = some true := congrArg some (beq_iff_eq.2 h)
theorem eql_f (h : ¬ a = b) : cmpC .eql a b = some false := congrArg some (beq_false_of_ne h)
theorem neq_t (h : ¬ a = b) : cmpC .neq a b = some true := congrArg some (bne_iff_ne.2 h)
theorem neq_f (h : a = b) : cmpC .neq a b = some false := congrArg some (by rw [bne_eq_false_iff_eq]; exact h)
end
/-! ### Lists by their elements -/
theorem flat_row {α : Type} {enc : α → List Value} {z : Nat} (hz : ∀ x, (enc x).length = z ∧ ∀ u ∈ enc x, u.oneCell' = true) : ∀ {xs : List α} {q : Nat} {a : α}, xs[q]? = some a → ((xs.flatMap enc).drop (q * z)).take z = enc a
 | [], q, a, h => by simp at h
 | x :: xs, 0, a, h => by
  simp at h; subst h
  rw [Nat.zero_mul, List.drop_zero, List.flatMap_cons, ← (hz x).1, List.take_left]
 | x :: xs, q + 1, a, h => by
  rw [List.flatMap_cons, show (q + 1) * z = (enc x).length + q * z by rw [(hz x).1, Nat.add_mul]; omega, ← List.drop_drop, List.drop_left]
  exact flat_row hz (by simpa using h)
theorem flat_length {α : Type} {enc : α → List Value} {z : Nat} (hz : ∀ x, (enc x).length = z ∧ ∀ u ∈ enc x, u.oneCell' = true) (xs : List α) : ((xs.flatMap enc).length : Int) = (xs.length : Int) * z ∧ (0 : Int) ≤ xs.length ∧ ∀ u ∈ xs.flatMap enc, u.oneCell' = true := by
 refine ⟨?_, by omega, fun u hu => ?_⟩
 ·induction xs with
  | nil => simp
  | cons x r ih => simp only [List.flatMap_cons, List.length_append, (hz x).1, List.length_cons, Int.natCast_add, ih, Int.add_mul]; omega
 ·obtain ⟨x, _, h⟩ := List.mem_flatMap.1 hu
  exact (hz x).2 u h
theorem flat_upd {α : Type} {enc : α → List Value} {z : Nat} (hz : ∀ x, (enc x).length = z ∧ ∀ u ∈ enc x, u.oneCell' = true) {d n : Nat} {vs : List Value} {e e' : α} (hn : vs.length = n) (hd : d + n ≤ z) (h : enc e' = (enc e).take d ++ vs ++ (enc e).drop (d + n)) : ∀ {xs : List α} {q : Nat}, xs[q]? = some e → q * z + d + n ≤ (xs.flatMap enc).length ∧ (xs.set q e').flatMap enc = (xs.flatMap enc).take (q * z + d) ++ vs ++ (xs.flatMap enc).drop (q * z + d + n)
 | [], q, he => by simp at he
 | x :: xs, 0, he => by
  simp at he; subst he
  have hl := (hz x).1
  refine ⟨by rw [List.flatMap_cons, List.length_append]; omega, ?_⟩
  rw [List.set_cons_zero, List.flatMap_cons, List.flatMap_cons, Nat.zero_mul, Nat.zero_add, List.take_append_of_le_length (by omega), List.drop_append_of_le_length (by omega), h]
  simp only [List.append_assoc]
 | x :: xs, q + 1, he => by
  have hl := (hz x).1
  obtain ⟨h1, h2⟩ := flat_upd hz hn hd h (xs := xs) (q := q) (by simpa using he)
  have e1 : (q + 1) * z + d = (enc x).length + (q * z + d) := by rw [hl, Nat.add_mul]; omega
  have e2 : (q + 1) * z + d + n = (enc x).length + (q * z + d + n) := by rw [hl, Nat.add_mul]; omega
  refine ⟨by rw [e2, List.flatMap_cons, List.length_append]; omega, ?_⟩
  rw [List.set_cons_succ, List.flatMap_cons, List.flatMap_cons, h2, e2, e1, List.take_length_add_append, show ∀ m, (enc x ++ xs.flatMap enc).drop ((enc x).length + m) = (xs.flatMap enc).drop m from fun m => by rw [← List.drop_drop, List.drop_left]]
  simp only [List.append_assoc]
theorem flat_made {α : Type} {enc : α → List Value} (x : α) : ∀ n : Nat, (List.replicate n x).flatMap enc = zerosV (enc x) n
 | 0 => rfl
 | n + 1 => by rw [List.replicate_succ, List.flatMap_cons, flat_made x n]; rfl
theorem flat_made_len {α : Type} {enc : α → List Value} {z : Nat} (hz : ∀ x, (enc x).length = z ∧ ∀ u ∈ enc x, u.oneCell' = true) (x : α) {n : Int} (h : 0 ≤ n) : (((List.replicate n.toNat x).flatMap enc).length : Int) = n * z ∧ 0 ≤ n ∧ ∀ u ∈ (List.replicate n.toNat x).flatMap enc, u.oneCell' = true := by
 obtain ⟨h1, _, h3⟩ := flat_length hz (List.replicate n.toNat x)
 refine ⟨?_, h, h3⟩
 rw [h1, List.length_replicate, Int.toNat_of_nonneg h]
theorem flat_set_len {α : Type} {enc : α → List Value} {z : Nat} (hz : ∀ x, (enc x).length = z ∧ ∀ u ∈ enc x, u.oneCell' = true) {xs : List α} (q : Nat) (e : α) {n : Int} (h : ((xs.flatMap enc).length : Int) = n * z ∧ 0 ≤ n ∧ ∀ u ∈ xs.flatMap enc, u.oneCell' = true) : (((xs.set q e).flatMap enc).length : Int) = n * z ∧ 0 ≤ n ∧ ∀ u ∈ (xs.set q e).flatMap enc, u.oneCell' = true := by
 obtain ⟨h1, _, _⟩ := flat_length hz xs
 obtain ⟨g1, _, g3⟩ := flat_length hz (xs.set q e)
 refine ⟨?_, h.2.1, g3⟩
 rw [g1, List.length_set, ← h1, h.1]
end Go.Proofs.YthffbfkcmbgghaaGreat.Cm
