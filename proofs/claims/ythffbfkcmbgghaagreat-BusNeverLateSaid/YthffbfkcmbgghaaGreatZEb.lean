/-
  The clean machine: code that is run from a state as a pattern says, till its next loop or its end.
-/
import Derived.Test.YthffbfkcmbgghaaGreatZEa
set_option linter.all false
namespace Go.Proofs.YthffbfkcmbgghaaGreat.Cm
open Go Go.RowKit
def slotsT : List (Tmp × CV) → Tr CV
  | [] => .e
  | x :: l => (slotsT l).put x.1 (some x.2)
theorem slotsT_mem : ∀ {S : List (Tmp × CV)} {t : Nat} {c : CV}, (slotsT S).get t = some c → (t, c) ∈ S
  | [], t, c, e => by cases e
  | x :: l, t, c, e => by
    letI : Val := ⟨fun _ => 0, fun _ => [], fun _ => (.skip, .skip)⟩
    unfold slotsT at e
    rw [Tr.get_put] at e
    by_cases h : t = x.1
    · rw [if_pos h] at e; injection e with e; subst e; subst h; exact List.mem_cons_self
    · rw [if_neg h] at e; exact List.mem_cons_of_mem _ (slotsT_mem e)
def argSl : Nat → List CV → List (Tmp × CV)
  | _, [] => []
  | k, c :: l => (k, c) :: argSl (k + 1) l
theorem argSl_mem : ∀ {l : List CV} {k t : Nat} {c : CV}, (t, c) ∈ argSl k l → k ≤ t ∧ l[t - k]? = some c
  | [], _, _, _, h => by cases h
  | x :: l, k, t, c, h => by
    rcases List.mem_cons.1 h with e | h
    · injection e with e1 e2; subst e1; subst e2; exact ⟨Nat.le_refl _, by simp⟩
    · obtain ⟨h1, h2⟩ := argSl_mem h
      refine ⟨by omega, ?_⟩
      rw [show t - k = (t - (k + 1)) + 1 by omega, List.getElem?_cons_succ]; exact h2
def stP (S : List (Tmp × CV)) (O : Objs) (nt : Nat) : St := ⟨slotsT S, nt, [], heapO O, O.length⟩
def reS (sg : Sg) (ts : Tr CV) : List (Tmp × CV) → Option (List Eqn)
  | [] => some []
  | x :: l => match ts.get x.1 with
    | some c => match reT sg c x.2, reS sg ts l with
      | some q, some r => some (q ++ r)
      | _, _ => none
    | none => none
theorem reS_at {V V' : Val} {sg : Sg} {ts : Tr CV} : ∀ {S : List (Tmp × CV)} {qs : List Eqn}, reS sg ts S = some qs → eqnsOk V V' qs → ∀ t c', (t, c') ∈ S → ∃ c qs', ts.get t = some c ∧ reT sg c c' = some qs' ∧ eqnsOk V V' qs'
  | [], _, _, _, _, _, h => by cases h
  | x :: l, qs, e, hq, t, c', h => by
    unfold reS at e
    split at e
    · rename_i c hc
      split at e
      · rename_i q r h1 h2
        injection e with e; subst e
        obtain ⟨q1, q2⟩ := eqns_app hq
        rcases List.mem_cons.1 h with e | h
        · subst e; exact ⟨c, q, hc, h1, q1⟩
        · exact reS_at h2 q2 t c' h
      · cases e
    · cases e
theorem reSR {V V' : Val} {φ : Phi} {s : St} {a : Act} {w : World} {sl : List (Option (Nat × Nat))} {S : List (Tmp × CV)} {O : Objs} {q1 q2 : List Eqn} (hs : @SR V φ s a w) (hdf : s.df = []) (h1 : reS (sgL sl) s.ts S = some q1) (h2 : reH (sgL sl) s.h 0 O = some q2)
    (hq1 : eqnsOk V V' q1) (hq2 : eqnsOk V V' q2) (ha : apOk (sgL sl) 0 O = true) (hl : sl.length ≤ O.length) : @SR V' (phiS φ (sgL sl)) (stP S O s.nt) a w := by
  have hsz : a.tmps.size = s.nt := @TR.size V _ _ _ _ (@SR.tr V _ _ _ _ hs)
  refine @SR.mk V' _ _ _ _ (@TR.mk V' _ _ _ _ hsz fun d c' e => ?_) ?_ (reH_rel (@SR.hr V _ _ _ _ hs) h2 hq2 ha hl)
  · obtain ⟨c, qs', g1, g2, g3⟩ := reS_at h1 hq1 d c' (slotsT_mem e)
    obtain ⟨v, hv, hr⟩ := @TR.get V _ _ _ _ (@SR.tr V _ _ _ _ hs) d c g1
    exact ⟨v, hv, reT_rel g2 g3 hr⟩
  · have := @SR.df V _ _ _ _ hs
    rw [hdf] at this
    show DRs _ [] a.defers
    generalize a.defers = ds at *
    cases this
    exact .nil
def rootGo (m l0 : Nat) : Nat → List (Option (Nat × Nat)) → Bool
  | b, [] => Nat.ble m b
  | b, x :: l => (bif Nat.blt b m then (match x with | some (b1, o) => Nat.beq b1 b && Nat.beq o 0 | none => false) else (match x with | some (b1, _) => Nat.ble m b1 || Nat.ble l0 b1 | none => true)) && rootGo m l0 (b + 1) l
theorem rootGo_at {m l0 : Nat} : ∀ {l : List (Option (Nat × Nat))} {b : Nat}, rootGo m l0 b l = true → (∀ j, b + j < m → l[j]? = some (some (b + j, 0))) ∧ ∀ j b1 o, m ≤ b + j → l[j]? = some (some (b1, o)) → m ≤ b1 ∨ l0 ≤ b1
  | [], b, h => by
    have h : m ≤ b := Nat.le_of_ble_eq_true h
    exact ⟨fun j hj => by omega, fun j b1 o _ e => by simp at e⟩
  | x :: l, b, h => by
    unfold rootGo at h
    rw [Bool.and_eq_true] at h
    obtain ⟨g1, g2⟩ := rootGo_at h.2
    have h0 := h.1
    refine ⟨fun j hj => ?_, fun j b1 o hj e => ?_⟩
    · cases j with
      | zero =>
        have hb : Nat.blt b m = true := Nat.ble_eq_true_of_le (by omega)
        rw [hb, cond_true] at h0
        cases x with
        | none => cases h0
        | some y =>
          obtain ⟨b1, o⟩ := y
          simp only [Bool.and_eq_true] at h0
          have e1 := Nat.eq_of_beq_eq_true h0.1
          have e2 := Nat.eq_of_beq_eq_true h0.2
          subst e1; subst e2; simp
      | succ j =>
        have := g1 j (by omega)
        rw [List.getElem?_cons_succ, this, show b + 1 + j = b + (j + 1) by omega]
    · cases j with
      | zero =>
        have hb : Nat.blt b m = false := by
          cases hq : Nat.blt b m with
          | false => rfl
          | true => have : b + 1 ≤ m := Nat.le_of_ble_eq_true hq
                    omega
        rw [hb, cond_false] at h0
        simp at e; subst e
        rcases Bool.or_eq_true_iff.1 h0 with h0 | h0
        · exact .inl (Nat.le_of_ble_eq_true h0)
        · exact .inr (Nat.le_of_ble_eq_true h0)
      | succ j => exact g2 j b1 o (by omega) (by simpa using e)
def AtS (V : Val) (S : List (Tmp × CV)) (O : Objs) (nt m l0 : Nat) (φ0 : Phi) (w0 : World) (a : Act) (w : World) : Prop :=
  ∃ φ, Went φ0 m l0 w0 φ w ∧ @SR V φ (stP S O nt) a w ∧ (∀ b p, φ0 b = some p → b < m) ∧ m ≤ O.length
structure Pat where
  S : List (Tmp × CV)
  O : Objs
  sl : List (Option (Nat × Nat))
def chkSt (m l0 nt : Nat) (s : St) (T : Pat) : Option (List Eqn) :=
  bif Nat.ble l0 s.lw && Nat.beq s.nt nt && s.df.isEmpty && apOk (sgL T.sl) 0 T.O && Nat.beq T.sl.length T.O.length && rootGo m l0 0 T.sl then
    match reS (sgL T.sl) s.ts T.S, reH (sgL T.sl) s.h 0 T.O with
    | some x, some y => some (x ++ y)
    | _, _ => none
  else none
theorem roots_went {φ0 φ : Phi} {m l0 : Nat} {w0 w : World} {sl : List (Option (Nat × Nat))} (h : Went φ0 m l0 w0 φ w) (hd : ∀ b p, φ0 b = some p → b < m) (hr : rootGo m l0 0 sl = true) : Went φ0 m l0 w0 (phiS φ (sgL sl)) w := by
  obtain ⟨g1, g2⟩ := rootGo_at hr
  simp only [Nat.zero_add] at g1 g2
  refine ⟨fun b p e => ?_, fun b p e => ?_, h.os, h.tape, h.output, h.size, h.fr⟩
  · have hb := hd b p e
    have := phiS_some (φ := φ) (sg := sgL sl) (b := b) (b1 := b) (o := 0) (by unfold sgL; rw [g1 b hb]) (h.le b p e)
    simpa using this
  · obtain ⟨b1, o, q, hs, hp, rfl⟩ := phiS_inv e
    have hs' : sl[b]? = some (some (b1, o)) := by
      unfold sgL at hs
      split at hs
      · rename_i x hx; rw [hx, hs]
      · cases hs
    rcases Nat.lt_or_ge b m with hb | hb
    · rw [g1 b hb] at hs'
      injection hs' with hs'; injection hs' with hs'; injection hs' with e1 e2
      subst e1; subst e2
      rcases h.new b q hp with h1 | ⟨h1, _⟩
      · left; simpa using h1
      · omega
    · have hb1 := g2 b b1 o hb hs'
      rcases h.new b1 q hp with h1 | ⟨_, h1⟩
      · rcases hb1 with hb1 | hb1
        · have := hd b1 q h1; omega
        · exact .inr ⟨hb, .inr ⟨b1, q, hb1, h1, rfl⟩⟩
      · exact .inr ⟨hb, h1⟩
theorem chk_at {V V' : Val} {φ0 φ : Phi} {m l0 nt : Nat} {w0 w : World} {a : Act} {s : St} {T : Pat} {qs : List Eqn} (hw : Went φ0 m l0 w0 φ w) (hs : @SR V φ s a w) (hd : ∀ b p, φ0 b = some p → b < m) (e : chkSt m l0 nt s T = some qs) (hq : eqnsOk V V' qs) : AtS V' T.S T.O nt m l0 φ0 w0 a w := by
  unfold chkSt at e
  obtain ⟨h1, e⟩ := bif_s e
  simp only [Bool.and_eq_true] at h1
  obtain ⟨⟨⟨⟨⟨h1, h2⟩, h3⟩, h4⟩, h5⟩, h6⟩ := h1
  have h2 := beq_s h2
  have h5 := beq_s h5
  split at e
  · rename_i x y e1 e2
    injection e with e; subst e
    obtain ⟨q1, q2⟩ := eqns_app hq
    subst h2
    refine ⟨_, roots_went hw hd h6, reSR hs (by simpa using h3) e1 e2 q1 q2 h4 (by omega), hd, ?_⟩
    obtain ⟨g1, _⟩ := rootGo_at h6
    rcases Nat.eq_zero_or_pos m with hm | hm
    · omega
    · have := g1 (m - 1) (by omega)
      have := (List.getElem?_eq_some_iff.1 this).1
      omega
  · cases e
/-! ### Code till its next loop -/
inductive Fr where
  | sq (b : Code) (p : List Nat)
  | bk (id : Nat)
inductive Wk where
  | code (c : Code) (p : List Nat)
  | out (e : CE)
inductive Stop where
  | done (e : CE) (s : St)
  | loop (b : Code) (p : List Nat) (K : List Fr) (s : St)
def Stop.st : Stop → St
  | .done _ s => s
  | .loop _ _ _ s => s
def fnOf (P : Program) (f : FuncId) : Func := (P.funcs[f]?).getD default
def bodyOf (P : Program) (f : FuncId) : Code := ((fnOf P f).body).getD .skip
def subAt : Code → List Nat → Code
  | c, [] => c
  | .seq a b, i :: p => bif Nat.beq i 0 then subAt a p else subAt b p
  | .block _ a, _ :: p => subAt a p
  | .cond _ a b, i :: p => bif Nat.beq i 0 then subAt a p else subAt b p
  | .loop a, _ :: p => subAt a p
  | .rangeFunc _ _ a b, i :: p => bif Nat.beq i 0 then subAt a p else subAt b p
  | .scope a, _ :: p => subAt a p
  | _, _ => .skip
theorem subAt_nil (c : Code) : subAt c [] = c := by cases c <;> rfl
theorem subAt_one (c : Code) (i : Nat) : subAt c [i] = kidC c i := by
  cases c with
  | seq a b => show (bif Nat.beq i 0 then subAt a [] else subAt b []) = _; rw [subAt_nil, subAt_nil]; rfl
  | cond x a b => show (bif Nat.beq i 0 then subAt a [] else subAt b []) = _; rw [subAt_nil, subAt_nil]; rfl
  | rangeFunc x ps a b => show (bif Nat.beq i 0 then subAt a [] else subAt b []) = _; rw [subAt_nil, subAt_nil]; rfl
  | block id a => exact subAt_nil a
  | loop a => exact subAt_nil a
  | scope a => exact subAt_nil a
  | _ => rfl
theorem subAt_snoc (i : Nat) : ∀ (p : List Nat) (c : Code), subAt c (p ++ [i]) = kidC (subAt c p) i
  | [], c => by rw [List.nil_append, subAt_one, subAt_nil]
  | j :: p, c => by
    cases c with
    | seq a b =>
      show (bif Nat.beq j 0 then subAt a (p ++ [i]) else subAt b (p ++ [i])) = kidC (bif Nat.beq j 0 then subAt a p else subAt b p) i
      cases Nat.beq j 0
      · exact subAt_snoc i p b
      · exact subAt_snoc i p a
    | cond x a b =>
      show (bif Nat.beq j 0 then subAt a (p ++ [i]) else subAt b (p ++ [i])) = kidC (bif Nat.beq j 0 then subAt a p else subAt b p) i
      cases Nat.beq j 0
      · exact subAt_snoc i p b
      · exact subAt_snoc i p a
    | rangeFunc x ps a b =>
      show (bif Nat.beq j 0 then subAt a (p ++ [i]) else subAt b (p ++ [i])) = kidC (bif Nat.beq j 0 then subAt a p else subAt b p) i
      cases Nat.beq j 0
      · exact subAt_snoc i p b
      · exact subAt_snoc i p a
    | block id a => exact subAt_snoc i p a
    | loop a => exact subAt_snoc i p a
    | scope a => exact subAt_snoc i p a
    | _ => rfl
theorem bodyC_of (P : Program) (f : FuncId) : bodyC P f = bodyOf P f := by
  unfold bodyC bodyOf fnOf
  cases P.funcs[f]? with
  | none => rfl
  | some fn => show (match fn.body with | some c => c | none => .skip) = (fn.body).getD .skip; cases fn.body <;> rfl
def KOk (P : Program) (fid : Nat) : List Fr → Prop
  | [] => True
  | .sq b p :: K => b = subAt (bodyOf P fid) p ∧ KOk P fid K
  | .bk _ :: K => KOk P fid K
def WOk (P : Program) (fid : Nat) : Wk → Prop
  | .code c p => c = subAt (bodyOf P fid) p
  | .out _ => True
theorem codeAt_sub (P : Program) (f : FuncId) : ∀ q : List Nat, codeAt P f q = subAt (bodyOf P f) q.reverse
  | [] => by
    rw [List.reverse_nil]
    show bodyC P f = subAt (bodyOf P f) []
    rw [bodyC_of, subAt_nil]
  | i :: q => by
    rw [List.reverse_cons, subAt_snoc]
    show kidC (codeAt P f q) i = _
    rw [codeAt_sub P f q]
theorem wok0 {P : Program} {f : FuncId} : WOk P f (.code (bodyOf P f) []) := by
  show bodyOf P f = subAt (bodyOf P f) []
  rw [subAt_nil]
theorem WOk.loc {P : Program} {fid : Nat} {c : Code} {p : List Nat} (h : WOk P fid (.code c p)) : LocOk P (some (fid, p.reverse)) c := by
  show codeAt P fid p.reverse = c
  rw [codeAt_sub, List.reverse_reverse]; exact (show c = _ from h).symm
theorem WOk.kid {P : Program} {fid : Nat} {c d : Code} {p : List Nat} (h : WOk P fid (.code c p)) (i : Nat) (e : kidC c i = d) : WOk P fid (.code d (p ++ [i])) := by
  show d = subAt (bodyOf P fid) (p ++ [i])
  rw [subAt_snoc, ← (show c = _ from h), e]
def goTo [Dec] (run : Runs) (fid : Nat) : Nat → List Fr → Wk → St → Option Stop
  | 0, _, _, _ => none
  | f + 1, K, .code c p, s => match c with
    | .seq a b => goTo run fid f (.sq b (p ++ [1]) :: K) (.code a (p ++ [0])) s
    | .block id a => goTo run fid f (.bk id :: K) (.code a (p ++ [0])) s
    | .cond x a b => match argC s.ts x with
      | some (.bool t) => goTo run fid f K (bif t then .code a (p ++ [0]) else .code b (p ++ [1])) s
      | _ => none
    | .loop b => some (.loop b (p ++ [0]) K s)
    | c => match run none (some (fid, p.reverse)) c s with
      | some (e, s) => goTo run fid f K (.out e) s
      | none => none
  | f + 1, K, .out e, s => match K with
    | [] => some (.done e s)
    | .sq b p :: K => match e with
      | .normal => goTo run fid f K (.code b p) s
      | e => goTo run fid f K (.out e) s
    | .bk id :: K => match e with
      | .exit i => goTo run fid f K (.out (bif Nat.beq i id then .normal else .exit i)) s
      | e => goTo run fid f K (.out e) s
def postK (F : Fence) (n : Nat) (P : Program) : List Fr → (Exit → Act → World → Prop) → Exit → Act → World → Prop
  | [], Q => Q
  | .sq b _ :: K, Q => Exit.then (fun a w => b.wpIn F n P (postK F n P K Q) a w) (postK F n P K Q)
  | .bk id :: K, Q => Exit.inBlock id (postK F n P K Q)
def Wk.goal (F : Fence) (n : Nat) (P : Program) (K : List Fr) (Q : Exit → Act → World → Prop) (a : Act) (w : World) : Wk → Prop
  | .code c _ => c.wpIn F n P (postK F n P K Q) a w
  | .out e => postK F n P K Q e.way a w
def Stop.goal (F : Fence) (n : Nat) (P : Program) (Q : Exit → Act → World → Prop) (a : Act) (w : World) : Stop → Prop
  | .done e _ => Q e.way a w
  | .loop b _ K _ => (Code.loop b).wpIn F n P (postK F n P K Q) a w
section
variable [E : Env] {P : Program} {n : Nat}
theorem goTo_kp {fid : Nat} : ∀ {f : Nat} {K : List Fr} {wk : Wk} {s : St} {st : Stop}, goTo (codeC P n) fid f K wk s = some st → s.h.n ≤ st.st.h.n ∧ st.st.lw ≤ s.lw
  | 0, _, _, _, _, e => by cases e
  | f + 1, K, .code c p, s, st, e => by
    have other : (match codeC P n none (some (fid, p.reverse)) c s with | some (e, s) => goTo (codeC P n) fid f K (.out e) s | none => none) = some st → s.h.n ≤ st.st.h.n ∧ st.st.lw ≤ s.lw := fun e => by
      split at e
      · rename_i e1 s1 h1
        obtain ⟨k1, k2⟩ := codeC_kp P n h1
        obtain ⟨k3, k4⟩ := goTo_kp e
        have := k1.n
        exact ⟨by omega, by omega⟩
      · cases e
    cases c with
    | seq a b => exact goTo_kp (f := f) e
    | block id a => exact goTo_kp (f := f) e
    | cond x a b =>
      simp only [goTo] at e
      split at e
      · exact goTo_kp (f := f) e
      · cases e
    | loop b => injection e with e; subst e; exact ⟨Nat.le_refl _, Nat.le_refl _⟩
    | _ => exact other e
  | f + 1, [], .out e1, s, st, e => by injection e with e; subst e; exact ⟨Nat.le_refl _, Nat.le_refl _⟩
  | f + 1, .sq b p :: K, .out e1, s, st, e => by cases e1 <;> exact goTo_kp (f := f) e
  | f + 1, .bk id :: K, .out e1, s, st, e => by cases e1 <;> exact goTo_kp (f := f) e
theorem goTo_ok (hm : P.follows .mixedOrders = true) (hk : KnownOk P) {fid : Nat} : ∀ {f : Nat} {K : List Fr} {wk : Wk} {s : St} {st : Stop}, goTo (codeC P n) fid f K wk s = some st → WOk P fid wk → KOk P fid K → ∀ (F : Fence) (k : Nat) (φ : Phi) (a : Act) (w : World) (Q : Exit → Act → World → Prop), FW F → F.round = none → SR φ s a w →
    (∀ φ' a' w', Went φ s.h.n st.st.lw w φ' w' → SR φ' st.st a' w' → st.goal F k P Q a' w') → wk.goal F k P K Q a w
  | 0, _, _, _, _, e, _, _ => by cases e
  | f + 1, K, .code c p, s, st, e, hW, hK => by
    intro F k φ a w Q hF hr hs hQ
    have hR := (codeC_ok hm hk n).1
    have other : (match codeC P n none (some (fid, p.reverse)) c s with | some (e, s) => goTo (codeC P n) fid f K (.out e) s | none => none) = some st → c.wpIn F k P (postK F k P K Q) a w := fun e => by
      split at e
      · rename_i e1 s1 h1
        obtain ⟨k1, k2⟩ := codeC_kp P n h1
        obtain ⟨k3, k4⟩ := goTo_kp e
        refine wpIn_mono (hR.wp h1 hW.loc F k φ a w hF hr hs) ?_
        rintro x a1 w1 ⟨rfl, φ1, g1, g2⟩
        exact goTo_ok hm hk (f := f) e trivial hK F k φ1 a1 w1 Q hF hr g2 fun φ' a' w' g3 g4 => hQ φ' a' w' (g1.trans g3 k1.n k4 (Nat.le_refl _)) g4
      · cases e
    cases c with
    | seq x y => exact wpIn_seq (goTo_ok hm hk (f := f) e (hW.kid 0 rfl) ⟨hW.kid 1 rfl, hK⟩ F k φ a w Q hF hr hs hQ)
    | block id x => exact wpIn_block (goTo_ok hm hk (f := f) e (hW.kid 0 rfl) hK F k φ a w Q hF hr hs hQ)
    | cond x y z =>
      simp only [goTo] at e
      split at e
      · rename_i t ht
        have hv := evl_of (φ := φ) (a := a) hs.tr [x] x (by simp) _ ht
        generalize hxe : a.eval x = xv at hv
        cases hv
        refine wpIn_cond hxe ?_
        cases t with
        | true => exact goTo_ok hm hk (f := f) e (hW.kid 0 rfl) hK F k φ a w Q hF hr hs hQ
        | false => exact goTo_ok hm hk (f := f) e (hW.kid 1 rfl) hK F k φ a w Q hF hr hs hQ
      · cases e
    | loop b => injection e with e; subst e; exact hQ φ a w (Went.refl _ _ _ _) hs
    | _ => exact other e
  | f + 1, [], .out e1, s, st, e, hW, hK => by
    intro F k φ a w Q hF hr hs hQ
    injection e with e; subst e; exact hQ φ a w (Went.refl _ _ _ _) hs
  | f + 1, .sq b p :: K, .out e1, s, st, e, hW, hK => by
    intro F k φ a w Q hF hr hs hQ
    cases e1 with
    | normal => exact goTo_ok hm hk (f := f) e hK.1 hK.2 F k φ a w Q hF hr hs hQ
    | _ => exact goTo_ok hm hk (f := f) e trivial hK.2 F k φ a w Q hF hr hs hQ
  | f + 1, .bk id :: K, .out e1, s, st, e, hW, hK => by
    intro F k φ a w Q hF hr hs hQ
    cases e1 with
    | normal => exact goTo_ok hm hk (f := f) e trivial hK F k φ a w Q hF hr hs hQ
    | ret => exact goTo_ok hm hk (f := f) e trivial hK F k φ a w Q hF hr hs hQ
    | goto l => exact goTo_ok hm hk (f := f) e trivial hK F k φ a w Q hF hr hs hQ
    | exit i =>
      have := goTo_ok hm hk (f := f) e trivial hK F k φ a w Q hF hr hs hQ
      show if i = id then _ else _
      rw [beq_dec] at this
      by_cases hi : i = id
      · rw [if_pos hi]
        rw [decide_eq_true hi] at this; exact this
      · rw [if_neg hi]
        rw [decide_eq_false hi] at this; exact this
def loopC (m l0 nt : Nat) (T : Pat) : Option Stop → Option (Code × List Fr × List Eqn)
  | some (.loop b _ K s) => match chkSt m l0 nt s T with
    | some q => some (b, K, q)
    | none => none
  | _ => none
def doneC (m l0 nt : Nat) (T : Pat) : Option Stop → Option (CE × List Eqn)
  | some (.done e s) => match chkSt m l0 nt s T with
    | some q => some (e, q)
    | none => none
  | _ => none
theorem seg_loop (hm : P.follows .mixedOrders = true) (hk : KnownOk P) {fid : Nat} {V' : Val} {S : List (Tmp × CV)} {O : Objs} {nt m l0 f : Nat} {K K' : List Fr} {wk : Wk} {T : Pat} {B : Code} {qs : List Eqn} {φ0 : Phi} {w0 w : World} {a : Act} {F : Fence} {k : Nat} {Q : Exit → Act → World → Prop} (hW : WOk P fid wk) (hK : KOk P fid K) (hF : FW F) (hr : F.round = none)
    (e : loopC m l0 nt T (goTo (codeC P n) fid f K wk (stP S O nt)) = some (B, K', qs)) (hq : eqnsOk E.toVal V' qs) (h : AtS E.toVal S O nt m l0 φ0 w0 a w) (hQ : ∀ a' w', AtS V' T.S T.O nt m l0 φ0 w0 a' w' → (Code.loop B).wpIn F k P (postK F k P K' Q) a' w') : wk.goal F k P K Q a w := by
  obtain ⟨φ, h1, h2, h3, h4⟩ := h
  unfold loopC at e
  split at e
  · rename_i b p K1 s hg
    split at e
    · rename_i q hc
      injection e with e; injection e with e1 e; injection e with e2 e3; subst e1; subst e2; subst e3
      refine goTo_ok hm hk hg hW hK F k φ a w Q hF hr h2 fun φ' a' w' g1 g2 => hQ a' w' (chk_at (h1.trans g1 ?_ (Nat.le_refl _) ?_) g2 h3 hc hq)
      · show m ≤ (heapO O).n
        rw [heapO_n]; exact h4
      · unfold chkSt at hc
        obtain ⟨c1, _⟩ := bif_s hc
        simp only [Bool.and_eq_true] at c1
        exact Nat.le_of_ble_eq_true c1.1.1.1.1.1
    · cases e
  · cases e
theorem seg_done (hm : P.follows .mixedOrders = true) (hk : KnownOk P) {fid : Nat} {V' : Val} {S : List (Tmp × CV)} {O : Objs} {nt m l0 f : Nat} {K : List Fr} {wk : Wk} {T : Pat} {ce : CE} {qs : List Eqn} {φ0 : Phi} {w0 w : World} {a : Act} {F : Fence} {k : Nat} {Q : Exit → Act → World → Prop} (hW : WOk P fid wk) (hK : KOk P fid K) (hF : FW F) (hr : F.round = none)
    (e : doneC m l0 nt T (goTo (codeC P n) fid f K wk (stP S O nt)) = some (ce, qs)) (hq : eqnsOk E.toVal V' qs) (h : AtS E.toVal S O nt m l0 φ0 w0 a w) (hQ : ∀ a' w', AtS V' T.S T.O nt m l0 φ0 w0 a' w' → Q ce.way a' w') : wk.goal F k P K Q a w := by
  obtain ⟨φ, h1, h2, h3, h4⟩ := h
  unfold doneC at e
  split at e
  · rename_i ce' s hg
    split at e
    · rename_i q hc
      injection e with e; injection e with e1 e2; subst e1; subst e2
      refine goTo_ok hm hk hg hW hK F k φ a w Q hF hr h2 fun φ' a' w' g1 g2 => hQ a' w' (chk_at (h1.trans g1 ?_ (Nat.le_refl _) ?_) g2 h3 hc hq)
      · show m ≤ (heapO O).n
        rw [heapO_n]; exact h4
      · unfold chkSt at hc
        obtain ⟨c1, _⟩ := bif_s hc
        simp only [Bool.and_eq_true] at c1
        exact Nat.le_of_ble_eq_true c1.1.1.1.1.1
    · cases e
  · cases e
end
/-! ### What a call does: of the blocks that it is given it writes those from l0 on, and says what they hold behind it -/
structure Res where
  c : CV
  O : Objs
  sl : List (Option (Nat × Nat))
def RPost (V' : Val) (r : CV) (N : Objs) (m l0 : Nat) (φ : Phi) (w0 : World) (en : Ending) (w : World) : Prop :=
  ∃ u φ', en = .returned u ∧ Went φ m l0 w0 φ' w ∧ (∀ b, b < m → φ' b = φ b) ∧ @HR V' φ' (heapO N) w ∧ @VR V' φ' r u ∧ ∀ b p, m ≤ b → φ' b = some p → w0.heap.size ≤ p.r ∨ ∃ b0 p0, l0 ≤ b0 ∧ b0 < m ∧ φ b0 = some p0 ∧ p0.r = p.r ∧ N[b0]? = some none
structure CallOk (P : Program) (f : FuncId) (V : Val) (args : List CV) (O : Objs) (l0 : Nat) (V' : Val) (r : CV) (N : Objs) : Prop where
  fn : ∃ fn cd, P.funcs[f]? = some fn ∧ fn.body = some cd ∧ (fn.name == "runtime.NumGoroutine") = false
  ok : ∀ (φ : Phi) (args' : List Value) (w : World), @HR V φ (heapO O) w → @VRs V φ args args' → Calls P f ⟨args'⟩ w (RPost V' r N O.length l0 φ w)
def wrGo (m l0 : Nat) : Nat → Objs → List (Option (Nat × Nat)) → Bool
  | b, o :: l, x :: sl => (bif Nat.blt b m then (bif Nat.blt b l0 then true else match o with | some o => !o.ro | none => true) else match o, x with | none, some _ => false | _, _ => true) && wrGo m l0 (b + 1) l sl
  | b, _, _ => Nat.ble m b
theorem wrGo_at {m l0 : Nat} : ∀ {l : Objs} {sl : List (Option (Nat × Nat))} {b : Nat}, wrGo m l0 b l sl = true → (∀ j : Nat, l0 ≤ b + j → b + j < m → l[j]? = some none ∨ ∃ o, l[j]? = some (some o) ∧ o.ro = false) ∧ ∀ j : Nat, m ≤ b + j → l[j]? = some none → ∀ x, sl[j]? = some (some x) → False
  | [], sl, b, h => by
    have h : m ≤ b := Nat.le_of_ble_eq_true (by unfold wrGo at h; exact h)
    exact ⟨fun j h1 h2 => by omega, fun j _ e => by simp at e⟩
  | o :: l, [], b, h => by
    have h : m ≤ b := Nat.le_of_ble_eq_true (by unfold wrGo at h; exact h)
    exact ⟨fun j h1 h2 => by omega, fun j _ _ x e => by simp at e⟩
  | o :: l, x :: sl, b, h => by
    unfold wrGo at h
    rw [Bool.and_eq_true] at h
    obtain ⟨g1, g2⟩ := wrGo_at h.2
    have h0 := h.1
    refine ⟨fun j h1 h2 => ?_, fun j h1 e y e2 => ?_⟩
    · cases j with
      | zero =>
        have hb : Nat.blt b m = true := Nat.ble_eq_true_of_le (by omega)
        have hb2 : Nat.blt b l0 = false := by
          cases hq : Nat.blt b l0 with
          | false => rfl
          | true => have : b + 1 ≤ l0 := Nat.le_of_ble_eq_true hq
                    omega
        rw [hb, cond_true, hb2, cond_false] at h0
        cases o with
        | none => exact .inl rfl
        | some o => exact .inr ⟨o, by simp, by simpa using h0⟩
      | succ j => simpa using g1 j (by omega) (by omega)
    · cases j with
      | zero =>
        have hb : Nat.blt b m = false := by
          cases hq : Nat.blt b m with
          | false => rfl
          | true => have : b + 1 ≤ m := Nat.le_of_ble_eq_true hq
                    omega
        simp at e e2; subst e; subst e2
        rw [hb, cond_false] at h0
        cases h0
      | succ j => exact g2 j (by omega) (by simpa using e) y (by simpa using e2)
def chkR (m l0 : Nat) (c : CV) (h : CH) (lw : Nat) (R : Res) : Option (List Eqn) :=
  bif Nat.ble l0 lw && apOk (sgL R.sl) 0 R.O && Nat.beq R.sl.length R.O.length && rootGo m l0 0 R.sl && wrGo m l0 0 R.O R.sl then
    match reT (sgL R.sl) c R.c, reH (sgL R.sl) h 0 R.O with
    | some x, some y => some (x ++ y)
    | _, _ => none
  else none
theorem chkR_post {V V' : Val} {φ0 φ : Phi} {m l0 : Nat} {w0 w : World} {c : CV} {u : Value} {h : CH} {lw : Nat} {R : Res} {qs : List Eqn} (hw : Went φ0 m l0 w0 φ w) (hh : @HR V φ h w) (hc : @VR V φ c u) (hd : ∀ b p, φ0 b = some p → b < m) (e : chkR m l0 c h lw R = some qs) (hq : eqnsOk V V' qs) : RPost V' R.c R.O m l0 φ0 w0 (.returned u) w := by
  unfold chkR at e
  obtain ⟨h1, e⟩ := bif_s e
  simp only [Bool.and_eq_true] at h1
  obtain ⟨⟨⟨⟨h1, h2⟩, h3⟩, h4⟩, h5⟩ := h1
  have h3 := beq_s h3
  split at e
  · rename_i x y e1 e2
    injection e with e; subst e
    obtain ⟨q1, q2⟩ := eqns_app hq
    have r1 := roots_went hw hd h4
    obtain ⟨g1, g2⟩ := rootGo_at h4
    obtain ⟨k1, k2⟩ := wrGo_at h5
    simp only [Nat.zero_add] at g1 g2 k1 k2
    have r2 := reH_rel hh e2 q2 h2 (by omega)
    have root : ∀ b, b < m → phiS φ (sgL R.sl) b = φ0 b := fun b hb => by
      have hs : sgL R.sl b = some (b, 0) := by unfold sgL; rw [g1 b hb]
      cases e0 : φ0 b with
      | some p => exact r1.le b p e0
      | none =>
        cases e3 : phiS φ (sgL R.sl) b with
        | none => rfl
        | some p =>
          rcases r1.new b p e3 with e4 | ⟨e4, _⟩
          · rw [e0] at e4; cases e4
          · omega
    refine ⟨u, _, rfl, r1, root, r2, reT_rel e1 q1 hc, fun b p hb ep => ?_⟩
    rcases r1.new b p ep with e3 | ⟨_, e3 | ⟨b0, p0, e4, e5, e6⟩⟩
    · have := hd b p e3; omega
    · exact .inl e3
    · have hb0 := hd b0 p0 e5
      rcases k1 b0 e4 hb0 with o1 | ⟨o0, o1, o2⟩
      · exact .inr ⟨b0, p0, e4, hb0, e5, e6, o1⟩
      exfalso
      obtain ⟨b1, off, q, hs, _, _⟩ := phiS_inv ep
      have hs' : R.sl[b]? = some (some (b1, off)) := by
        unfold sgL at hs
        split at hs
        · rename_i x hx; rw [hx, hs]
        · cases hs
      have hbl : b < R.O.length := by have := (List.getElem?_eq_some_iff.1 hs').1; omega
      obtain ⟨ob, hob⟩ : ∃ ob, R.O[b]? = some ob := ⟨_, List.getElem?_eq_getElem hbl⟩
      cases ob with
      | none => exact k2 b hb hob _ hs'
      | some o =>
        rcases @HR.ap V' _ _ _ r2 b b0 o o0 p p0 (by rw [heapO_get, hob]) (by rw [heapO_get, o1]) ep (by rw [root b0 hb0]; exact e5) e6.symm with e7 | ⟨_, e7⟩
        · omega
        · rw [o2] at e7; cases e7
  · cases e
def callR (m l0 : Nat) (R : Res) : Out → Option (List Eqn)
  | some (c, h, lw) => chkR m l0 c h lw R
  | none => none
def finC [Dec] (P : Program) (fn : Func) (m l0 : Nat) (R : Res) : Option Stop → Option (List Eqn)
  | some (.done (.exit _) _) => none
  | some (.done (.goto _) _) => none
  | some (.done _ s) => callR m l0 R (endC P fn s)
  | _ => none
section
variable [E : Env] {P : Program} {n : Nat}
theorem end_in {F : Fence} {k : Nat} {fn : Func} {s : St} {c : CV} {h' : CH} {lw : Nat} {φ : Phi} {a : Act} {w : World} {R : Ending → World → Prop} (hs : SR φ s a w) (e : endC P fn s = some (c, h', lw)) (hR : ∀ u φ' w', Went φ s.h.n s.lw w φ' w' → HR φ' h' w' → VR φ' c u → R (.returned u) w') :
    LeavesInM F k P fn a.tmps R a.defers .returning w ∧ lw = s.lw := by
  unfold endC at e
  split at e
  · rename_i h2 hd
    split at e
    · rename_i l hl
      injection e with e; injection e with e1 e; injection e with e2 e3
      subst e1; subst e2; subst e3
      refine ⟨leaves_rel hs.df hs.hr hd fun w2 hw2 hr2 hn => ?_, rfl⟩
      obtain ⟨v, hv, hc⟩ := results_rel (P := P) (a := a) (s := { s with h := h2 }) ⟨hs.tr, hs.df, hr2⟩ hl
      exact ⟨v, hv, hR v φ w2 hw2 hr2 hc⟩
    · cases e
  · cases e
theorem seg_fin (hm : P.follows .mixedOrders = true) (hk : KnownOk P) {fid : Nat} {V' : Val} {S : List (Tmp × CV)} {O : Objs} {nt m l0 f : Nat} {K : List Fr} {wk : Wk} {fn : Func} {R : Res} {qs : List Eqn} {φ0 : Phi} {w0 w : World} {a : Act} {F : Fence} {k : Nat} (hW : WOk P fid wk) (hK : KOk P fid K) (hF : FW F) (hr : F.round = none)
    (e : finC P fn m l0 R (goTo (codeC P n) fid f K wk (stP S O nt)) = some qs) (hq : eqnsOk E.toVal V' qs) (h : AtS E.toVal S O nt m l0 φ0 w0 a w) : wk.goal F k P K (bodyPostM F k P fn (RPost V' R.c R.O m l0 φ0 w0)) a w := by
  obtain ⟨φ, h1, h2, h3, h4⟩ := h
  have main : ∀ (ce : CE) (s : St), (ce = .normal ∨ ce = .ret) → goTo (codeC P n) fid f K wk (stP S O nt) = some (.done ce s) → callR m l0 R (endC P fn s) = some qs → wk.goal F k P K (bodyPostM F k P fn (RPost V' R.c R.O m l0 φ0 w0)) a w := by
    intro ce s hce hg e
    unfold callR at e
    split at e
    · rename_i c h' lw he
      refine goTo_ok hm hk hg hW hK F k φ a w _ hF hr h2 fun φ' a' w' g1 g2 => ?_
      have hlw : l0 ≤ lw := by
        unfold chkR at e
        obtain ⟨c1, _⟩ := bif_s e
        simp only [Bool.and_eq_true] at c1
        exact Nat.le_of_ble_eq_true c1.1.1.1.1
      have hmn : m ≤ (stP S O nt).h.n := by show m ≤ (heapO O).n; rw [heapO_n]; exact h4
      have k1 := (goTo_kp hg).1
      have k1' : (stP S O nt).h.n ≤ s.h.n := k1
      obtain ⟨_, hl⟩ := end_in (F := F) (k := k) (R := fun _ _ => True) g2 he (fun _ _ _ _ _ _ => trivial)
      have fin : LeavesInM F k P fn a'.tmps (RPost V' R.c R.O m l0 φ0 w0) a'.defers .returning w' := (end_in g2 he fun u φ2 w2 r1 r2 r3 => by
        have x1 := h1.trans g1 hmn (Nat.le_refl _) (by rw [hl] at hlw; exact hlw)
        have x2 := x1.trans r1 (by omega) (Nat.le_refl _) (by rw [hl] at hlw; exact hlw)
        exact chkR_post x2 r2 r3 h3 e hq).1
      rcases hce with rfl | rfl
      · exact fin
      · exact fin
    · cases e
  unfold finC at e
  split at e
  · cases e
  · cases e
  · rename_i ce s hne hne2 hg
    cases ce with
    | normal => exact main _ s (.inl rfl) hg e
    | ret => exact main _ s (.inr rfl) hg e
    | exit i => exact absurd rfl (hne i)
    | goto l => exact absurd rfl (hne2 l)
  · cases e
end
theorem fun_in {P : Program} {f : FuncId} {fn : Func} {cd : Code} {V V' : Val} {args : List CV} {O N : Objs} {r : CV} {l0 : Nat} (hfn : P.funcs[f]? = some fn) (hb : fn.body = some cd) (hname : (fn.name == "runtime.NumGoroutine") = false) (hl : args.length ≤ fn.ntmps)
    (h : ∀ φ0 w0 a w, AtS V (argSl 0 args) O fn.ntmps O.length l0 φ0 w0 a w → cd.wpIn Fence.wide 0 P (bodyPostM Fence.wide 0 P fn (RPost V' r N O.length l0 φ0 w0)) a w) : CallOk P f V args O l0 V' r N := by
  refine ⟨⟨fn, cd, hfn, hb, hname⟩, fun φ args' w hh ha => callsIn_wide.1 (?_ : CallsIn Fence.wide 0 P f ⟨args'⟩ w _)⟩
  have hlen := @VRs.len V _ _ _ ha
  refine callsIn_of_wp_marks hfn hb trivial (h φ w _ w ⟨φ, @Went.refl V φ _ _ w, @SR.mk V _ _ _ _ (@TR.mk V _ _ _ _ (by show _ = fn.ntmps; simp; omega) fun d c e => ?_) .nil hh, fun b p e => ?_, Nat.le_refl _⟩) rfl
  · obtain ⟨_, hd⟩ := argSl_mem (slotsT_mem e)
    rw [Nat.sub_zero] at hd
    obtain ⟨v, hv, hr⟩ := @VRs.get V _ _ _ ha _ _ hd
    refine ⟨v, ?_, hr⟩
    have hlt : d < args'.length := (List.getElem?_eq_some_iff.1 hv).1
    rw [Array.getElem?_append_left (by simpa using hlt)]
    simpa using hv
  · have := (@HR.lt V _ _ _ hh b p e).1
    rwa [heapO_n] at this
end Go.Proofs.YthffbfkcmbgghaaGreat.Cm
