/-
  A region that draws its order, with one store among its first operations that the last one does not force: an invariant of the world, before the store and behind it.
-/
import Derived.Test.YtghglgaimhfedaaQB
namespace Go.Proofs.Ytghglgaimhfedaa
open Go.RowKit Go.Shelf

inductive Kd where
  | any | early | st
abbrev VPure := Value → Prop
def vAt : List VPure → Nat → VPure
  | [], _ => fun _ => True
  | p :: _, 0 => p
  | _ :: r, k + 1 => vAt r k
def needsV (sp : List VPure) (dst : List Nat) (x : Nat → Value) : List Nat → Prop
  | [] => True
  | j :: r => vAt sp j (x (dAt dst j)) ∧ needsV sp dst x r
def allV : List VPure → List Nat → (Nat → Value) → Prop
  | p :: r, d :: ds, x => p (x d) ∧ allV r ds x
  | _, _, _ => True
theorem needsV_of {sp : List VPure} {dst : List Nat} {x : Nat → Value} : ∀ {n : List Nat}, (∀ j ∈ n, vAt sp j (x (dAt dst j))) → needsV sp dst x n
  | [], _ => trivial
  | j :: r, h => ⟨h j (by simp), needsV_of fun i hi => h i (by simp [hi])⟩
theorem allV_of : ∀ {sp : List VPure} {dst : List Nat} {x : Nat → Value}, (∀ j, j < dst.length → vAt sp j (x (dAt dst j))) → allV sp dst x
  | [], _, _, _ => trivial
  | _ :: _, [], _, _ => trivial
  | p :: r, d :: ds, x, h => ⟨h 0 (by simp), allV_of fun j hj => h (j + 1) (by simpa using hj)⟩
/-- What is asked of one step. -/
def stepI (P : Program) (a : Act) (I : Bool → World → Prop) (sp : List VPure) (dst : List Nat) (o : Oper) (n : List Nat) (k : Nat) : Kd → Prop
  | .any => ∀ x w b, I b w → needsV sp dst x n → mono P o (putX a dst x) w fun v w' => vAt sp k v ∧ I b w'
  | .early => ∀ x w, I false w → needsV sp dst x n → mono P o (putX a dst x) w fun v w' => vAt sp k v ∧ I false w'
  | .st => ∀ x w, I false w → needsV sp dst x n → mono P o (putX a dst x) w fun _ w' => I true w'
def stepsI (P : Program) (a : Act) (I : Bool → World → Prop) (sp : List VPure) (dst : List Nat) : List Oper → List (List Nat) → List Kd → Nat → Prop
  | o :: r, n :: ns, d :: ds, k => stepI P a I sp dst o n k d ∧ stepsI P a I sp dst r ns ds (k + 1)
  | _, _, _, _ => True
theorem stepsI_at {P : Program} {a : Act} {I : Bool → World → Prop} {sp : List VPure} {dst : List Nat} : ∀ {l : List Oper} {nd : List (List Nat)} {kd : List Kd} {k : Nat}, stepsI P a I sp dst l nd kd k → ∀ (i : Nat) (o : Oper) (n : List Nat) (d : Kd), l[i]? = some o → nd[i]? = some n → kd[i]? = some d →
    stepI P a I sp dst o n (k + i) d
  | [], _, _, _, _, i, o, n, d, h, _, _ => by simp at h
  | _ :: _, [], _, _, _, i, o, n, d, _, h, _ => by simp at h
  | _ :: _, _ :: _, [], _, _, i, o, n, d, _, _, h => by simp at h
  | _ :: _, _ :: _, _ :: _, k, hs, 0, o, n, d, h1, h2, h3 => by
    simp only [List.getElem?_cons_zero, Option.some.injEq] at h1 h2 h3
    subst h1; subst h2; subst h3
    exact hs.1
  | _ :: _, _ :: _, _ :: _, k, hs, i + 1, o, n, d, h1, h2, h3 => by
    simp only [List.getElem?_cons_succ] at h1 h2 h3
    have := stepsI_at hs.2 i o n d h1 h2 h3
    rwa [show k + 1 + i = k + (i + 1) by omega] at this
/-- Each of the first n operations: what it waits for, and of which kind it is; s is the store. -/
def headI (ops : Array Oper) (n s : Nat) (dst : List Nat) (nd : List (List Nat)) (kd : List Kd) : Bool :=
  (List.range n).all fun k => match ops[k]?, nd[k]?, kd[k]?, ops[s]? with
    | some o, some need, some d, some os => o.guard.isNone && (o.after.all fun e => !Region.binds .any e || decide (e.on < k)) &&
        (need.all fun j => decide (j < n) && decide (j ≠ s) && o.after.any fun e => Region.binds .any e && e.on == j) && (match o.op with | .defer _ => false | _ => true) &&
        (match d with
          | .any => decide (k ≠ s) && o.dst == some (dAt dst k)
          | .early => decide (k ≠ s) && (o.dst == some (dAt dst k) && os.after.any fun e => Region.binds .any e && e.on == k)
          | .st => decide (k = s) && o.dst == none)
    | _, _, _, _ => false
def monoI (ops : Array Oper) (n s : Nat) (dst : List Nat) (nd : List (List Nat)) (kd : List Kd) : Bool :=
  decide (n < ops.size) && Region.sinkB .any ops n && Region.chainB .any ops n && Region.seqB .any ops (ops.size - n) n (canon ops.size n) && headI ops n s dst nd kd && distinctB dst && dst.length == n && decide (s < n)
section
variable {P : Program} {ops : Array Oper} {Q : Exit → Act → World → Prop} {a : Act}
structure HeadsI (P : Program) (ops : Array Oper) (a : Act) (I : Bool → World → Prop) (n s : Nat) (sp : List VPure) (dst : List Nat) : Prop where
  lt : n < ops.size
  sink : Region.sinkB .any ops n = true
  chain : Region.chainB .any ops n = true
  len : dst.length = n
  distinct : distinctB dst = true
  sn : s < n
  step : ∀ k, k < n → ∃ o, ops[k]? = some o ∧ o.guard = none ∧ (∀ e ∈ o.after, Region.binds .any e = true → e.on < k) ∧ (∀ c : Call, o.op ≠ .defer c) ∧
    ∃ need : List Nat, (∀ j ∈ need, j < n ∧ j ≠ s ∧ ∃ e ∈ o.after, Region.binds .any e = true ∧ e.on = j) ∧
      ((k ≠ s ∧ o.dst = some (dAt dst k) ∧ (stepI P a I sp dst o need k .any ∨ ((∃ os, ops[s]? = some os ∧ ∃ e ∈ os.after, Region.binds .any e = true ∧ e.on = k) ∧ stepI P a I sp dst o need k .early))) ∨
       (k = s ∧ o.dst = none ∧ stepI P a I sp dst o need k .st))
theorem headsI_ready {I : Bool → World → Prop} {n s : Nat} {sp : List VPure} {dst : List Nat} (H : HeadsI P ops a I n s sp dst) {listed : Array Bool} (h : left listed n ≠ 0) (inv : HeadInv .any ops n listed) :
    Region.ready .any ops listed ≠ [] ∧ ∀ i ∈ Region.ready .any ops listed, i < n := by
  obtain ⟨i, h1, h2, h3⟩ := left_least listed n h
  obtain ⟨o, ho, _, hlt, _⟩ := H.step i h1
  have hi : i ∈ Region.ready .any ops listed := mem_ready.2 ⟨h2, o, ho, fun e he hb => by
    have h4 := hlt e he hb
    have h5 := h3 e.on h4
    have hs : e.on < listed.size := by rw [inv.size]; have := H.lt; omega
    simpa [hs] using h5⟩
  refine ⟨fun e => (by rw [e] at hi; cases hi), fun j hj => ?_⟩
  rcases Nat.lt_or_ge j n with h6 | h6
  · exact h6
  · exact absurd hj (tail_waits H.sink H.chain H.lt inv _ i rfl h1 h2 j h6)
theorem wpAny_inv {I : Bool → World → Prop} {n s : Nat} {sp : List VPure} {dst : List Nat} (H : HeadsI P ops a I n s sp dst) {g : Nat}
    (hfin : ∀ x w, I true w → (∀ j, j < n → j ≠ s → vAt sp j (x (dAt dst j))) → wpAny P .any ops Q g (canon ops.size n) (putX a dst x) w) :
    ∀ (f : Nat) (listed : Array Bool) (x : Nat → Value) (w : World), left listed n = f → HeadInv .any ops n listed → I (listed.getD s true) w → (∀ j, j < n → j ≠ s → listed.getD j true = true → vAt sp j (x (dAt dst j))) →
      wpAny P .any ops Q (f + g) listed (putX a dst x) w
  | 0, listed, x, w, hf, inv, hI, hall => by
    have hz := left_zero listed n hf
    rw [hz s H.sn] at hI
    rw [Nat.zero_add, canon_of H.lt inv hf]
    exact hfin x w hI fun j hj hne => hall j hj hne (hz j hj)
  | f + 1, listed, x, w, hf, inv, hI, hall => by
    obtain ⟨hne, hlt⟩ := headsI_ready H (by omega) inv
    rw [show f + 1 + g = (f + g) + 1 by omega]
    refine ⟨fun h => absurd h hne, fun i hi => ?_⟩
    have hin := hlt i hi
    obtain ⟨hun, o', ho', hdone⟩ := mem_ready.1 hi
    obtain ⟨o, ho, hg, hlow, hnd, need, hneed, hstep⟩ := H.step i hin
    have : o' = o := Option.some.inj (ho'.symm.trans ho)
    subst this
    have hN : needsV sp dst x need := needsV_of fun j hj => by
      obtain ⟨h1, h2, e, he, hbd, rfl⟩ := hneed j hj
      refine hall _ h1 h2 ?_
      have h3 := hdone e he hbd
      have hs : e.on < listed.size := by rw [inv.size]; have := H.lt; omega
      simpa [hs] using h3
    have hl := left_set listed i hun n hin
    unfold wpOp
    simp only [ho]
    rw [if_pos (by simp [Region.wanted, hg])]
    refine .inl ?_
    rcases hstep with ⟨his, hd, hst⟩ | ⟨his, hd, hst⟩
    · have hsi : (listed.setIfInBounds i true).getD s true = listed.getD s true := getD_set_ne true (fun h => his h)
      have hm : mono P o' (putX a dst x) w fun v w' => vAt sp i v ∧ I (listed.getD s true) w' := by
        rcases hst with h | ⟨⟨os, hos, e, he, hbd, hon⟩, h⟩
        · exact h x w _ hI hN
        · have hsf : listed.getD s true = false := by
            cases hc : listed.getD s true with
            | false => rfl
            | true =>
              have hss : s < listed.size := by rw [inv.size]; have := H.lt; have := H.sn; omega
              have h2 := inv.closed s os hos (by simpa [hss] using hc) e he hbd
              rw [hon] at h2
              have hs : i < listed.size := by rw [inv.size]; have := H.lt; omega
              simp [hs] at h2 hun
              rw [h2] at hun; cases hun
          rw [hsf] at hI ⊢
          exact h x w hI hN
      refine wp_of_mono hm ?_
      rintro v w' ⟨hv, hI'⟩
      rw [hd, putX_put (by rw [dAt_get (by rw [H.len]; exact hin)]; exact List.getElem_mem _)]
      refine wpAny_inv H hfin f _ _ w' (by omega) (inv.set hi hin) (by rw [hsi]; exact hI') ?_
      intro j hj hjs hlj
      unfold upd
      by_cases e : j = i
      · subst e; rw [if_pos rfl]; exact hv
      · rw [if_neg (distinct_ne H.distinct j i (by rw [H.len]; exact hj) (by rw [H.len]; exact hin) e)]
        rw [getD_set_ne true (fun h => e h.symm)] at hlj
        exact hall j hj hjs hlj
    · subst his
      rw [hun] at hI
      refine wp_of_mono (hst x w hI hN) ?_
      intro v w' hI'
      rw [hd]
      have hput : (putX a dst x).put none v = putX a dst x := rfl
      rw [hput]
      have hb : i < listed.size := by rw [inv.size]; have := H.lt; omega
      refine wpAny_inv H hfin f _ _ w' (by omega) (inv.set hi hin) (by rw [show (listed.setIfInBounds i true).getD i true = true by simp [hb]]; exact hI') ?_
      intro j hj hjs hlj
      rw [getD_set_ne true (fun h => hjs h.symm)] at hlj
      exact hall j hj hjs hlj
theorem headsI_of {I : Bool → World → Prop} {l : List Oper} {n s : Nat} {sp : List VPure} {dst : List Nat} {nd : List (List Nat)} {kd : List Kd} (hB : monoI l.toArray n s dst nd kd = true) (hs : stepsI P a I sp dst (l.take n) nd kd 0) :
    HeadsI P l.toArray a I n s sp dst ∧ Region.seqB .any l.toArray (l.toArray.size - n) n (canon l.toArray.size n) = true := by
  simp only [monoI, Bool.and_eq_true, decide_eq_true_eq, beq_iff_eq] at hB
  obtain ⟨⟨⟨⟨⟨⟨⟨h1, h2⟩, h3⟩, h4⟩, h5⟩, h6⟩, h7⟩, h9⟩ := hB
  refine ⟨⟨h1, h2, h3, h7, h6, h9, fun k hk => ?_⟩, h4⟩
  have h8 := List.all_eq_true.1 h5 k (List.mem_range.2 hk)
  have hk' : k < l.toArray.size := by omega
  have ho : l.toArray[k]? = some l.toArray[k] := Array.getElem?_eq_getElem hk'
  have hos : l.toArray[s]? = some (l.toArray[s]'(by omega)) := Array.getElem?_eq_getElem (by omega)
  rw [ho, hos] at h8
  cases hn : nd[k]? with
  | none => rw [hn] at h8; cases h8
  | some need =>
    rw [hn] at h8
    cases hkd : kd[k]? with
    | none => rw [hkd] at h8; cases h8
    | some d =>
      rw [hkd] at h8
      simp only [Bool.and_eq_true, Option.isNone_iff_eq_none] at h8
      obtain ⟨⟨⟨⟨g1, g3⟩, g4⟩, g5⟩, g6⟩ := h8
      have hst := stepsI_at hs k l.toArray[k] need d (by rw [List.getElem?_take, if_pos hk]; simp) hn hkd
      rw [Nat.zero_add] at hst
      refine ⟨_, ho, g1, fun e he hb => ?_, fun c hc => (by rw [hc] at g5; cases g5), need, fun j hj => ?_, ?_⟩
      · have := Array.all_eq_true'.1 g3 e he
        simp only [Bool.or_eq_true, Bool.not_eq_true', decide_eq_true_eq] at this
        rcases this with h | h
        · rw [hb] at h; cases h
        · exact h
      · have := List.all_eq_true.1 g4 j hj
        simp only [Bool.and_eq_true, decide_eq_true_eq] at this
        obtain ⟨e, he, hbe⟩ := Array.any_eq_true'.1 this.2
        simp only [Bool.and_eq_true, beq_iff_eq] at hbe
        exact ⟨this.1.1, this.1.2, e, he, hbe.1, hbe.2⟩
      · cases d with
        | any =>
          simp only [Bool.and_eq_true, decide_eq_true_eq, beq_iff_eq] at g6
          exact .inl ⟨g6.1, g6.2, .inl hst⟩
        | early =>
          simp only [Bool.and_eq_true, decide_eq_true_eq, beq_iff_eq] at g6
          obtain ⟨e, he, hbe⟩ := Array.any_eq_true'.1 g6.2.2
          simp only [Bool.and_eq_true, beq_iff_eq] at hbe
          exact .inl ⟨g6.1, g6.2.1, .inr ⟨⟨_, hos, e, he, hbe.1, hbe.2⟩, hst⟩⟩
        | st =>
          simp only [Bool.and_eq_true, decide_eq_true_eq, beq_iff_eq] at g6
          exact .inr ⟨g6.1, g6.2, hst⟩
/-- The region: of the first n operations the one at s is a store; I tells the world before it and behind it. -/
theorem wp_region_inv {id : Nat} {w : World} {l : List Oper} (n s : Nat) (dst : List Nat) (nd : List (List Nat)) (kd : List Kd) (sp : List VPure) (I : Bool → World → Prop) (hm : P.follows .mixedOrders = true) (hB : monoI l.toArray n s dst nd kd = true)
    (hs : stepsI P a I sp dst (l.take n) nd kd 0) (hsp : ∀ v, vAt sp s v) (h0 : I false w.drew) (hfin : ∀ x w', I true w' → allV sp dst x → wpList P l.toArray Q (l.drop n) (putX a dst x) w') : (Code.region id l.toArray true).wp P Q a w := by
  obtain ⟨H, hseq⟩ := headsI_of hB hs
  have hdl : (l.drop n).length = l.toArray.size - n := by simp
  refine wp_region_any hm ?_
  have hn : n < l.toArray.size := H.lt
  have hrep : ∀ j, j < n → (Array.replicate l.toArray.size false).getD j true = false := fun j hj => getD_in (by simp only [Array.size_replicate]; omega) (getD_replicate_false _ _)
  have := wpAny_inv (Q := Q) H (g := l.toArray.size - n) (fun x w' hb hall => by
    have := wpAny_of_seq (md := .any) (Q' := Q) (l.drop n) n (canon l.toArray.size n) (putX a dst x) w' (fun j => by simp [List.getElem?_drop]) (by rw [hdl]; exact hseq) (hfin x w' hb (allV_of (by
      rw [H.len]
      intro j hj
      by_cases e : j = s
      · subst e; exact hsp _
      · exact hall j hj e)))
    rwa [hdl] at this) n (Array.replicate l.toArray.size false) (fun t => a.tmps.getD t undef) w.drew (left_all _ _ (by omega)) (inv_start n _ rfl) (by rw [hrep s H.sn]; exact h0) (fun j hj _ hl => by
      rw [hrep j hj] at hl
      cases hl)
  rw [putX_start, show n + (l.toArray.size - n) = l.toArray.size by omega] at this
  exact this
end
end Go.Proofs.Ytghglgaimhfedaa
