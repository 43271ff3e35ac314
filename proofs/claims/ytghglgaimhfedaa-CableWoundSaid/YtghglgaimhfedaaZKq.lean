/-
  A region that draws its order, two of whose operations write (two appends to rows of the call's own, say), in whichever order: an invariant of the world that knows what each of the two has given.
-/
import Derived.Test.YtghglgaimhfedaaQB
namespace Go.Proofs.Ytghglgaimhfedaa
open Go.RowKit Go.Shelf

inductive Kw where
  | any | one | two
abbrev Inv2 := Option Value → Option Value → World → Prop
/-- What one of the two has given, if it is done: and it is done if it is waited for. -/
def Gave (x : Nat → Value) (dst : List Nat) (n : List Nat) (s : Nat) (S : Option Value) : Prop := (S = none ∨ S = some (x (dAt dst s))) ∧ (s ∈ n → S = some (x (dAt dst s)))
/-- What is asked of one step. -/
def stepR (P : Program) (a : Act) (I : Inv2) (R : World → World → Prop) (sp : List VP) (dst : List Nat) (s t c1 c2 : Nat) (wt : List Nat) (o : Oper) (n : List Nat) (k : Nat) : Kw → Prop
  | .any => ∀ x w S T, I S T w → Gave x dst n s S → Gave x dst n t T → (k ∈ wt → x (dAt dst c1) = a.tmps.getD (dAt dst c1) undef) → needs sp dst x w n → mono P o (putX a dst x) w fun v w' => sAt sp k v w' ∧ Below w.heap.size w w' ∧ (k = c1 → v = x (dAt dst c2))
  | .one => ∀ x w T, I none T w → Gave x dst n t T → (k ∈ wt → x (dAt dst c1) = a.tmps.getD (dAt dst c1) undef) → needs sp dst x w n → mono P o (putX a dst x) w fun v w' => sAt sp k v w' ∧ R w w' ∧ I (some v) T w'
  | .two => ∀ x w S, I S none w → Gave x dst n s S → (k ∈ wt → x (dAt dst c1) = a.tmps.getD (dAt dst c1) undef) → needs sp dst x w n → mono P o (putX a dst x) w fun v w' => sAt sp k v w' ∧ R w w' ∧ I S (some v) w'
def stepsR (P : Program) (a : Act) (I : Inv2) (R : World → World → Prop) (sp : List VP) (dst : List Nat) (s t c1 c2 : Nat) (wt : List Nat) : List Oper → List (List Nat) → List Kw → Nat → Prop
  | o :: r, n :: ns, d :: ds, k => stepR P a I R sp dst s t c1 c2 wt o n k d ∧ stepsR P a I R sp dst s t c1 c2 wt r ns ds (k + 1)
  | _, _, _, _ => True
theorem stepsR_at {P : Program} {a : Act} {I : Inv2} {R : World → World → Prop} {sp : List VP} {dst : List Nat} {s t c1 c2 : Nat} {wt : List Nat} : ∀ {l : List Oper} {nd : List (List Nat)} {kd : List Kw} {k : Nat}, stepsR P a I R sp dst s t c1 c2 wt l nd kd k → ∀ (i : Nat) (o : Oper) (n : List Nat) (d : Kw), l[i]? = some o → nd[i]? = some n → kd[i]? = some d →
    stepR P a I R sp dst s t c1 c2 wt o n (k + i) d
  | [], _, _, _, _, i, o, n, d, h, _, _ => by simp at h
  | _ :: _, [], _, _, _, i, o, n, d, _, h, _ => by simp at h
  | _ :: _, _ :: _, [], _, _, i, o, n, d, _, _, h => by simp at h
  | _ :: _, _ :: _, _ :: _, k, hs, 0, o, n, d, h1, h2, h3 => by
    simp only [List.getElem?_cons_zero, Option.some.injEq] at h1 h2 h3
    subst h1; subst h2; subst h3
    exact hs.1
  | _ :: _, _ :: _, _ :: _, k, hs, i + 1, o, n, d, h1, h2, h3 => by
    simp only [List.getElem?_cons_succ] at h1 h2 h3
    have := stepsR_at hs.2 i o n d h1 h2 h3
    rwa [show k + 1 + i = k + (i + 1) by omega] at this
/-- The frame behind a letter: what is read of it is said ahead. -/
theorem stepsR_gen {P : Program} {a : Act} {I : Inv2} {R : World → World → Prop} {sp : List VP} {dst : List Nat} {s t c1 c2 : Nat} {wt : List Nat} {l : List Oper} {nd : List (List Nat)} {kd : List Kw} {k : Nat} (F : Act → Prop) (ha : F a)
    (h : ∀ a', F a' → stepsR P a' I R sp dst s t c1 c2 wt l nd kd k) : stepsR P a I R sp dst s t c1 c2 wt l nd kd k := h a ha
theorem steps_gen {P : Program} {a : Act} {w0 : World} {sp : List VP} {dst : List Nat} {l : List Oper} {nd : List (List Nat)} {k : Nat} (F : Act → Prop) (ha : F a) (h : ∀ a', F a' → steps P a' w0 sp dst l nd k) : steps P a w0 sp dst l nd k := h a ha
theorem tmp_in {a : Act} {dst : List Nat} {x : Nat → Value} {d n : Nat} (hs : a.tmps.size = n) (hd : d ∈ dst) (hl : d < n) : (putX a dst x).tmps[d]? = some (x d) := by
  unfold putX
  rw [setX_get, if_pos ⟨hd, by omega⟩]
theorem tmp_out {a : Act} {dst : List Nat} {x : Nat → Value} {d : Nat} {v : Value} (h : a.tmps[d]? = some v) (hd : d ∉ dst) : (putX a dst x).tmps[d]? = some v := by
  unfold putX
  rw [setX_get, if_neg (fun hh => hd hh.1)]
  exact h
def stabAllR (R : World → World → Prop) : List VP → Prop
  | [] => True
  | p :: r => (∀ v w w', p v w → R w w' → p v w') ∧ stabAllR R r
theorem stabAllR_at {R : World → World → Prop} : ∀ {sp : List VP}, stabAllR R sp → ∀ k v w w', sAt sp k v w → R w w' → sAt sp k v w'
  | [], _, _, _, _, _, _, _ => trivial
  | _ :: _, h, 0, v, w, w', a, b => h.1 v w w' a b
  | _ :: _, h, k + 1, v, w, w', a, b => stabAllR_at h.2 k v w w' a b
/-- Each of the first n operations: what it waits for, and of which kind it is; s and t are the two that write. -/
def headR (ops : Array Oper) (n s t c1 c2 : Nat) (dst : List Nat) (nd : List (List Nat)) (kd : List Kw) : Bool :=
  (List.range n).all fun k => match ops[k]?, nd[k]?, kd[k]? with
    | some o, some need, some d => o.guard.isNone && o.dst == some (dAt dst k) && (o.after.all fun e => !Region.binds .any e || decide (e.on < k)) &&
        (need.all fun j => decide (j < n) && o.after.any fun e => Region.binds .any e && e.on == j) && (match o.op with | .defer _ => false | _ => true) &&
        (match d with
          | .any => decide (k ≠ s) && decide (k ≠ t) && (!decide (k = c1) || need.contains c2)
          | .one => decide (k = s) && decide (k ≠ t)
          | .two => decide (k = t) && decide (k ≠ s))
    | _, _, _ => false
def monoR (ops : Array Oper) (n s t c1 c2 : Nat) (wt : List Nat) (dst : List Nat) (nd : List (List Nat)) (kd : List Kw) : Bool :=
  decide (n < ops.size) && Region.sinkB .any ops n && Region.chainB .any ops n && Region.seqB .any ops (ops.size - n) n (canon ops.size n) && headR ops n s t c1 c2 dst nd kd && distinctB dst && dst.length == n && decide (s < n) && decide (t < n) && decide (c1 < n) && decide (c1 ≠ s) && decide (c1 ≠ t) && (match ops[c1]? with | some o => wt.all fun k => o.after.any fun e => Region.binds .any e && e.on == k | none => false)
section
variable {P : Program} {ops : Array Oper} {Q : Exit → Act → World → Prop} {a : Act}
structure HeadsR (P : Program) (ops : Array Oper) (a : Act) (I : Inv2) (R : World → World → Prop) (n s t c1 c2 : Nat) (wt : List Nat) (sp : List VP) (dst : List Nat) : Prop where
  lt : n < ops.size
  sink : Region.sinkB .any ops n = true
  chain : Region.chainB .any ops n = true
  len : dst.length = n
  distinct : distinctB dst = true
  sn : s < n
  tn : t < n
  cn : c1 < n
  cs : c1 ≠ s
  ct : c1 ≠ t
  cw : ∃ o, ops[c1]? = some o ∧ ∀ k ∈ wt, ∃ e ∈ o.after, Region.binds .any e = true ∧ e.on = k
  stab : stabAll sp
  stabR : stabAllR R sp
  keep : ∀ S T w w', I S T w → Below w.heap.size w w' → I S T w'
  step : ∀ k, k < n → ∃ o, ops[k]? = some o ∧ o.guard = none ∧ o.dst = some (dAt dst k) ∧ (∀ e ∈ o.after, Region.binds .any e = true → e.on < k) ∧ (∀ c : Call, o.op ≠ .defer c) ∧
    ∃ need : List Nat, (∀ j ∈ need, j < n ∧ ∃ e ∈ o.after, Region.binds .any e = true ∧ e.on = j) ∧
      (((k ≠ s ∧ k ≠ t ∧ (k = c1 → c2 ∈ need)) ∧ stepR P a I R sp dst s t c1 c2 wt o need k .any) ∨ ((k = s ∧ k ≠ t) ∧ stepR P a I R sp dst s t c1 c2 wt o need k .one) ∨ ((k = t ∧ k ≠ s) ∧ stepR P a I R sp dst s t c1 c2 wt o need k .two))
theorem headsR_ready {I : Inv2} {R : World → World → Prop} {n s t c1 c2 : Nat} {wt : List Nat} {sp : List VP} {dst : List Nat} (H : HeadsR P ops a I R n s t c1 c2 wt sp dst) {listed : Array Bool} (h : left listed n ≠ 0) (inv : HeadInv .any ops n listed) :
    Region.ready .any ops listed ≠ [] ∧ ∀ i ∈ Region.ready .any ops listed, i < n := by
  obtain ⟨i, h1, h2, h3⟩ := left_least listed n h
  obtain ⟨o, ho, _, _, hlt, _⟩ := H.step i h1
  have hi : i ∈ Region.ready .any ops listed := mem_ready.2 ⟨h2, o, ho, fun e he hb => by
    have h4 := hlt e he hb
    have h5 := h3 e.on h4
    have hs : e.on < listed.size := by rw [inv.size]; have := H.lt; omega
    simpa [hs] using h5⟩
  refine ⟨fun e => (by rw [e] at hi; cases hi), fun j hj => ?_⟩
  rcases Nat.lt_or_ge j n with h6 | h6
  · exact h6
  · exact absurd hj (tail_waits H.sink H.chain H.lt inv _ i rfl h1 h2 j h6)
def givenAt (listed : Array Bool) (x : Nat → Value) (dst : List Nat) (s : Nat) : Option Value := if listed.getD s true = true then some (x (dAt dst s)) else none
theorem given_other {listed : Array Bool} {x : Nat → Value} {dst : List Nat} {i s : Nat} {v : Value} (hd : distinctB dst = true) (hi : i < dst.length) (hs : s < dst.length) (h : i ≠ s) :
    givenAt (listed.setIfInBounds i true) (upd x (dAt dst i) v) dst s = givenAt listed x dst s := by
  unfold givenAt
  rw [getD_set_ne true h]
  unfold upd
  rw [if_neg (distinct_ne hd s i hs hi (fun e => h e.symm))]
theorem given_own {listed : Array Bool} {x : Nat → Value} {dst : List Nat} {i : Nat} {v : Value} (hi : i < listed.size) : givenAt (listed.setIfInBounds i true) (upd x (dAt dst i) v) dst i = some v := by
  unfold givenAt upd
  rw [if_pos (by simp [hi]), if_pos rfl]
theorem wpAny_rows {I : Inv2} {R : World → World → Prop} {n s t c1 c2 : Nat} {wt : List Nat} {sp : List VP} {dst : List Nat} (H : HeadsR P ops a I R n s t c1 c2 wt sp dst) {g : Nat}
    (hfin : ∀ x w, I (some (x (dAt dst s))) (some (x (dAt dst t))) w → (∀ j, j < n → sAt sp j (x (dAt dst j)) w) → x (dAt dst c1) = x (dAt dst c2) → wpAny P .any ops Q g (canon ops.size n) (putX a dst x) w) :
    ∀ (f : Nat) (listed : Array Bool) (x : Nat → Value) (w : World), left listed n = f → HeadInv .any ops n listed → I (givenAt listed x dst s) (givenAt listed x dst t) w → (∀ j, j < n → listed.getD j true = true → sAt sp j (x (dAt dst j)) w) → (listed.getD c1 true = true → (c2 < n ∧ listed.getD c2 true = true) ∧ x (dAt dst c1) = x (dAt dst c2)) → (listed.getD c1 true = false → x (dAt dst c1) = a.tmps.getD (dAt dst c1) undef) →
      wpAny P .any ops Q (f + g) listed (putX a dst x) w
  | 0, listed, x, w, hf, inv, hI, hall, hc, _ => by
    have hz := left_zero listed n hf
    unfold givenAt at hI
    rw [if_pos (hz s H.sn), if_pos (hz t H.tn)] at hI
    rw [Nat.zero_add, canon_of H.lt inv hf]
    exact hfin x w hI (fun j hj => hall j hj (hz j hj)) (hc (hz c1 H.cn)).2
  | f + 1, listed, x, w, hf, inv, hI, hall, hc, hu => by
    obtain ⟨hne, hlt⟩ := headsR_ready H (by omega) inv
    rw [show f + 1 + g = (f + g) + 1 by omega]
    refine ⟨fun h => absurd h hne, fun i hi => ?_⟩
    have hin := hlt i hi
    obtain ⟨hun, o', ho', hdone⟩ := mem_ready.1 hi
    obtain ⟨o, ho, hg, hd, hlow, hnd, need, hneed, hstep⟩ := H.step i hin
    have : o' = o := Option.some.inj (ho'.symm.trans ho)
    subst this
    have hN : needs sp dst x w need := needs_of fun j hj => by
      obtain ⟨h1, e, he, hbd, rfl⟩ := hneed j hj
      refine hall _ h1 ?_
      have h3 := hdone e he hbd
      have hs : e.on < listed.size := by rw [inv.size]; have := H.lt; omega
      simpa [hs] using h3
    have hl := left_set listed i hun n hin
    have hb : i < listed.size := by rw [inv.size]; have := H.lt; omega
    have hid : i < dst.length := by rw [H.len]; exact hin
    have hsd : s < dst.length := by rw [H.len]; exact H.sn
    have htd : t < dst.length := by rw [H.len]; exact H.tn
    have hgave : ∀ j, j < n → Gave x dst need j (givenAt listed x dst j) := fun j hj => by
      unfold Gave givenAt
      refine ⟨?_, fun hm => ?_⟩
      · by_cases h : listed.getD j true = true
        · rw [if_pos h]; exact .inr rfl
        · rw [if_neg h]; exact .inl rfl
      · obtain ⟨h1, e, he, hbd, rfl⟩ := hneed j hm
        have h3 := hdone e he hbd
        have hs : e.on < listed.size := by rw [inv.size]; have := H.lt; omega
        rw [if_pos (by simpa [hs] using h3)]
    have hnone : givenAt listed x dst i = none := by unfold givenAt; rw [hun]; rfl
    have hset : ∀ v w', (∀ j, j < n → listed.getD j true = true → sAt sp j (x (dAt dst j)) w') → sAt sp i v w' → ∀ j, j < n → (listed.setIfInBounds i true).getD j true = true → sAt sp j (upd x (dAt dst i) v (dAt dst j)) w' := by
      intro v w' h1 h2 j hj hlj
      unfold upd
      by_cases e : j = i
      · subst e; rw [if_pos rfl]; exact h2
      · rw [if_neg (distinct_ne H.distinct j i (by rw [H.len]; exact hj) (by rw [H.len]; exact hin) e)]
        rw [getD_set_ne true (fun h => e h.symm)] at hlj
        exact h1 j hj hlj
    have hcset : ∀ v, i ≠ c1 → (listed.setIfInBounds i true).getD c1 true = true → (c2 < n ∧ (listed.setIfInBounds i true).getD c2 true = true) ∧ upd x (dAt dst i) v (dAt dst c1) = upd x (dAt dst i) v (dAt dst c2) := by
      intro v hic hl1
      rw [getD_set_ne true hic] at hl1
      obtain ⟨⟨h1, h2⟩, h3⟩ := hc hl1
      have hi2 : i ≠ c2 := fun e => by rw [e, h2] at hun; cases hun
      refine ⟨⟨h1, by rw [getD_set_ne true hi2]; exact h2⟩, ?_⟩
      unfold upd
      rw [if_neg (distinct_ne H.distinct c1 i (by rw [H.len]; exact H.cn) hid (fun e => hic e.symm)), if_neg (distinct_ne H.distinct c2 i (by rw [H.len]; exact h1) hid (fun e => hi2 e.symm))]
      exact h3
    have hU : i ∈ wt → x (dAt dst c1) = a.tmps.getD (dAt dst c1) undef := fun hm => hu (by
      obtain ⟨oc, hoc, hw⟩ := H.cw
      obtain ⟨e, he, hbd, hon⟩ := hw i hm
      cases hl : listed.getD c1 true with
      | false => rfl
      | true =>
        have hss : c1 < listed.size := by rw [inv.size]; have := H.lt; have := H.cn; omega
        have h2 := inv.closed c1 oc hoc (by simpa [hss] using hl) e he hbd
        rw [hon] at h2
        simp [hb] at h2 hun
        rw [h2] at hun; cases hun)
    have huset : ∀ v, (listed.setIfInBounds i true).getD c1 true = false → upd x (dAt dst i) v (dAt dst c1) = a.tmps.getD (dAt dst c1) undef := by
      intro v hl1
      by_cases hic : i = c1
      · subst hic; simp [hb] at hl1
      · rw [getD_set_ne true hic] at hl1
        unfold upd
        rw [if_neg (distinct_ne H.distinct c1 i (by rw [H.len]; exact H.cn) hid (fun e => hic e.symm))]
        exact hu hl1
    unfold wpOp
    simp only [ho]
    rw [if_pos (by simp [Region.wanted, hg])]
    refine .inl ?_
    rcases hstep with ⟨⟨his, hit, hcn⟩, hst⟩ | ⟨⟨his, hit⟩, hst⟩ | ⟨⟨hit, his⟩, hst⟩
    · refine wp_of_mono (hst x w _ _ hI (hgave s H.sn) (hgave t H.tn) hU hN) ?_
      rintro v w' ⟨hv, hb', hcv⟩
      rw [hd, putX_put (by rw [dAt_get hid]; exact List.getElem_mem _)]
      refine wpAny_rows H hfin f _ _ w' (by omega) (inv.set hi hin) ?_ (hset v w' (fun j hj hl => stabAll_at H.stab j _ _ _ (hall j hj hl) hb') hv) ?_ (huset v)
      rotate_left
      · by_cases hic : i = c1
        · intro _
          obtain ⟨h1, e, he, hbd, h3⟩ := hneed c2 (hcn hic)
          have h4 := hdone e he hbd
          rw [h3] at h4
          have hcs : c2 < listed.size := by rw [inv.size]; have := H.lt; omega
          have hc2 : listed.getD c2 true = true := by simpa [hcs] using h4
          have hi2 : i ≠ c2 := fun e => by rw [e, hc2] at hun; cases hun
          refine ⟨⟨h1, by rw [getD_set_ne true hi2]; exact hc2⟩, ?_⟩
          unfold upd
          rw [if_neg (distinct_ne H.distinct c2 i (by rw [H.len]; exact h1) hid (fun e => hi2 e.symm)), hic, if_pos rfl]
          exact hcv hic
        · exact hcset v hic
      rw [given_other H.distinct hid hsd his, given_other H.distinct hid htd hit]
      exact H.keep _ _ _ _ hI hb'
    · subst his
      rw [hnone] at hI
      refine wp_of_mono (hst x w _ hI (hgave t H.tn) hU hN) ?_
      rintro v w' ⟨hv, hr, hI'⟩
      rw [hd, putX_put (by rw [dAt_get hid]; exact List.getElem_mem _)]
      refine wpAny_rows H hfin f _ _ w' (by omega) (inv.set hi hin) ?_ (hset v w' (fun j hj hl => stabAllR_at H.stabR j _ _ _ (hall j hj hl) hr) hv) (hcset v (fun e => by first | exact H.cs e.symm | exact H.ct e.symm)) (huset v)
      rw [given_own hb, given_other H.distinct hid htd hit]
      exact hI'
    · subst hit
      rw [hnone] at hI
      refine wp_of_mono (hst x w _ hI (hgave s H.sn) hU hN) ?_
      rintro v w' ⟨hv, hr, hI'⟩
      rw [hd, putX_put (by rw [dAt_get hid]; exact List.getElem_mem _)]
      refine wpAny_rows H hfin f _ _ w' (by omega) (inv.set hi hin) ?_ (hset v w' (fun j hj hl => stabAllR_at H.stabR j _ _ _ (hall j hj hl) hr) hv) (hcset v (fun e => by first | exact H.cs e.symm | exact H.ct e.symm)) (huset v)
      rw [given_own hb, given_other H.distinct hid hsd his]
      exact hI'
theorem headsR_of {I : Inv2} {R : World → World → Prop} {l : List Oper} {n s t c1 c2 : Nat} {wt : List Nat} {sp : List VP} {dst : List Nat} {nd : List (List Nat)} {kd : List Kw} (hB : monoR l.toArray n s t c1 c2 wt dst nd kd = true) (hst : stabAll sp) (hstR : stabAllR R sp)
    (hk : ∀ S T w w', I S T w → Below w.heap.size w w' → I S T w') (hs : stepsR P a I R sp dst s t c1 c2 wt (l.take n) nd kd 0) :
    HeadsR P l.toArray a I R n s t c1 c2 wt sp dst ∧ Region.seqB .any l.toArray (l.toArray.size - n) n (canon l.toArray.size n) = true := by
  simp only [monoR, Bool.and_eq_true, decide_eq_true_eq, beq_iff_eq] at hB
  obtain ⟨⟨⟨⟨⟨⟨⟨⟨⟨⟨⟨⟨h1, h2⟩, h3⟩, h4⟩, h5⟩, h6⟩, h7⟩, h9⟩, h10⟩, h11⟩, h12⟩, h13⟩, h14⟩ := hB
  have hcw : ∃ o, l.toArray[c1]? = some o ∧ ∀ k ∈ wt, ∃ e ∈ o.after, Region.binds .any e = true ∧ e.on = k := by
    cases hoc : l.toArray[c1]? with
    | none => rw [hoc] at h14; cases h14
    | some oc =>
      rw [hoc] at h14
      refine ⟨oc, rfl, fun k hk => ?_⟩
      have := List.all_eq_true.1 h14 k hk
      obtain ⟨e, he, hbe⟩ := Array.any_eq_true'.1 this
      simp only [Bool.and_eq_true, beq_iff_eq] at hbe
      exact ⟨e, he, hbe.1, hbe.2⟩
  refine ⟨⟨h1, h2, h3, h7, h6, h9, h10, h11, h12, h13, hcw, hst, hstR, hk, fun k hk => ?_⟩, h4⟩
  have h8 := List.all_eq_true.1 h5 k (List.mem_range.2 hk)
  have hk' : k < l.toArray.size := by omega
  have ho : l.toArray[k]? = some l.toArray[k] := Array.getElem?_eq_getElem hk'
  rw [ho] at h8
  cases hn : nd[k]? with
  | none => rw [hn] at h8; cases h8
  | some need =>
    rw [hn] at h8
    cases hkd : kd[k]? with
    | none => rw [hkd] at h8; cases h8
    | some d =>
      rw [hkd] at h8
      simp only [Bool.and_eq_true, Option.isNone_iff_eq_none, beq_iff_eq] at h8
      obtain ⟨⟨⟨⟨⟨g1, g2⟩, g3⟩, g4⟩, g5⟩, g6⟩ := h8
      have hst := stepsR_at hs k l.toArray[k] need d (by rw [List.getElem?_take, if_pos hk]; simp) hn hkd
      rw [Nat.zero_add] at hst
      refine ⟨_, ho, g1, g2, fun e he hb => ?_, fun c hc => (by rw [hc] at g5; cases g5), need, fun j hj => ?_, ?_⟩
      · have := Array.all_eq_true'.1 g3 e he
        simp only [Bool.or_eq_true, Bool.not_eq_true', decide_eq_true_eq] at this
        rcases this with h | h
        · rw [hb] at h; cases h
        · exact h
      · have := List.all_eq_true.1 g4 j hj
        simp only [Bool.and_eq_true, decide_eq_true_eq] at this
        obtain ⟨e, he, hbe⟩ := Array.any_eq_true'.1 this.2
        simp only [Bool.and_eq_true, beq_iff_eq] at hbe
        exact ⟨this.1, e, he, hbe.1, hbe.2⟩
      · cases d with
        | any =>
          simp only [Bool.and_eq_true, decide_eq_true_eq, Bool.or_eq_true, Bool.not_eq_true', decide_eq_false_iff_not, List.contains_iff_mem] at g6
          exact .inl ⟨⟨g6.1.1, g6.1.2, fun h => g6.2.resolve_left (fun k => k h)⟩, hst⟩
        | one =>
          simp only [Bool.and_eq_true, decide_eq_true_eq] at g6
          exact .inr (.inl ⟨g6, hst⟩)
        | two =>
          simp only [Bool.and_eq_true, decide_eq_true_eq] at g6
          exact .inr (.inr ⟨g6, hst⟩)
/-- The region: of the first n operations those at s and t write. -/
theorem wp_region_rows {id : Nat} {w : World} {l : List Oper} (n s t c1 c2 : Nat) (wt : List Nat) (dst : List Nat) (nd : List (List Nat)) (kd : List Kw) (sp : List VP) (I : Inv2) (R : World → World → Prop) (hm : P.follows .mixedOrders = true) (hB : monoR l.toArray n s t c1 c2 wt dst nd kd = true)
    (hst : stabAll sp) (hstR : stabAllR R sp) (hk : ∀ S T w w', I S T w → Below w.heap.size w w' → I S T w')
    (hs : stepsR P a I R sp dst s t c1 c2 wt (l.take n) nd kd 0) (h0 : I none none w.drew) (hfin : ∀ x w', I (some (x (dAt dst s))) (some (x (dAt dst t))) w' → allSp sp dst x w' → x (dAt dst c1) = x (dAt dst c2) → wpList P l.toArray Q (l.drop n) (putX a dst x) w') : (Code.region id l.toArray true).wp P Q a w := by
  obtain ⟨H, hseq⟩ := headsR_of hB hst hstR hk hs
  have hdl : (l.drop n).length = l.toArray.size - n := by simp
  refine wp_region_any hm ?_
  have hn : n < l.toArray.size := H.lt
  have hrep : ∀ j, j < n → (Array.replicate l.toArray.size false).getD j true = false := fun j hj => getD_in (by simp only [Array.size_replicate]; omega) (getD_replicate_false _ _)
  have hg : ∀ j, j < n → givenAt (Array.replicate l.toArray.size false) (fun t => a.tmps.getD t undef) dst j = none := fun j hj => by unfold givenAt; rw [hrep j hj]; rfl
  have := wpAny_rows (Q := Q) H (g := l.toArray.size - n) (fun x w' hb hall hcc => by
    have := wpAny_of_seq (md := .any) (Q' := Q) (l.drop n) n (canon l.toArray.size n) (putX a dst x) w' (fun j => by simp [List.getElem?_drop]) (by rw [hdl]; exact hseq) (hfin x w' hb (allSp_of (by rw [H.len]; exact hall)) hcc)
    rwa [hdl] at this) n (Array.replicate l.toArray.size false) (fun t => a.tmps.getD t undef) w.drew (left_all _ _ (by omega)) (inv_start n _ rfl) (by rw [hg s H.sn, hg t H.tn]; exact h0) (fun j hj hl => by
      rw [hrep j hj] at hl
      cases hl) (fun hl => by
      rw [hrep c1 H.cn] at hl
      cases hl) (fun _ => rfl)
  rw [putX_start, show n + (l.toArray.size - n) = l.toArray.size by omega] at this
  exact this
end
end Go.Proofs.Ytghglgaimhfedaa
