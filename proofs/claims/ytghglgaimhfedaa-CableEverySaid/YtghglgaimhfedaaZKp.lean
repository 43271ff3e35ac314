/-
  A region that draws its order, with guarded operations ('&&', '||') among its first ones: whether each is wanted is known ahead; each operation is spoken of once.
-/
import Derived.Test.YtghglgaimhfedaaQB
namespace Go.Proofs.Ytghglgaimhfedaa
open Go.RowKit Go.Shelf

/-- Whether a guarded operation is wanted, out of what its guard yields. -/
def gdP (sp : List VP) (o : Oper) : Option Bool → Prop
  | none => True
  | some b => match o.guard with
    | none => True
    | some (j, want) => ∀ v w, sAt sp j v w → v = .bool (b == want)
def gdAll (sp : List VP) : List Oper → List (Option Bool) → Prop
  | o :: r, g :: gs => gdP sp o g ∧ gdAll sp r gs
  | _, _ => True
theorem gdAll_at {sp : List VP} : ∀ {l : List Oper} {gs : List (Option Bool)}, gdAll sp l gs → ∀ (i : Nat) (o : Oper) (g : Option Bool), l[i]? = some o → gs[i]? = some g → gdP sp o g
  | [], _, _, i, o, g, h, _ => by simp at h
  | _ :: _, [], _, i, o, g, _, h => by simp at h
  | _ :: _, _ :: _, hs, 0, o, g, h1, h2 => by
    simp only [List.getElem?_cons_zero, Option.some.injEq] at h1 h2
    subst h1; subst h2
    exact hs.1
  | _ :: _, _ :: _, hs, i + 1, o, g, h1, h2 => by
    simp only [List.getElem?_cons_succ] at h1 h2
    exact gdAll_at hs.2 i o g h1 h2
def stepG (P : Program) (a : Act) (w0 : World) (sp : List VP) (dst : List Nat) (o : Oper) (n : List Nat) (k : Nat) : Option Bool → Prop
  | some false => ∀ w, sAt sp k undef w
  | _ => ∀ x w, Below w0.heap.size w0 w → needs sp dst x w n → mono P o (putX a dst x) w fun v w' => sAt sp k v w' ∧ Below w.heap.size w w'
def stepsG (P : Program) (a : Act) (w0 : World) (sp : List VP) (dst : List Nat) : List Oper → List (List Nat) → List (Option Bool) → Nat → Prop
  | o :: r, n :: ns, g :: gs, k => stepG P a w0 sp dst o n k g ∧ stepsG P a w0 sp dst r ns gs (k + 1)
  | _, _, _, _ => True
theorem stepsG_at {P : Program} {a : Act} {w0 : World} {sp : List VP} {dst : List Nat} : ∀ {l : List Oper} {nd : List (List Nat)} {gs : List (Option Bool)} {k : Nat}, stepsG P a w0 sp dst l nd gs k → ∀ (i : Nat) (o : Oper) (n : List Nat) (g : Option Bool), l[i]? = some o → nd[i]? = some n → gs[i]? = some g →
    stepG P a w0 sp dst o n (k + i) g
  | [], _, _, _, _, i, o, n, g, h, _, _ => by simp at h
  | _ :: _, [], _, _, _, i, o, n, g, _, h, _ => by simp at h
  | _ :: _, _ :: _, [], _, _, i, o, n, g, _, _, h => by simp at h
  | _ :: _, _ :: _, _ :: _, k, hs, 0, o, n, g, h1, h2, h3 => by
    simp only [List.getElem?_cons_zero, Option.some.injEq] at h1 h2 h3
    subst h1; subst h2; subst h3
    exact hs.1
  | _ :: _, _ :: _, _ :: _, k, hs, i + 1, o, n, g, h1, h2, h3 => by
    simp only [List.getElem?_cons_succ] at h1 h2 h3
    have := stepsG_at hs.2 i o n g h1 h2 h3
    rwa [show k + 1 + i = k + (i + 1) by omega] at this
def headG (ops : Array Oper) (n : Nat) (dst : List Nat) (nd : List (List Nat)) (gs : List (Option Bool)) : Bool :=
  (List.range n).all fun k => match ops[k]?, nd[k]?, gs[k]? with
    | some o, some need, some g => (match o.guard, g with
          | none, none => true
          | some (j, _), some _ => decide (j < n) && (o.after.any fun e => Region.binds .any e && e.on == j) && (match ops[j]? with | some oj => oj.dst == some (dAt dst j) | none => false)
          | _, _ => false) &&
        o.dst == some (dAt dst k) && (o.after.all fun e => !Region.binds .any e || decide (e.on < k)) &&
        (need.all fun j => decide (j < n) && o.after.any fun e => Region.binds .any e && e.on == j) && (match o.op with | .defer _ => false | _ => true)
    | _, _, _ => false
def monoG (ops : Array Oper) (n : Nat) (dst : List Nat) (nd : List (List Nat)) (gs : List (Option Bool)) (sz : Nat) : Bool :=
  decide (n < ops.size) && Region.sinkB .any ops n && Region.chainB .any ops n && Region.seqB .any ops (ops.size - n) n (canon ops.size n) && headG ops n dst nd gs && distinctB dst && dst.length == n && dst.all fun d => decide (d < sz)
section
variable {P : Program} {ops : Array Oper} {Q : Exit → Act → World → Prop} {a : Act} {w0 : World}
structure HeadsG (P : Program) (ops : Array Oper) (a : Act) (w0 : World) (n : Nat) (sp : List VP) (dst : List Nat) : Prop where
  lt : n < ops.size
  sink : Region.sinkB .any ops n = true
  chain : Region.chainB .any ops n = true
  len : dst.length = n
  distinct : distinctB dst = true
  stab : stabAll sp
  size : ∀ d ∈ dst, d < a.tmps.size
  step : ∀ k, k < n → ∃ o, ops[k]? = some o ∧ o.dst = some (dAt dst k) ∧ (∀ e ∈ o.after, Region.binds .any e = true → e.on < k) ∧ (∀ c : Call, o.op ≠ .defer c) ∧
    ∃ g : Option Bool, (g = none ∧ o.guard = none ∨ ∃ b j want, g = some b ∧ o.guard = some (j, want) ∧ j < n ∧ (∃ e ∈ o.after, Region.binds .any e = true ∧ e.on = j) ∧ (∃ oj, ops[j]? = some oj ∧ oj.dst = some (dAt dst j)) ∧ ∀ v w, sAt sp j v w → v = .bool (b == want)) ∧
    (g = some false → ∀ w, sAt sp k undef w) ∧
    (g ≠ some false → ∀ x w, Below w0.heap.size w0 w → (∀ j, j < n → (∃ e ∈ o.after, Region.binds .any e = true ∧ e.on = j) → sAt sp j (x (dAt dst j)) w) → mono P o (putX a dst x) w fun v w' => sAt sp k v w' ∧ Below w.heap.size w w')
theorem headsG_ready {n : Nat} {sp : List VP} {dst : List Nat} (H : HeadsG P ops a w0 n sp dst) {listed : Array Bool} (h : left listed n ≠ 0) (inv : HeadInv .any ops n listed) :
    Region.ready .any ops listed ≠ [] ∧ ∀ i ∈ Region.ready .any ops listed, i < n := by
  obtain ⟨i, h1, h2, h3⟩ := left_least listed n h
  obtain ⟨o, ho, _, hlt, _⟩ := H.step i h1
  have hi : i ∈ Region.ready .any ops listed := mem_ready.2 ⟨h2, o, ho, fun e he hb => by
    have h4 := hlt e he hb
    have h5 := h3 e.on h4
    have hs : e.on < listed.size := by rw [inv.size]; have := H.lt; omega
    simpa [hs] using h5⟩
  refine ⟨fun e => (by rw [e] at hi; cases hi), fun j hj => ?_⟩
  rcases Nat.lt_or_ge j n with h6 | h6
  · exact h6
  · exact absurd hj (tail_waits H.sink H.chain H.lt inv _ i rfl h1 h2 j h6)
theorem headsG_set {n : Nat} {sp : List VP} {dst : List Nat} (H : HeadsG P ops a w0 n sp dst) {x : Nat → Value} {w w' : World} {listed : Array Bool} {i : Nat} {v : Value} (hi : i < n)
    (hall : ∀ j, j < n → listed.getD j true = true → sAt sp j (x (dAt dst j)) w) (hv : sAt sp i v w') (hb : Below w.heap.size w w') :
    ∀ j, j < n → (listed.setIfInBounds i true).getD j true = true → sAt sp j (upd x (dAt dst i) v (dAt dst j)) w' := by
  intro j hj hl
  unfold upd
  by_cases e : j = i
  · subst e; rw [if_pos rfl]; exact hv
  · rw [if_neg (distinct_ne H.distinct j i (by rw [H.len]; exact hj) (by rw [H.len]; exact hi) e)]
    rw [getD_set_ne true (fun h => e h.symm)] at hl
    exact stabAll_at H.stab j _ _ _ (hall j hj hl) hb
theorem yielded_putX {dst : List Nat} {x : Nat → Value} {j : Nat} {oj : Oper} {b : Bool} (ho : ops[j]? = some oj) {d : Nat} (hd : oj.dst = some d) (hm : d ∈ dst) (hs : d < a.tmps.size) (hx : x d = .bool b) : yielded ops (putX a dst x).tmps j = some b := by
  unfold yielded
  rw [ho]
  simp only [Option.bind_some, hd]
  show (match (setX a.tmps dst x)[d]? with | some (.bool b) => some b | _ => none) = some b
  rw [setX_get, if_pos ⟨hm, hs⟩, hx]
theorem wpAny_monoG {n : Nat} {sp : List VP} {dst : List Nat} (H : HeadsG P ops a w0 n sp dst) {g : Nat}
    (hfin : ∀ x w, Below w0.heap.size w0 w → (∀ j, j < n → sAt sp j (x (dAt dst j)) w) → wpAny P .any ops Q g (canon ops.size n) (putX a dst x) w) :
    ∀ (f : Nat) (listed : Array Bool) (x : Nat → Value) (w : World), left listed n = f → HeadInv .any ops n listed → Below w0.heap.size w0 w → (∀ j, j < n → listed.getD j true = true → sAt sp j (x (dAt dst j)) w) →
      wpAny P .any ops Q (f + g) listed (putX a dst x) w
  | 0, listed, x, w, hf, inv, hb, hall => by
    rw [Nat.zero_add, canon_of H.lt inv hf]
    exact hfin x w hb fun j hj => hall j hj (left_zero listed n hf j hj)
  | f + 1, listed, x, w, hf, inv, hb, hall => by
    obtain ⟨hne, hlt⟩ := headsG_ready H (by omega) inv
    rw [show f + 1 + g = (f + g) + 1 by omega]
    refine ⟨fun h => absurd h hne, fun i hi => ?_⟩
    have hin := hlt i hi
    obtain ⟨hun, o', ho', hdone⟩ := mem_ready.1 hi
    obtain ⟨o, ho, hd, hlow, hnd, gd, hgd, hoff, hstep⟩ := H.step i hin
    have : o' = o := Option.some.inj (ho'.symm.trans ho)
    subst this
    have hdm : dAt dst i ∈ dst := by rw [dAt_get (by rw [H.len]; exact hin)]; exact List.getElem_mem _
    have hl := left_set listed i hun n hin
    have hdn : ∀ j, (∃ e ∈ o'.after, Region.binds .any e = true ∧ e.on = j) → listed.getD j true = true := by
      rintro j ⟨e, he, hbd, rfl⟩
      have h1 := hdone e he hbd
      have h2 := hlow e he hbd
      have hs : e.on < listed.size := by rw [inv.size]; have := H.lt; omega
      simpa [hs] using h1
    have hwant : Region.wanted o' (yielded ops (putX a dst x).tmps) = (gd != some false) := by
      rcases hgd with ⟨rfl, h0⟩ | ⟨b, j, want, rfl, h0, hj, hbj, ⟨oj, hoj, hdj⟩, hval⟩
      · unfold Region.wanted; rw [h0]; rfl
      · have hv := hval _ _ (hall j hj (hdn j hbj))
        have hjm : dAt dst j ∈ dst := by rw [dAt_get (by rw [H.len]; exact hj)]; exact List.getElem_mem _
        unfold Region.wanted
        rw [h0]
        simp only
        rw [yielded_putX hoj hdj hjm (H.size _ hjm) hv]
        cases b <;> cases want <;> rfl
    unfold wpOp
    simp only [ho]
    by_cases hg : gd = some false
    · rw [if_neg (by rw [hwant, hg]; simp), hd, putX_put hdm]
      exact wpAny_monoG H hfin f _ _ w (by omega) (inv.set hi hin) hb (headsG_set H hin hall (hoff hg w) (Below.refl _ _))
    · rw [if_pos (by rw [hwant]; simpa using hg)]
      refine .inl (wp_of_mono (hstep hg x w hb fun j hj hx => hall j hj (hdn j hx)) ?_)
      rintro v w' ⟨hv, hb'⟩
      rw [hd, putX_put hdm]
      exact wpAny_monoG H hfin f _ _ w' (by omega) (inv.set hi hin) (below_tr hb hb') (headsG_set H hin hall hv hb')
theorem headsG_of {l : List Oper} {n : Nat} {sp : List VP} {dst : List Nat} {nd : List (List Nat)} {gs : List (Option Bool)} (hB : monoG l.toArray n dst nd gs a.tmps.size = true) (hst : stabAll sp) (hgd : gdAll sp (l.take n) gs) (hs : stepsG P a w0 sp dst (l.take n) nd gs 0) :
    HeadsG P l.toArray a w0 n sp dst ∧ Region.seqB .any l.toArray (l.toArray.size - n) n (canon l.toArray.size n) = true := by
  simp only [monoG, Bool.and_eq_true, decide_eq_true_eq, beq_iff_eq] at hB
  obtain ⟨⟨⟨⟨⟨⟨⟨h1, h2⟩, h3⟩, h4⟩, h5⟩, h6⟩, h7⟩, hsz⟩ := hB
  refine ⟨⟨h1, h2, h3, h7, h6, hst, fun d hd => of_decide_eq_true (List.all_eq_true.1 hsz d hd), fun k hk => ?_⟩, h4⟩
  have h8 := List.all_eq_true.1 h5 k (List.mem_range.2 hk)
  have hk' : k < l.toArray.size := by omega
  have ho : l.toArray[k]? = some l.toArray[k] := Array.getElem?_eq_getElem hk'
  have htk : (l.take n)[k]? = some l.toArray[k] := by rw [List.getElem?_take, if_pos hk]; simp
  rw [ho] at h8
  cases hn : nd[k]? with
  | none => rw [hn] at h8; cases h8
  | some need =>
    rw [hn] at h8
    cases hg : gs[k]? with
    | none => rw [hg] at h8; cases h8
    | some gd =>
      rw [hg] at h8
      simp only [Bool.and_eq_true, beq_iff_eq] at h8
      obtain ⟨⟨⟨⟨g1, g2⟩, g3⟩, g4⟩, g5⟩ := h8
      have hG := gdAll_at hgd k _ gd htk hg
      have hS := stepsG_at hs k _ need gd htk hn hg
      rw [Nat.zero_add] at hS
      refine ⟨_, ho, g2, fun e he hb => ?_, fun c hc => (by rw [hc] at g5; cases g5), gd, ?_, fun hf => ?_, fun hf x w hb hN => ?_⟩
      · have := Array.all_eq_true'.1 g3 e he
        simp only [Bool.or_eq_true, Bool.not_eq_true', decide_eq_true_eq] at this
        rcases this with h | h
        · rw [hb] at h; cases h
        · exact h
      · cases hgu : l.toArray[k].guard with
        | none =>
          rw [hgu] at g1
          cases gd with
          | none => exact .inl ⟨rfl, rfl⟩
          | some b => cases g1
        | some q =>
          obtain ⟨j, want⟩ := q
          rw [hgu] at g1
          cases gd with
          | none => cases g1
          | some b =>
            simp only [Bool.and_eq_true, decide_eq_true_eq] at g1
            obtain ⟨⟨q1, q2⟩, q3⟩ := g1
            obtain ⟨e, he, hbe⟩ := Array.any_eq_true'.1 q2
            simp only [Bool.and_eq_true, beq_iff_eq] at hbe
            refine .inr ⟨b, j, want, rfl, rfl, q1, ⟨e, he, hbe.1, hbe.2⟩, ?_, ?_⟩
            · cases hoj : l.toArray[j]? with
              | none => rw [hoj] at q3; cases q3
              | some oj => rw [hoj] at q3; exact ⟨oj, rfl, by simpa using q3⟩
            · unfold gdP at hG
              simp only [hgu] at hG
              exact hG
      · subst hf; exact hS
      · have hS' : ∀ x w, Below w0.heap.size w0 w → needs sp dst x w need → mono P l.toArray[k] (putX a dst x) w fun v w' => sAt sp k v w' ∧ Below w.heap.size w w' := by
          unfold stepG at hS
          split at hS
          · exact absurd rfl hf
          · exact hS
        exact hS' x w hb (needs_of fun j hj => by
          have := List.all_eq_true.1 g4 j hj
          simp only [Bool.and_eq_true, decide_eq_true_eq] at this
          obtain ⟨e, he, hbe⟩ := Array.any_eq_true'.1 this.2
          simp only [Bool.and_eq_true, beq_iff_eq] at hbe
          exact hN j this.1 ⟨e, he, hbe.1, hbe.2⟩)
theorem wp_region_guard {id : Nat} {w : World} {l : List Oper} (n : Nat) (dst : List Nat) (nd : List (List Nat)) (gs : List (Option Bool)) (sp : List VP) (hm : P.follows .mixedOrders = true) (hB : monoG l.toArray n dst nd gs a.tmps.size = true) (hst : stabAll sp) (hgd : gdAll sp (l.take n) gs)
    (hs : stepsG P a w.drew sp dst (l.take n) nd gs 0) (hfin : ∀ x w', Below w.drew.heap.size w.drew w' → allSp sp dst x w' → wpList P l.toArray Q (l.drop n) (putX a dst x) w') : (Code.region id l.toArray true).wp P Q a w := by
  obtain ⟨H, hseq⟩ := headsG_of hB hst hgd hs
  have hdl : (l.drop n).length = l.toArray.size - n := by simp
  refine wp_region_any hm ?_
  have hn : n < l.toArray.size := H.lt
  have := wpAny_monoG (Q := Q) H (g := l.toArray.size - n) (fun x w' hb hall => by
    have := wpAny_of_seq (md := .any) (Q' := Q) (l.drop n) n (canon l.toArray.size n) (putX a dst x) w' (fun j => by simp [List.getElem?_drop]) (by rw [hdl]; exact hseq) (hfin x w' hb (allSp_of (by rw [H.len]; exact hall)))
    rwa [hdl] at this) n (Array.replicate l.toArray.size false) (fun t => a.tmps.getD t undef) w.drew (left_all _ _ (by omega)) (inv_start n _ rfl) (Below.refl _ _) (fun j hj hl => by
      rw [show (Array.replicate l.toArray.size false).getD j true = false from getD_in (by simp only [Array.size_replicate]; omega) (getD_replicate_false _ _)] at hl
      cases hl)
  rw [putX_start, show n + (l.toArray.size - n) = l.toArray.size by omega] at this
  exact this
end
end Go.Proofs.Ytghglgaimhfedaa
