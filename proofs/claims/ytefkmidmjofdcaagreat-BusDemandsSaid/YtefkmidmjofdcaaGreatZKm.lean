/-
  A region that draws its order, whose operations leave old memory as it was: each operation is spoken of once, whatever comes before it.
-/
import Derived.Test.YtefkmidmjofdcaaGreatZKg
set_option linter.all false
namespace Go.Proofs.YtefkmidmjofdcaaGreat
open Go.RowKit Go.Shelf

/-- What an operation yields, in one world; a call of a Go function by its contract. -/
def monoUpon (P : Program) (R : Value → World → Prop) : Result Next → Prop
  | .ok (.value v) w' => R v w'
  | .ok .skip w' => R undef w'
  | .ok (.enter f args) w' => Calls P f args w' fun e w'' => ∃ v, e = .returned v ∧ R v w''
  | _ => False
structure mono (P : Program) (o : Oper) (a : Act) (w : World) (R : Value → World → Prop) : Prop where
  out : monoUpon P R ((execOp a.eval o).run P w)
section
variable {P : Program} {R : Value → World → Prop} {w : World}
theorem monoUpon_value (v : Value) : monoUpon P R (.ok (.value v) w) = R v w := rfl
theorem monoUpon_skip : monoUpon P R (.ok .skip w) = R undef w := rfl
theorem monoUpon_enter (f : FuncId) (args : Array Value) : monoUpon P R (.ok (.enter f args) w) = Calls P f args w fun e w'' => ∃ v, e = .returned v ∧ R v w'' := rfl
end
theorem wp_of_mono {P : Program} {o : Oper} {a : Act} {w : World} {R : Value → World → Prop} {K : Act → World → Prop} {Q : Exit → Act → World → Prop} (hh : mono P o a w R) (h : ∀ v w', R v w' → K (a.put o.dst v) w') : o.wp P a w K Q := by
  have hh := hh.out
  unfold Oper.wp
  generalize (execOp a.eval o).run P w = r at *
  cases r with
  | ok n w' =>
    cases n <;> simp only [monoUpon] at hh <;> simp only [Oper.upon]
    case enter f args =>
      exact hh.mono fun e w'' ⟨v, he, hw⟩ => by subst he; exact h _ _ hw
    all_goals exact h _ _ hh
  | halt x w' => simp only [monoUpon] at hh
theorem wpIn_of_mono {F : Fence} (hO : Open F) {P : Program} {o : Oper} {a : Act} {w : World} {R : Value → World → Prop} {K : Act → World → Prop} {Q : Exit → Act → World → Prop} (hnd : ∀ c : Call, o.op ≠ .defer c) (hh : mono P o a w R) (h : ∀ v w', R v w' → K (a.put o.dst v) w') : o.wpIn F 0 P a w K Q := by
  have hh := hh.out
  refine ⟨fun f _ => hO.fn f, ?_⟩
  rw [Oper.semAt_eq _ _ _ hnd]
  generalize (execOp a.eval o).run P w = r at *
  cases r with
  | ok n w' =>
    cases n <;> simp only [monoUpon] at hh <;> simp only [Oper.uponIn]
    case enter f args =>
      refine ⟨fun hs => absurd hs (by rw [hO.depth]; simp), (hO.calls hh).mono ?_⟩
      rintro e w'' ⟨v, rfl, hw⟩
      exact h _ _ hw
    all_goals exact h _ _ hh
  | halt x w' => simp only [monoUpon] at hh

/-! ### Slots -/
def setX (ts : Array Value) (dst : List Nat) (x : Nat → Value) : Array Value := dst.foldl (fun ts d => ts.setIfInBounds d (x d)) ts
def putX (a : Act) (dst : List Nat) (x : Nat → Value) : Act := { a with tmps := setX a.tmps dst x }
def upd (x : Nat → Value) (d : Nat) (v : Value) : Nat → Value := fun t => if t = d then v else x t
theorem setX_size (dst : List Nat) (x : Nat → Value) : ∀ ts, (setX ts dst x).size = ts.size := by
  induction dst with
  | nil => intro ts; rfl
  | cons d r ih => intro ts; show (setX (ts.setIfInBounds d (x d)) r x).size = _; rw [ih]; simp
theorem setX_get (dst : List Nat) (x : Nat → Value) : ∀ ts (i : Nat), (setX ts dst x)[i]? = if i ∈ dst ∧ i < ts.size then some (x i) else ts[i]? := by
  induction dst with
  | nil => intro ts i; simp [setX]
  | cons d r ih =>
    intro ts i
    show (setX (ts.setIfInBounds d (x d)) r x)[i]? = _
    rw [ih]
    simp only [Array.size_setIfInBounds, List.mem_cons]
    by_cases hr : i ∈ r ∧ i < ts.size
    · rw [if_pos hr, if_pos ⟨.inr hr.1, hr.2⟩]
    · rw [if_neg hr, Array.getElem?_setIfInBounds]
      by_cases e : d = i
      · subst e
        by_cases hl : d < ts.size
        · rw [if_pos rfl, if_pos hl, if_pos ⟨.inl rfl, hl⟩]
        · rw [if_pos rfl, if_neg hl, if_neg (fun h => hl h.2), Array.getElem?_eq_none (by omega)]
      · rw [if_neg e, if_neg]
        rintro ⟨h1 | h1, h2⟩
        · exact e h1.symm
        · exact hr ⟨h1, h2⟩
theorem putX_put {a : Act} {dst : List Nat} {d : Nat} (hd : d ∈ dst) (x : Nat → Value) (v : Value) : (putX a dst x).put (some d) v = putX a dst (upd x d v) := by
  unfold putX Act.put
  simp only
  congr 1
  apply Array.ext_getElem?
  intro i
  rw [Array.getElem?_setIfInBounds, setX_size, setX_get, setX_get]
  unfold upd
  by_cases e : d = i
  · subst e
    by_cases hl : d < a.tmps.size
    · rw [if_pos rfl, if_pos hl, if_pos ⟨hd, hl⟩, if_pos rfl]
    · rw [if_pos rfl, if_neg hl, if_neg (fun h => hl h.2), Array.getElem?_eq_none (by omega)]
  · rw [if_neg e, if_neg (show ¬ i = d from fun h => e h.symm)]
theorem putX_start (a : Act) (dst : List Nat) : putX a dst (fun t => a.tmps.getD t undef) = a := by
  unfold putX
  have : setX a.tmps dst (fun t => a.tmps.getD t undef) = a.tmps := by
    apply Array.ext_getElem?
    intro i
    rw [setX_get]
    by_cases h : i ∈ dst ∧ i < a.tmps.size
    · rw [if_pos h, Array.getElem?_eq_getElem h.2]; simp [h.2]
    · rw [if_neg h]
  rw [this]

/-! ### What each operation yields -/
abbrev VP := Value → World → Prop
def sAt : List VP → Nat → VP
  | [], _ => fun _ _ => True
  | p :: _, 0 => p
  | _ :: r, k + 1 => sAt r k
def dAt : List Nat → Nat → Nat
  | [], _ => 0
  | d :: _, 0 => d
  | _ :: r, k + 1 => dAt r k
def Stab (p : VP) : Prop := ∀ v w w', p v w → Below w.heap.size w w' → p v w'
def stabAll : List VP → Prop
  | [] => True
  | p :: r => Stab p ∧ stabAll r
theorem stabAll_at : ∀ {sp : List VP}, stabAll sp → ∀ k, Stab (sAt sp k)
  | [], _, _ => fun _ _ _ _ _ => trivial
  | _ :: _, h, 0 => h.1
  | _ :: _, h, k + 1 => stabAll_at h.2 k
theorem st_eq (c : Value) : Stab (fun v _ => v = c) := fun _ _ _ h _ => h
theorem st_pure (p : Value → Prop) : Stab (fun v _ => p v) := fun _ _ _ h _ => h
theorem st_sl {α : Type} (enc : α → List Value) (s : Nat) (xs : List α) : Stab (fun v w => Sl enc s w v xs) := fun _ _ _ h hb => h.below hb
def needs (sp : List VP) (dst : List Nat) (x : Nat → Value) (w : World) : List Nat → Prop
  | [] => True
  | j :: r => sAt sp j (x (dAt dst j)) w ∧ needs sp dst x w r
def allSp : List VP → List Nat → (Nat → Value) → World → Prop
  | p :: r, d :: ds, x, w => p (x d) w ∧ allSp r ds x w
  | _, _, _, _ => True
def steps (P : Program) (a : Act) (w0 : World) (sp : List VP) (dst : List Nat) : List Oper → List (List Nat) → Nat → Prop
  | o :: r, n :: ns, k => (∀ x w, Below w0.heap.size w0 w → needs sp dst x w n → mono P o (putX a dst x) w fun v w' => sAt sp k v w' ∧ Below w.heap.size w w') ∧ steps P a w0 sp dst r ns (k + 1)
  | _, _, _ => True
theorem steps_at {P : Program} {a : Act} {w0 : World} {sp : List VP} {dst : List Nat} : ∀ {l : List Oper} {nd : List (List Nat)} {k : Nat}, steps P a w0 sp dst l nd k → ∀ (i : Nat) (o : Oper) (n : List Nat), l[i]? = some o → nd[i]? = some n →
    ∀ x w, Below w0.heap.size w0 w → needs sp dst x w n → mono P o (putX a dst x) w fun v w' => sAt sp (k + i) v w' ∧ Below w.heap.size w w'
  | [], _, _, _, i, o, n, h, _ => by simp at h
  | _ :: _, [], _, _, i, o, n, _, h => by simp at h
  | _ :: _, _ :: _, k, hs, 0, o, n, h1, h2 => by
    simp only [List.getElem?_cons_zero, Option.some.injEq] at h1 h2
    subst h1; subst h2
    exact hs.1
  | _ :: _, _ :: _, k, hs, i + 1, o, n, h1, h2 => by
    simp only [List.getElem?_cons_succ] at h1 h2
    have := steps_at hs.2 i o n h1 h2
    rwa [show k + 1 + i = k + (i + 1) by omega] at this
theorem needs_of {sp : List VP} {dst : List Nat} {x : Nat → Value} {w : World} : ∀ {n : List Nat}, (∀ j ∈ n, sAt sp j (x (dAt dst j)) w) → needs sp dst x w n
  | [], _ => trivial
  | j :: r, h => ⟨h j (by simp), needs_of fun i hi => h i (by simp [hi])⟩
theorem allSp_of : ∀ {sp : List VP} {dst : List Nat} {x : Nat → Value} {w : World}, (∀ j, j < dst.length → sAt sp j (x (dAt dst j)) w) → allSp sp dst x w
  | [], _, _, _, _ => trivial
  | _ :: _, [], _, _, _ => trivial
  | p :: r, d :: ds, x, w, h => ⟨h 0 (by simp), allSp_of fun j hj => h (j + 1) (by simpa using hj)⟩
theorem dAt_get : ∀ {dst : List Nat} {k : Nat} (h : k < dst.length), dAt dst k = dst[k]
  | _ :: _, 0, _ => rfl
  | _ :: _, k + 1, h => dAt_get (dst := _) (k := k) (by simpa using h)

/-! ### The law -/
def canon (m n : Nat) : Array Bool := (Array.range m).map fun i => decide (i < n)
def headB (ops : Array Oper) (n : Nat) (dst : List Nat) (nd : List (List Nat)) : Bool :=
  (List.range n).all fun k => match ops[k]?, nd[k]? with
    | some o, some need => o.guard.isNone && o.dst == some (dAt dst k) && (o.after.all fun e => !Region.binds .any e || decide (e.on < k)) &&
        (need.all fun j => decide (j < n) && o.after.any fun e => Region.binds .any e && e.on == j) && (match o.op with | .defer _ => false | _ => true)
    | _, _ => false
def distinctB : List Nat → Bool
  | [] => true
  | d :: r => !r.contains d && distinctB r
def monoB (ops : Array Oper) (n : Nat) (dst : List Nat) (nd : List (List Nat)) : Bool :=
  decide (n < ops.size) && Region.sinkB .any ops n && Region.chainB .any ops n && Region.seqB .any ops (ops.size - n) n (canon ops.size n) && headB ops n dst nd && distinctB dst && dst.length == n
theorem distinct_ne : ∀ {dst : List Nat}, distinctB dst = true → ∀ i j, i < dst.length → j < dst.length → i ≠ j → dAt dst i ≠ dAt dst j := by
  intro dst
  induction dst with
  | nil => intro _ i j hi; simp at hi
  | cons d r ih =>
    intro h i j hi hj hne
    simp only [distinctB, Bool.and_eq_true, Bool.not_eq_true'] at h
    have hnot : ∀ k (hk : k < r.length), dAt r k ≠ d := by
      intro k hk e
      rw [dAt_get hk] at e
      have : r.contains d = true := by rw [List.contains_iff_mem]; rw [← e]; exact List.getElem_mem _
      rw [this] at h; exact absurd h.1 (by simp)
    match i, j with
    | 0, 0 => exact absurd rfl hne
    | 0, j + 1 => exact fun e => hnot j (by simpa using hj) e.symm
    | i + 1, 0 => exact fun e => hnot i (by simpa using hi) e
    | i + 1, j + 1 => exact ih h.2 i j (by simpa using hi) (by simpa using hj) (by omega)
/-- How many of the first n are not listed. -/
def left (listed : Array Bool) : Nat → Nat
  | 0 => 0
  | n + 1 => left listed n + if listed.getD n true = false then 1 else 0
theorem left_far (listed : Array Bool) (i : Nat) : ∀ n, n ≤ i → left (listed.setIfInBounds i true) n = left listed n
  | 0, _ => rfl
  | n + 1, h => by
    rw [left, left, left_far listed i n (by omega), getD_set_ne true (by omega)]
theorem left_set (listed : Array Bool) (i : Nat) (hi : listed.getD i true = false) : ∀ n, i < n → left (listed.setIfInBounds i true) n + 1 = left listed n
  | 0, h => by omega
  | n + 1, h => by
    rw [left, left]
    by_cases e : i = n
    · subst e
      rw [left_far listed i i (Nat.le_refl _), if_pos hi]
      have hb : i < listed.size := by
        rcases Nat.lt_or_ge i listed.size with h' | h'
        · exact h'
        · simp [Array.getElem?_eq_none h'] at hi
      have : (listed.setIfInBounds i true).getD i true = true := by simp [hb]
      rw [this]; simp
    · rw [getD_set_ne true e]
      have := left_set listed i hi n (by omega)
      omega
theorem left_zero (listed : Array Bool) : ∀ n, left listed n = 0 → ∀ i, i < n → listed.getD i true = true
  | 0, _, i, h => by omega
  | n + 1, h, i, hi => by
    rw [left] at h
    by_cases e : i = n
    · subst e
      cases hc : listed.getD i true with
      | true => rfl
      | false => rw [if_pos hc] at h; omega
    · exact left_zero listed n (by omega) i (by omega)
theorem left_least (listed : Array Bool) : ∀ n, left listed n ≠ 0 → ∃ i, i < n ∧ listed.getD i true = false ∧ ∀ j, j < i → listed.getD j true = true
  | 0, h => absurd rfl h
  | n + 1, h => by
    by_cases e : left listed n = 0
    · rw [left, e] at h
      refine ⟨n, by omega, ?_, left_zero listed n e⟩
      cases hc : listed.getD n true with
      | true => rw [hc] at h; simp at h
      | false => rfl
    · obtain ⟨i, h1, h2, h3⟩ := left_least listed n e
      exact ⟨i, by omega, h2, h3⟩
theorem left_all (m : Nat) : ∀ n, n ≤ m → left (Array.replicate m false) n = n
  | 0, _ => rfl
  | n + 1, h => by
    rw [left, left_all m n (by omega), if_pos]
    simp [show n < m by omega]
section
variable {P : Program} {ops : Array Oper} {Q : Exit → Act → World → Prop} {a : Act} {w0 : World}
theorem canon_of {n : Nat} {listed : Array Bool} (_ : n < ops.size) (inv : HeadInv .any ops n listed) (h : left listed n = 0) : listed = canon ops.size n := by
  apply Array.ext_getElem?
  intro i
  rcases Nat.lt_or_ge i ops.size with hi | hi
  · have hs : i < listed.size := by rw [inv.size]; exact hi
    have hc : (canon ops.size n)[i]? = some (decide (i < n)) := by simp [canon, hi]
    rw [hc, Array.getElem?_eq_getElem hs]
    congr 1
    by_cases hin : i < n
    · have := left_zero listed n h i hin
      simp only [hin, decide_true]
      simpa [hs] using this
    · have := inv.tail i (by omega) hi
      simp only [hin, decide_false]
      simpa [hs] using this
  · rw [Array.getElem?_eq_none (by rw [inv.size]; exact hi), Array.getElem?_eq_none (by simp [canon]; exact hi)]
/-- The steps' facts as the orders meet them. -/
structure Heads (P : Program) (ops : Array Oper) (a : Act) (w0 : World) (n : Nat) (sp : List VP) (dst : List Nat) : Prop where
  lt : n < ops.size
  sink : Region.sinkB .any ops n = true
  chain : Region.chainB .any ops n = true
  len : dst.length = n
  distinct : distinctB dst = true
  stab : stabAll sp
  step : ∀ k, k < n → ∃ o, ops[k]? = some o ∧ o.guard = none ∧ o.dst = some (dAt dst k) ∧ (∀ e ∈ o.after, Region.binds .any e = true → e.on < k) ∧ (∀ c : Call, o.op ≠ .defer c) ∧
    ∀ x w, Below w0.heap.size w0 w → (∀ j, j < n → (∃ e ∈ o.after, Region.binds .any e = true ∧ e.on = j) → sAt sp j (x (dAt dst j)) w) → mono P o (putX a dst x) w fun v w' => sAt sp k v w' ∧ Below w.heap.size w w'
theorem heads_ready {n : Nat} {sp : List VP} {dst : List Nat} (H : Heads P ops a w0 n sp dst) {listed : Array Bool} (h : left listed n ≠ 0) (inv : HeadInv .any ops n listed) :
    Region.ready .any ops listed ≠ [] ∧ ∀ i ∈ Region.ready .any ops listed, i < n := by
  obtain ⟨i, h1, h2, h3⟩ := left_least listed n h
  obtain ⟨o, ho, _, _, hlt, _⟩ := H.step i h1
  have hi : i ∈ Region.ready .any ops listed := mem_ready.2 ⟨h2, o, ho, fun e he hb => by
    have h4 := hlt e he hb
    have h5 := h3 e.on h4
    have hs : e.on < listed.size := by rw [inv.size]; have := H.lt; omega
    simpa [hs] using h5⟩
  refine ⟨fun e => (by rw [e] at hi; cases hi), fun j hj => ?_⟩
  rcases Nat.lt_or_ge j n with h6 | h6
  · exact h6
  · exact absurd hj (tail_waits H.sink H.chain H.lt inv _ i rfl h1 h2 j h6)
theorem heads_set {n : Nat} {sp : List VP} {dst : List Nat} (H : Heads P ops a w0 n sp dst) {x : Nat → Value} {w w' : World} {listed : Array Bool} {i : Nat} {v : Value} (hi : i < n)
    (hall : ∀ j, j < n → listed.getD j true = true → sAt sp j (x (dAt dst j)) w) (hv : sAt sp i v w') (hb : Below w.heap.size w w') :
    ∀ j, j < n → (listed.setIfInBounds i true).getD j true = true → sAt sp j (upd x (dAt dst i) v (dAt dst j)) w' := by
  intro j hj hl
  unfold upd
  by_cases e : j = i
  · subst e; rw [if_pos rfl]; exact hv
  · rw [if_neg (distinct_ne H.distinct j i (by rw [H.len]; exact hj) (by rw [H.len]; exact hi) e)]
    rw [getD_set_ne true (fun h => e h.symm)] at hl
    exact stabAll_at H.stab j _ _ _ (hall j hj hl) hb
theorem wpAny_mono {n : Nat} {sp : List VP} {dst : List Nat} (H : Heads P ops a w0 n sp dst) {g : Nat}
    (hfin : ∀ x w, Below w0.heap.size w0 w → (∀ j, j < n → sAt sp j (x (dAt dst j)) w) → wpAny P .any ops Q g (canon ops.size n) (putX a dst x) w) :
    ∀ (f : Nat) (listed : Array Bool) (x : Nat → Value) (w : World), left listed n = f → HeadInv .any ops n listed → Below w0.heap.size w0 w → (∀ j, j < n → listed.getD j true = true → sAt sp j (x (dAt dst j)) w) →
      wpAny P .any ops Q (f + g) listed (putX a dst x) w
  | 0, listed, x, w, hf, inv, hb, hall => by
    rw [Nat.zero_add, canon_of H.lt inv hf]
    exact hfin x w hb fun j hj => hall j hj (left_zero listed n hf j hj)
  | f + 1, listed, x, w, hf, inv, hb, hall => by
    obtain ⟨hne, hlt⟩ := heads_ready H (by omega) inv
    rw [show f + 1 + g = (f + g) + 1 by omega]
    refine ⟨fun h => absurd h hne, fun i hi => ?_⟩
    have hin := hlt i hi
    obtain ⟨hun, o', ho', hdone⟩ := mem_ready.1 hi
    obtain ⟨o, ho, hg, hd, hlow, hnd, hstep⟩ := H.step i hin
    have : o' = o := Option.some.inj (ho'.symm.trans ho)
    subst this
    unfold wpOp
    simp only [ho]
    rw [if_pos (by simp [Region.wanted, hg])]
    refine .inl (wp_of_mono (hstep x w hb ?_) ?_)
    · rintro j hj ⟨e, he, hbd, rfl⟩
      refine hall _ hj ?_
      have h1 := hdone e he hbd
      have hs : e.on < listed.size := by rw [inv.size]; have := H.lt; omega
      simpa [hs] using h1
    · rintro v w' ⟨hv, hb'⟩
      rw [hd, putX_put (by rw [dAt_get (by rw [H.len]; exact hin)]; exact List.getElem_mem _)]
      have hl := left_set listed i hun n hin
      exact wpAny_mono H hfin f _ _ w' (by omega) (inv.set hi hin) (below_tr hb hb') (heads_set H hin hall hv hb')
theorem wpAnyIn_mono {F : Fence} (hO : Open F) {n : Nat} {sp : List VP} {dst : List Nat} (H : Heads P ops a w0 n sp dst) {g : Nat}
    (hfin : ∀ x w, Below w0.heap.size w0 w → (∀ j, j < n → sAt sp j (x (dAt dst j)) w) → wpAnyIn F 0 P .any ops Q g (canon ops.size n) (putX a dst x) w) :
    ∀ (f : Nat) (listed : Array Bool) (x : Nat → Value) (w : World), left listed n = f → HeadInv .any ops n listed → Below w0.heap.size w0 w → (∀ j, j < n → listed.getD j true = true → sAt sp j (x (dAt dst j)) w) →
      wpAnyIn F 0 P .any ops Q (f + g) listed (putX a dst x) w
  | 0, listed, x, w, hf, inv, hb, hall => by
    rw [Nat.zero_add, canon_of H.lt inv hf]
    exact hfin x w hb fun j hj => hall j hj (left_zero listed n hf j hj)
  | f + 1, listed, x, w, hf, inv, hb, hall => by
    obtain ⟨hne, hlt⟩ := heads_ready H (by omega) inv
    rw [show f + 1 + g = (f + g) + 1 by omega]
    refine ⟨fun h => absurd h hne, fun i hi => ?_⟩
    have hin := hlt i hi
    obtain ⟨hun, o', ho', hdone⟩ := mem_ready.1 hi
    obtain ⟨o, ho, hg, hd, hlow, hnd, hstep⟩ := H.step i hin
    have : o' = o := Option.some.inj (ho'.symm.trans ho)
    subst this
    unfold wpOpIn
    simp only [ho]
    rw [if_pos (by simp [Region.wanted, hg])]
    refine wpIn_of_mono hO hnd (hstep x w hb ?_) ?_
    · rintro j hj ⟨e, he, hbd, rfl⟩
      refine hall _ hj ?_
      have h1 := hdone e he hbd
      have hs : e.on < listed.size := by rw [inv.size]; have := H.lt; omega
      simpa [hs] using h1
    · rintro v w' ⟨hv, hb'⟩
      rw [hd, putX_put (by rw [dAt_get (by rw [H.len]; exact hin)]; exact List.getElem_mem _)]
      have hl := left_set listed i hun n hin
      exact wpAnyIn_mono hO H hfin f _ _ w' (by omega) (inv.set hi hin) (below_tr hb hb') (heads_set H hin hall hv hb')
theorem heads_of {l : List Oper} {n : Nat} {sp : List VP} {dst : List Nat} {nd : List (List Nat)} (hB : monoB l.toArray n dst nd = true) (hst : stabAll sp) (hs : steps P a w0 sp dst (l.take n) nd 0) :
    Heads P l.toArray a w0 n sp dst ∧ Region.seqB .any l.toArray (l.toArray.size - n) n (canon l.toArray.size n) = true := by
  simp only [monoB, Bool.and_eq_true, decide_eq_true_eq, beq_iff_eq] at hB
  obtain ⟨⟨⟨⟨⟨⟨h1, h2⟩, h3⟩, h4⟩, h5⟩, h6⟩, h7⟩ := hB
  refine ⟨⟨h1, h2, h3, h7, h6, hst, fun k hk => ?_⟩, h4⟩
  have h8 := List.all_eq_true.1 h5 k (List.mem_range.2 hk)
  have hk' : k < l.toArray.size := by omega
  have ho : l.toArray[k]? = some l.toArray[k] := Array.getElem?_eq_getElem hk'
  rw [ho] at h8
  cases hn : nd[k]? with
  | none => rw [hn] at h8; cases h8
  | some need =>
    rw [hn] at h8
    simp only [Bool.and_eq_true, Option.isNone_iff_eq_none, beq_iff_eq] at h8
    obtain ⟨⟨⟨⟨g1, g2⟩, g3⟩, g4⟩, g5⟩ := h8
    refine ⟨_, ho, g1, g2, fun e he hb => ?_, fun c hc => (by rw [hc] at g5; cases g5), fun x w hb hN => ?_⟩
    · have := Array.all_eq_true'.1 g3 e he
      simp only [Bool.or_eq_true, Bool.not_eq_true', decide_eq_true_eq] at this
      rcases this with h | h
      · rw [hb] at h; cases h
      · exact h
    · have := steps_at hs k l.toArray[k] need (by rw [List.getElem?_take, if_pos hk]; simp) hn x w hb (needs_of fun j hj => by
        have := List.all_eq_true.1 g4 j hj
        simp only [Bool.and_eq_true, decide_eq_true_eq] at this
        obtain ⟨e, he, hbe⟩ := Array.any_eq_true'.1 this.2
        simp only [Bool.and_eq_true, beq_iff_eq] at hbe
        exact hN j this.1 ⟨e, he, hbe.1, hbe.2⟩)
      rwa [Nat.zero_add] at this
theorem inv_start (n m : Nat) (h : ops.size = m) : HeadInv .any ops n (Array.replicate m false) :=
  ⟨by simp [h], fun j oj _ hl => (by rw [getD_replicate_false] at hl; cases hl), fun t _ ht => getD_in (by simpa [h] using ht) (getD_replicate_false _ _)⟩
theorem wp_region_mono {id : Nat} {w : World} {l : List Oper} (n : Nat) (dst : List Nat) (nd : List (List Nat)) (sp : List VP) (hm : P.follows .mixedOrders = true) (hB : monoB l.toArray n dst nd = true) (hst : stabAll sp)
    (hs : steps P a w.drew sp dst (l.take n) nd 0) (hfin : ∀ x w', Below w.drew.heap.size w.drew w' → allSp sp dst x w' → wpList P l.toArray Q (l.drop n) (putX a dst x) w') : (Code.region id l.toArray true).wp P Q a w := by
  obtain ⟨H, hseq⟩ := heads_of hB hst hs
  have hdl : (l.drop n).length = l.toArray.size - n := by simp
  refine wp_region_any hm ?_
  have hn : n < l.toArray.size := H.lt
  have := wpAny_mono (Q := Q) H (g := l.toArray.size - n) (fun x w' hb hall => by
    have := wpAny_of_seq (md := .any) (Q' := Q) (l.drop n) n (canon l.toArray.size n) (putX a dst x) w' (fun j => by simp [List.getElem?_drop]) (by rw [hdl]; exact hseq) (hfin x w' hb (allSp_of (by rw [H.len]; exact hall)))
    rwa [hdl] at this) n (Array.replicate l.toArray.size false) (fun t => a.tmps.getD t undef) w.drew (left_all _ _ (by omega)) (inv_start n _ rfl) (Below.refl _ _) (fun j hj hl => by
      rw [show (Array.replicate l.toArray.size false).getD j true = false from getD_in (by simp only [Array.size_replicate]; omega) (getD_replicate_false _ _)] at hl
      cases hl)
  rw [putX_start, show n + (l.toArray.size - n) = l.toArray.size by omega] at this
  exact this
theorem wpIn_region_mono {F : Fence} (hO : Open F) {id : Nat} {w : World} {l : List Oper} (n : Nat) (dst : List Nat) (nd : List (List Nat)) (sp : List VP) (hm : P.follows .mixedOrders = true) (hB : monoB l.toArray n dst nd = true) (hst : stabAll sp)
    (hs : steps P a w.drew sp dst (l.take n) nd 0) (hfin : ∀ x w', Below w.drew.heap.size w.drew w' → allSp sp dst x w' → wpListIn F 0 P l.toArray Q (l.drop n) (putX a dst x) w') : (Code.region id l.toArray true).wpIn F 0 P Q a w := by
  obtain ⟨H, hseq⟩ := heads_of hB hst hs
  have hdl : (l.drop n).length = l.toArray.size - n := by simp
  refine wpIn_region_any hm ?_
  have hn : n < l.toArray.size := H.lt
  have := wpAnyIn_mono hO (Q := Q) H (g := l.toArray.size - n) (fun x w' hb hall => by
    have := wpAnyIn_of_seq (md := .any) (F := F) (Q' := Q) (l.drop n) n (canon l.toArray.size n) (putX a dst x) w' (fun j => by simp [List.getElem?_drop]) (by rw [hdl]; exact hseq) (hfin x w' hb (allSp_of (by rw [H.len]; exact hall)))
    rwa [hdl] at this) n (Array.replicate l.toArray.size false) (fun t => a.tmps.getD t undef) w.drew (left_all _ _ (by omega)) (inv_start n _ rfl) (Below.refl _ _) (fun j hj hl => by
      rw [show (Array.replicate l.toArray.size false).getD j true = false from getD_in (by simp only [Array.size_replicate]; omega) (getD_replicate_false _ _)] at hl
      cases hl)
  rw [putX_start, show n + (l.toArray.size - n) = l.toArray.size by omega] at this
  exact this
end
end Go.Proofs.YtefkmidmjofdcaaGreat
