/-
  A region that draws its order (Km), where some operations lay new boxes: those lie apart.
-/
import Derived.Test.YtghglgaimhfedaaQB
namespace Go.Proofs.Ytghglgaimhfedaa
open Go.RowKit Go.Shelf

/-- The operations 'al' of a region lay a new box each. -/
def laysAll (P : Program) (ops : Array Oper) (al : List Nat) : Prop :=
  ∀ k ∈ al, ∃ (o : Oper) (t : TypeId) (cs : Array Value), ops[k]? = some o ∧ o.op = .alloc t ∧ ∀ w, (Instr.alloc t true (.tuple #[])).run P w = .ok (.pointer (some ⟨w.heap.size, 0, none⟩)) (w.alloc (.cells cs t))
theorem mono_lay {P : Program} {o : Oper} {a : Act} {w : World} {R : Value → World → Prop} {t : TypeId} {cs : Array Value} (ho : o.op = .alloc t) (hr : (Instr.alloc t true (.tuple #[])).run P w = .ok (.pointer (some ⟨w.heap.size, 0, none⟩)) (w.alloc (.cells cs t)))
    (h : mono P o a w R) : mono P o a w fun v w' => R v w' ∧ v = .pointer (some ⟨w.heap.size, 0, none⟩) ∧ w.heap.size < w'.heap.size := by
  have h := h.out
  have e : (execOp a.eval o).run P w = .ok (.value (.pointer (some ⟨w.heap.size, 0, none⟩))) (w.alloc (.cells cs t)) := by
    unfold execOp
    simp only [ho, Sem.run_bind, Sem.run_pure, hr, Result.andThen_ok]
  rw [e] at h
  refine ⟨?_⟩
  rw [e]
  exact ⟨h, rfl, by simp⟩
section
variable {P : Program} {ops : Array Oper} {Q : Exit → Act → World → Prop} {a : Act} {w0 : World}
theorem wpAny_mono2 {n : Nat} {sp : List VP} {dst : List Nat} (H : Heads P ops a w0 n sp dst) (al : List Nat) (hal : laysAll P ops al) (haln : ∀ i ∈ al, i < n) {g : Nat}
    (hfin : ∀ x w, Below w0.heap.size w0 w → (∀ j, j < n → sAt sp j (x (dAt dst j)) w) → (∀ i j, i ∈ al → j ∈ al → i ≠ j → x (dAt dst i) ≠ x (dAt dst j)) → wpAny P .any ops Q g (canon ops.size n) (putX a dst x) w) :
    ∀ (f : Nat) (listed : Array Bool) (x : Nat → Value) (w : World), left listed n = f → HeadInv .any ops n listed → Below w0.heap.size w0 w → (∀ j, j < n → listed.getD j true = true → sAt sp j (x (dAt dst j)) w) →
      (∀ i ∈ al, listed.getD i true = true → ∃ b, x (dAt dst i) = .pointer (some ⟨b, 0, none⟩) ∧ b < w.heap.size) →
      (∀ i j, i ∈ al → j ∈ al → i ≠ j → listed.getD i true = true → listed.getD j true = true → x (dAt dst i) ≠ x (dAt dst j)) →
      wpAny P .any ops Q (f + g) listed (putX a dst x) w
  | 0, listed, x, w, hf, inv, hb, hall, hold, hdis => by
    rw [Nat.zero_add, canon_of H.lt inv hf]
    exact hfin x w hb (fun j hj => hall j hj (left_zero listed n hf j hj)) (fun i j hi hj hne => hdis i j hi hj hne (left_zero listed n hf i (haln i hi)) (left_zero listed n hf j (haln j hj)))
  | f + 1, listed, x, w, hf, inv, hb, hall, hold, hdis => by
    obtain ⟨hne, hlt⟩ := heads_ready H (by omega) inv
    rw [show f + 1 + g = (f + g) + 1 by omega]
    refine ⟨fun h => absurd h hne, fun i hi => ?_⟩
    have hin := hlt i hi
    obtain ⟨hun, o', ho', hdone⟩ := mem_ready.1 hi
    obtain ⟨o, ho, hg, hd, hlow, hnd, hstep⟩ := H.step i hin
    have : o' = o := Option.some.inj (ho'.symm.trans ho)
    subst this
    unfold wpOp
    simp only [ho]
    rw [if_pos (by simp [Region.wanted, hg])]
    have hst : mono P o' (putX a dst x) w fun v w' => (sAt sp i v w' ∧ Below w.heap.size w w') ∧ (i ∈ al → v = .pointer (some ⟨w.heap.size, 0, none⟩) ∧ w.heap.size < w'.heap.size) := by
      have h0 := hstep x w hb (by
        rintro j hj ⟨e, he, hbd, rfl⟩
        refine hall _ hj ?_
        have h1 := hdone e he hbd
        have hs : e.on < listed.size := by rw [inv.size]; have := H.lt; omega
        simpa [hs] using h1)
      by_cases hia : i ∈ al
      · obtain ⟨o2, t, cs, h1, h2, h3⟩ := hal i hia
        have : o2 = o' := Option.some.inj (h1.symm.trans ho)
        subst this
        have h4 := (mono_lay h2 (h3 w) h0).out
        refine ⟨?_⟩
        have e : (execOp (putX a dst x).eval o2).run P w = .ok (.value (.pointer (some ⟨w.heap.size, 0, none⟩))) (w.alloc (.cells cs t)) := by
          unfold execOp
          simp only [h2, Sem.run_bind, Sem.run_pure, h3 w, Result.andThen_ok]
        rw [e] at h4 ⊢
        exact ⟨h4.1, fun _ => h4.2⟩
      · refine ⟨?_⟩
        have h4 := h0.out
        generalize (execOp (putX a dst x).eval o').run P w = r at *
        cases r with
        | ok nx w' =>
          cases nx <;> simp only [monoUpon] at h4 ⊢
          case enter f args => exact h4.mono fun e w'' ⟨v, he, hw⟩ => ⟨v, he, hw, fun h => absurd h hia⟩
          all_goals exact ⟨h4, fun h => absurd h hia⟩
        | halt y w' => simp only [monoUpon] at h4
    refine .inl (wp_of_mono hst ?_)
    rintro v w' ⟨⟨hv, hb'⟩, hnew⟩
    rw [hd, putX_put (by rw [dAt_get (by rw [H.len]; exact hin)]; exact List.getElem_mem _)]
    have hl := left_set listed i hun n hin
    refine wpAny_mono2 H al hal haln hfin f _ _ w' (by omega) (inv.set hi hin) (below_tr hb hb') (heads_set H hin hall hv hb') ?_ ?_
    · intro j hj hl'
      unfold upd
      by_cases e : j = i
      · subst e
        rw [if_pos rfl]
        obtain ⟨h1, h2⟩ := hnew hj
        exact ⟨_, h1, h2⟩
      · rw [if_neg (distinct_ne H.distinct j i (by rw [H.len]; exact haln j hj) (by rw [H.len]; exact hin) e)]
        rw [getD_set_ne true (fun h => e h.symm)] at hl'
        obtain ⟨b, h1, h2⟩ := hold j hj hl'
        exact ⟨b, h1, Nat.lt_of_lt_of_le h2 hb'.size⟩
    · have key : ∀ j k, j ∈ al → k ∈ al → j ≠ k → j = i → (listed.setIfInBounds i true).getD k true = true → upd x (dAt dst i) v (dAt dst j) ≠ upd x (dAt dst i) v (dAt dst k) := by
        intro j k hj hk hjk e hlk
        subst e
        unfold upd
        rw [if_pos rfl, if_neg (distinct_ne H.distinct k j (by rw [H.len]; exact haln k hk) (by rw [H.len]; exact hin) (Ne.symm hjk))]
        rw [getD_set_ne true hjk] at hlk
        obtain ⟨b, h1, h2⟩ := hold k hk hlk
        rw [h1, (hnew hj).1]
        intro h
        injection h with h
        injection h with h
        injection h with h
        omega
      intro j k hj hk hjk hlj hlk
      by_cases e : j = i
      · exact key j k hj hk hjk e hlk
      · by_cases e' : k = i
        · exact (key k j hk hj (Ne.symm hjk) e' hlj).symm
        · unfold upd
          rw [if_neg (distinct_ne H.distinct j i (by rw [H.len]; exact haln j hj) (by rw [H.len]; exact hin) e), if_neg (distinct_ne H.distinct k i (by rw [H.len]; exact haln k hk) (by rw [H.len]; exact hin) e')]
          rw [getD_set_ne true (fun h => e h.symm)] at hlj
          rw [getD_set_ne true (fun h => e' h.symm)] at hlk
          exact hdis j k hj hk hjk hlj hlk
theorem wp_region_mono2 {id : Nat} {w : World} {l : List Oper} (al : List Nat) (hal : laysAll P l.toArray al) (n : Nat) (dst : List Nat) (nd : List (List Nat)) (sp : List VP) (hm : P.follows .mixedOrders = true)
    (hB : (monoB l.toArray n dst nd && al.all fun i => decide (i < n)) = true) (hst : stabAll sp)
    (hs : steps P a w.drew sp dst (l.take n) nd 0)
    (hfin : ∀ x w', Below w.drew.heap.size w.drew w' → allSp sp dst x w' ∧ (∀ i j, i ∈ al → j ∈ al → i ≠ j → x (dAt dst i) ≠ x (dAt dst j)) → wpList P l.toArray Q (l.drop n) (putX a dst x) w') : (Code.region id l.toArray true).wp P Q a w := by
  rw [Bool.and_eq_true] at hB
  obtain ⟨hB, haln⟩ := hB
  have haln : ∀ i ∈ al, i < n := fun i hi => by have := List.all_eq_true.1 haln i hi; simpa using this
  obtain ⟨H, hseq⟩ := heads_of hB hst hs
  have hdl : (l.drop n).length = l.toArray.size - n := by simp
  refine wp_region_any hm ?_
  have hn : n < l.toArray.size := H.lt
  have none0 : ∀ j, j < n → (Array.replicate l.toArray.size false).getD j true = false := fun j hj => getD_in (by simp only [Array.size_replicate]; omega) (getD_replicate_false _ _)
  have := wpAny_mono2 (Q := Q) H al hal haln (g := l.toArray.size - n) (fun x w' hb hall hdis => by
    have := wpAny_of_seq (md := .any) (Q' := Q) (l.drop n) n (canon l.toArray.size n) (putX a dst x) w' (fun j => by simp [List.getElem?_drop]) (by rw [hdl]; exact hseq) (hfin x w' hb ⟨allSp_of (by rw [H.len]; exact hall), hdis⟩)
    rwa [hdl] at this) n (Array.replicate l.toArray.size false) (fun t => a.tmps.getD t undef) w.drew (left_all _ _ (by omega)) (inv_start n _ rfl) (Below.refl _ _)
      (fun j hj hl => by rw [none0 j hj] at hl; cases hl) (fun i hi hl => by rw [none0 i (haln i hi)] at hl; cases hl) (fun i j hi _ _ hl _ => by rw [none0 i (haln i hi)] at hl; cases hl)
  rw [putX_start, show n + (l.toArray.size - n) = l.toArray.size by omega] at this
  exact this
end
end Go.Proofs.Ytghglgaimhfedaa
