/-
  A region that draws its order, inside a fence: reads first, one forced tail behind them; one walk serves every order.
-/
import Derived.Test.YtefkmidmjofdcaaGreatZKf
import Derived.StillTailTactics
import Derived.OrdersIn
set_option linter.all false
namespace Go.Proofs.YtefkmidmjofdcaaGreat
open Go.RowKit Go.Shelf

def noDefer (l : List Oper) : Bool := l.all fun o => match o.op with | .defer _ => false | _ => true
/-- A fence that lets everything through. -/
structure Open (F : Fence) : Prop where
  fn : ∀ f, F.fn f
  depth : F.depth = none
  calls : ∀ {P : Program} {f : FuncId} {args : Array Value} {w : World} {R : Ending → World → Prop}, Calls P f args w R → CallsIn F 0 P f args w R
theorem open_wide : Open Fence.wide := ⟨fun _ => trivial, rfl, fun h => atWide h⟩
theorem open_round (l : Nat) : Open (Fence.wide.inRound l) := ⟨fun _ => trivial, rfl, fun h => inRnd l h⟩
section
variable {F : Fence} {P : Program} {ops : Array Oper} {md : Region.Mode} {w : World}
theorem wpOpIn_of_stOp (hO : Open F) {i : Nat} {a : Act} {K : Act → Prop} {K' : Act → World → Prop} {Q' : Exit → Act → World → Prop} (hnd : ∀ o : Oper, ops[i]? = some o → ∀ c : Call, o.op ≠ .defer c)
    (h : ∀ a, K a → K' a w) (hh : stOp P ops w i K a) : wpOpIn F 0 P ops Q' i K' a w := by
  unfold stOp at hh
  unfold wpOpIn
  split
  · rename_i ho; simp only [ho] at hh; exact h _ hh
  · rename_i o ho
    simp only [ho] at hh
    split
    · rename_i hw
      simp only [hw, if_true] at hh
      refine ⟨fun f _ => hO.fn f, ?_⟩
      rw [Oper.semAt_eq _ _ _ (hnd o ho)]
      unfold Oper.still at hh
      generalize (execOp a.eval o).run P w = r at *
      cases r with
      | ok nx w' =>
        cases nx <;> simp only [Oper.stillUpon] at hh
        case value v => obtain ⟨rfl, h1⟩ := hh; exact h _ h1
        case skip => obtain ⟨rfl, h1⟩ := hh; exact h _ h1
        case enter f args =>
          obtain ⟨rfl, v, hc, hn⟩ := hh
          refine ⟨fun hs => absurd hs (by rw [hO.depth]; simp), (hO.calls hc).mono ?_⟩
          rintro e w'' ⟨rfl, rfl⟩
          exact h _ hn
      | halt x w' => cases hh
    · rename_i hw
      simp only [hw] at hh
      exact ⟨fun f _ => hO.fn f, h _ hh⟩
theorem wpAnyIn_of_head (hO : Open F) (hnd : ∀ (i : Nat) (o : Oper), ops[i]? = some o → ∀ c : Call, o.op ≠ .defer c) {n g : Nat} {L : Array Bool → Act → Prop} {Q' : Exit → Act → World → Prop} (hL : ∀ listed a, L listed a → wpAnyIn F 0 P md ops Q' g listed a w) :
    ∀ (f : Nat) (listed : Array Bool) (a : Act), wpAnyL P md ops w n L f listed a → wpAnyIn F 0 P md ops Q' (f + g) listed a w
  | 0, listed, a, h => by rw [Nat.zero_add]; exact hL _ _ h
  | f + 1, listed, a, h => by
    rw [show f + 1 + g = (f + g) + 1 by omega]
    exact ⟨fun h0 => absurd h0 h.1, fun i hi => wpOpIn_of_stOp hO (hnd i) (fun a' h' => wpAnyIn_of_head hO hnd hL f _ a' h') (h.2 i hi).2⟩
theorem wpAnyIn_of_seq {Q' : Exit → Act → World → Prop} : ∀ (l : List Oper) (k : Nat) (listed : Array Bool) (a : Act) (w : World), (∀ j, l[j]? = ops[k + j]?) →
    Region.seqB md ops l.length k listed = true → wpListIn F 0 P ops Q' l a w → wpAnyIn F 0 P md ops Q' l.length listed a w
  | [], _, _, _, _, _, hB, h => ⟨by simpa [Region.seqB] using hB, h⟩
  | o :: l, k, listed, a, w, hl, hB, h => by
    have h0 : ops[k]? = some o := by simpa using (hl 0).symm
    simp only [List.length_cons, Region.seqB, Bool.and_eq_true, decide_eq_true_eq] at hB
    refine ⟨fun h1 => (by rw [hB.1] at h1; cases h1), fun i hi => ?_⟩
    rw [hB.1] at hi
    have hik : i = k := by simpa using hi
    subst hik
    have hw : wpOpIn F 0 P ops Q' i (wpListIn F 0 P ops Q' l) a w := by unfold wpOpIn; simp only [h0]; exact h
    exact wpOpIn_mono (fun a' w' h' => wpAnyIn_of_seq l (i + 1) _ a' w' (fun j => by have := hl (j + 1); simpa [Nat.add_assoc, Nat.add_comm 1 j] using this) hB.2 h') hw
theorem wpIn_region_still_tail (hO : Open F) {id : Nat} {Q : Exit → Act → World → Prop} {a : Act} {w : World} {l : List Oper} (n : Nat) (hm : P.follows .mixedOrders = true) (hB : Region.lexTailB .any l.toArray n = true) (hd : noDefer l = true)
    (h : wpStill P l.toArray w.drew (fun a' => wpListIn F 0 P l.toArray Q (l.drop n) a' w.drew) (l.take n) a) : (Code.region id l.toArray true).wpIn F 0 P Q a w := by
  have hnd : ∀ (i : Nat) (o : Oper), l.toArray[i]? = some o → ∀ c : Call, o.op ≠ .defer c := by
    intro i o ho c hc
    have hm : o ∈ l := List.mem_of_getElem? (by simpa using ho)
    have := List.all_eq_true.1 hd o hm
    rw [hc] at this
    cases this
  simp only [Region.lexTailB, Bool.and_eq_true, decide_eq_true_eq] at hB
  obtain ⟨⟨⟨⟨hsel, hn⟩, hs⟩, hc⟩, hlex⟩ := hB
  have hn' : n < l.length := by simpa using hn
  have htl : (l.take n).length = n := by simp; omega
  have hdl : (l.drop n).length = l.toArray.size - n := by simp
  have inv0 : HeadInv .any l.toArray n (Array.replicate l.toArray.size false) :=
    ⟨by simp, fun j oj _ hl => (by rw [getD_replicate_false] at hl; cases hl), fun t _ ht => getD_in (by simpa using ht) (getD_replicate_false _ _)⟩
  have H := wpAnyL_lex (md := .any) (g := l.toArray.size - n) hsel hs hc hn (l.take n) 0 _ a (fun j hj => by
    have hj' : j < n := by rw [htl] at hj; exact hj
    simp [hj']) (by simpa using htl) inv0 (by rw [htl]; exact hlex) h
  refine wpIn_region_any hm ?_
  have := wpAnyIn_of_head hO hnd (Q' := Q) (g := l.toArray.size - n) (fun listed a' hL => by
    have := wpAnyIn_of_seq (md := .any) (Q' := Q) (l.drop n) n listed a' w.drew (fun j => by simp [List.getElem?_drop]) (by rw [hdl]; exact hL.1) hL.2
    rwa [hdl] at this) _ _ _ H
  rw [htl, show n + (l.toArray.size - n) = l.toArray.size by omega] at this
  exact this

/-- Every order in which a region's operations may come. -/
def orders (md : Region.Mode) (ops : Array Oper) : Nat → Array Bool → List (List Nat)
  | 0, _ => [[]]
  | f + 1, listed => if Region.ready md ops listed = [] then [[]] else (Region.ready md ops listed).flatMap fun i => (orders md ops f (listed.setIfInBounds i true)).map (i :: ·)
theorem go_mem : ∀ (f t : Nat) (listed : Array Bool), Region.linearise.go md ops f t listed [] ∈ orders md ops f listed := by
  intro f
  induction f with
  | zero => intro t listed; simp [Region.linearise.go, orders]
  | succ f ih =>
    intro t listed
    show (match (Region.ready md ops listed)[t % (Region.ready md ops listed).length]? with
      | some i => Region.linearise.go md ops f (t / (Region.ready md ops listed).length) (listed.setIfInBounds i true) [i]
      | none => [].reverse) ∈ orders md ops (f + 1) listed
    simp only [orders]
    by_cases h : Region.ready md ops listed = []
    · rw [if_pos h, h]
      simp
    · rw [if_neg h]
      have hpos : 0 < (Region.ready md ops listed).length := List.length_pos_iff.2 h
      have hlt : t % (Region.ready md ops listed).length < (Region.ready md ops listed).length := Nat.mod_lt _ hpos
      rw [List.getElem?_eq_getElem hlt]
      simp only []
      rw [linearise_go_acc, List.reverse_singleton, List.singleton_append]
      exact List.mem_flatMap.2 ⟨_, List.getElem_mem hlt, List.mem_map.2 ⟨_, ih _ _, rfl⟩⟩
theorem wpOpsIn_list {n : Nat} {Q : Exit → Act → World → Prop} : ∀ (ord : List Nat) (a : Act) (w : World), wpListIn F n P ops Q (ord.filterMap fun i => ops[i]?) a w → wpOpsIn F n P ops Q ord a w
  | [], a, w, h => by simpa [wpOpsIn, wpListIn] using h
  | i :: ord, a, w, h => by
    rw [wpOpsIn_cons]
    unfold wpOpIn
    cases ho : ops[i]? with
    | none => exact wpOpsIn_list ord a w (by simpa [ho] using h)
    | some o =>
      simp only [List.filterMap_cons, ho] at h
      have h' : wpOpIn F n P ops Q i (wpListIn F n P ops Q (ord.filterMap fun i => ops[i]?)) a w := by unfold wpOpIn; simp only [ho]; exact h
      have h'' := wpOpIn_mono (fun a' w' hh => wpOpsIn_list ord a' w' hh) h'
      unfold wpOpIn at h''
      simp only [ho] at h''
      exact h''
/-- A region that draws its order, order by order. -/
theorem wpIn_region_orders {n : Nat} {id : Nat} {Q : Exit → Act → World → Prop} {a : Act} {w : World} {l : List Oper} (L : List (List Nat)) (hm : P.follows .mixedOrders = true)
    (hL : orders .any l.toArray l.toArray.size (Array.replicate l.toArray.size false) = L)
    (h : ∀ x ∈ L, wpListIn F n P l.toArray Q (x.filterMap fun i => l.toArray[i]?) a w.drew) : (Code.region id l.toArray true).wpIn F n P Q a w :=
  wpIn_region_draw fun t => by
    simp only [Region.schedule, hm, Bool.true_or, if_true]
    have h1 := go_mem (md := .any) (ops := l.toArray) l.toArray.size t (Array.replicate l.toArray.size false)
    rw [hL] at h1
    exact wpOpsIn_list _ _ _ (h _ h1)
end
end Go.Proofs.YtefkmidmjofdcaaGreat
