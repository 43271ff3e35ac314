/-
  Opening arguments that are slices of pairs, and closing a law's row: what lay before the call lies as it lay.
-/
import Derived.Test.YtghglgaimhfedaaRows
import Derived.Test.YtghglgaimhfedaaZKb
import Derived.ProofKit
import Derived.OpenShut
import Derived.Deep.Slices
import Derived.Carry
set_option linter.all false
namespace Go.Proofs.Ytghglgaimhfedaa
open Go.ChangeShapes Go.WideShapes Go.ChangeAt Go.RowKit Go.Deep

theorem list_of {α : Type} (R : Nat → α → Prop) : ∀ n, (∀ i, i < n → ∃ a, R i a) → ∃ xs : List α, xs.length = n ∧ ∀ i (h : i < xs.length), R i xs[i]
  | 0, _ => ⟨[], rfl, fun i h => by simp at h⟩
  | n + 1, h => by
    obtain ⟨xs, hl, hx⟩ := list_of R n (fun i hi => h i (by omega))
    obtain ⟨a, ha⟩ := h n (by omega)
    refine ⟨xs ++ [a], by simp [hl], fun i hi => ?_⟩
    by_cases e : i < xs.length
    · rw [List.getElem_append_left e]; exact hx i e
    · have hi' : i = n := by simp at hi; omega
      subst hi'
      rw [List.getElem_append_right (by omega)]
      simpa using ha
section
variable {H : Type} {enc : TypeId × Value → H} {P : Program} {w : World} {base : Nat} {spare : Nat → Bool} {held : Bool}
theorem trod_pair {t e : TypeId} {fuel : Nat} {cs : List Value} {x : DataW H × List MemPlace} (ht : P.underlying t = some (.array 2 e)) (he : P.underlying e = some (.int .i64)) (hc : P.cellsOf e = 1) (hc2 : P.cellsOf t = 2)
    (h : DataW.trod enc P w base spare held fuel t cs = some x) : ∃ a b : Int, cs = [.int .i64 a, .int .i64 b] := by
  obtain ⟨xs, m, _, _, hl, hxl, hx⟩ := DataW.trod_array ht h
  rw [hc2] at hl
  match cs, hl with
  | [c0, c1], _ =>
    have h0 := hx 0 (by omega)
    have h1 := hx 1 (by omega)
    simp only [hc] at h0 h1
    rw [List.getElem?_eq_getElem (by omega)] at h0 h1
    simp at h0 h1
    obtain ⟨a, ha, _⟩ := DataW.trod_int he h0
    obtain ⟨b, hb, _⟩ := DataW.trod_int he h1
    simp at ha hb
    exact ⟨a, b, by rw [ha, hb]⟩
theorem arg_pairs {t e i : TypeId} {r : Reach} {b0 : Nat} {v : Value} {d : DataW H} {p : List MemPlace} (ht : P.underlying t = some (.slice e)) (he : P.underlying e = some (.array 2 i)) (hi : P.underlying i = some (.int .i64)) (hc : P.cellsOf i = 1) (hc2 : P.cellsOf e = 2)
    (hv : Value.okWide P w r b0 t v) (h : DataW.Trod enc P w 0 spare held t v d p) : ∃ xs : List (Int × Int), Sl e2 2 w v xs ∧ xs.length ≤ maxLen := by
  obtain ⟨a, len, cap, rfl⟩ := okWide_slice ht hv
  obtain ⟨fuel, h⟩ := h
  rcases open_slice ht h with ⟨h0, _⟩ | ⟨a', len', cap', m, n, D, Pl, hcs, _, hl, hm, hmm, _, hel⟩
  · simp [Value.cells] at h0
    obtain ⟨rfl, rfl, rfl⟩ := h0
    exact ⟨[], Sl.nil _ _ _, by simp⟩
  · simp [Value.cells] at hcs
    obtain ⟨rfl, rfl, rfl⟩ := hcs
    have hml : len ≤ m := by rw [hmm]; split <;> omega
    obtain ⟨xs, hxl, hx⟩ := list_of (fun i (q : Int × Int) => w.cell? ((a'.add (i * 2)).add 0) = some (.int .i64 q.1) ∧ w.cell? ((a'.add (i * 2)).add 1) = some (.int .i64 q.2)) len (fun k hk => by
      obtain ⟨cs', hcs', ht'⟩ := hel k (by omega)
      rw [hc2] at hcs'
      obtain ⟨x, y, rfl⟩ := trod_pair he hi hc hc2 ht'
      obtain ⟨_, _, hat⟩ := World.cells?_some hcs'
      exact ⟨(x, y), by simpa using hat 0 (by omega), by simpa using hat 1 (by omega)⟩)
    refine ⟨xs, ⟨some a', cap, by rw [hxl], by omega, fun hne => ?_⟩, by omega⟩
    have hpos : 0 < xs.length := List.length_pos_iff.2 hne
    have hsp : a'.spot = none := by
      have h0 := (hx 0 hpos).1
      unfold World.cell? at h0
      cases hs : a'.spot with
      | none => rfl
      | some q =>
        have e1 : ((a'.add (0 * 2)).add 0).spot = some q := by simp [Addr.add, hs]
        rw [e1] at h0
        split at h0 <;> simp at h0
    obtain ⟨b, o, s⟩ := a'
    simp only at hsp
    subst hsp
    refine ⟨b, o, rfl, ?_, fun i hi' j hj => ?_⟩
    · have := cell_lt (hx 0 hpos).1
      simpa [Addr.add] using this
    · obtain ⟨h0, h1⟩ := hx i hi'
      match j, hj with
      | 0, _ => rw [Go.WideShapes.add_plain, Go.WideShapes.add_plain] at h0; simpa [e2] using h0
      | 1, _ => rw [Go.WideShapes.add_plain, Go.WideShapes.add_plain] at h1; simpa [e2] using h1
theorem arg_pair {t e : TypeId} {r : Reach} {b0 : Nat} {v : Value} {d : DataW H} {p : List MemPlace} (ht : P.underlying t = some (.array 2 e)) (he : P.underlying e = some (.int .i64)) (hc : P.cellsOf e = 1) (hc2 : P.cellsOf t = 2)
    (hv : Value.okWide P w r b0 t v) (h : DataW.Trod enc P w base spare held t v d p) : ∃ a b : Int, v = .agg #[.int .i64 a, .int .i64 b] := by
  have : ∃ cs, v = .agg cs ∧ cs.size = P.cellsOf t := by
    simp only [Value.okWide, ht] at hv
    obtain ⟨cs, h1, h2, _⟩ := hv
    exact ⟨cs, h1, h2⟩
  obtain ⟨cs, rfl, _⟩ := this
  obtain ⟨fuel, h⟩ := h
  obtain ⟨a, b, hab⟩ := trod_pair ht he hc hc2 h
  refine ⟨a, b, ?_⟩
  simp [Value.cells] at hab
  congr 1
  apply Array.toList_inj.1
  simpa using hab
theorem trodAll_below (hl : laidOutB P = true) {W W' : World} (hb : Below W.heap.size W W') : ∀ {ts : List TypeId} {vs : List Value} {ds : List (DataW H)} {ps : List MemPlace}, (∀ t ∈ ts, P.readableRec t = true ∧ t < P.types.size) → (∀ x ∈ ps, x.block < W.heap.size) →
    DataW.TrodAll enc P W 0 (fun _ => true) true ts vs ds ps → DataW.TrodAll enc P W' 0 (fun b => decide (b < W.heap.size)) true ts vs ds ps
  | [], vs, ds, ps, _, _, h => by cases vs <;> cases ds <;> simp [DataW.TrodAll] at h ⊢ <;> exact h
  | t :: ts, vs, ds, ps, hr, hlt, h => by
    obtain ⟨v, vs', d, ds', p, q, rfl, rfl, rfl, h1, h2⟩ := trodAll_cons h
    have h3 := Below.trod hl (hr t (by simp)).1 (hr t (by simp)).2 h1 hb (fun x hx => hlt x (by simp [hx]))
    exact trodAll_cons_mk h3 (trodAll_below hl hb (fun t' ht' => hr t' (by simp [ht'])) (fun x hx => hlt x (by simp [hx])) h2)
/-- A law's row closed: it has returned true, and what lay before lies as it lay. -/
theorem post_true {f : Func} {s : ChangeSpec} {W W' : World} {args : Array Value} {ds gs : List (DataW H)} {before : List MemPlace} {tb : TypeId} (hl : laidOutB P = true) (hr : ∀ t ∈ f.params.toList, P.readableRec t = true ∧ t < P.types.size)
    (hres : f.resultTypes = #[tb]) (htb : P.underlying tb = some .bool) (hvars : s.vars = []) (hfn : (s.fn H (ds ++ gs)).results = [.lit (.bool true)] ∧ (s.fn H (ds ++ gs)).args = ds ∧ (s.fn H (ds ++ gs)).vars = [])
    (hW : DataW.Whole enc P f.params.toList s.vars false W args.toList ds gs before) (hb : Below W.heap.size W W') : s.post enc P f false true false false W args (.bool true) W' := by
  have hW' := hW
  obtain ⟨p, q, hA, hV, rfl, hfz, hnd⟩ := hW
  rw [hvars] at hV
  obtain ⟨rfl, rfl⟩ := trodVars_none hV
  refine ⟨ds, [], p ++ [], [], p, [], hW', ?_, ?_, ?_, ?_, fun h => by cases h⟩
  · rw [hfn.1, hres]
    exact trodAll_cons_mk (shut_bool htb true) trodAll_mk0
  · rw [hfn.2.1]
    exact trodAll_below hl hb hr (fun x hx => by simpa using hW'.lt x (by simp [hx])) hA
  · rw [hfn.2.2, hvars]
    simp [DataW.TrodVars]
  · refine ⟨hb.os, hb.output, fun i hi => ?_⟩
    rw [hb.block i hi]
    cases hx : W.heap[i]? with
    | none => rfl
    | some o => cases o <;> simp
end
end Go.Proofs.Ytghglgaimhfedaa
