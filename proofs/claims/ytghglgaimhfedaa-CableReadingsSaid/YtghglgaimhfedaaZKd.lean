/-
  Opening arguments: slices whose elements read as rows of cells, structs of ints, one after another; closing a law's row. Nothing here names a function of the program.
-/
import Derived.Test.YtghglgaimhfedaaZKc
import Derived.ChangeSame
set_option linter.all false
namespace Go.Proofs.Ytghglgaimhfedaa
open Go.ChangeShapes Go.WideShapes Go.ChangeAt Go.RowKit Go.Deep

section
variable {H : Type} {encH : TypeId × Value → H} {P : Program} {w : World} {base : Nat} {spare : Nat → Bool} {held : Bool}
theorem spot_none {a : Addr} {v : Value} (h : w.cell? a = some v) : a.spot = none := by
  unfold World.cell? at h
  cases hs : a.spot with
  | none => rfl
  | some q =>
    rw [hs] at h
    split at h <;> simp at h
theorem trod_one {e : TypeId} {fuel : Nat} {cs : List Value} {x : DataW H × List MemPlace} (he : P.underlying e = some (.int .i64)) (h : DataW.trod encH P w base spare held fuel e cs = some x) : ∃ n : Int, cs = e1 n := by
  obtain ⟨a, ha, _⟩ := DataW.trod_int he h
  exact ⟨a, ha⟩
theorem trod_two {t i : TypeId} {f0 f1 : Field} {fuel : Nat} {cs : List Value} {x : DataW H × List MemPlace} (ht : P.underlying t = some (.struct #[f0, f1])) (hi : P.underlying i = some (.int .i64)) (hc : P.cellsOf i = 1) (hc2 : P.cellsOf t = 2)
    (o0 : f0.offset = 0 ∧ f0.type = i) (o1 : f1.offset = 1 ∧ f1.type = i) (h : DataW.trod encH P w base spare held fuel t cs = some x) : ∃ p : Int × Int, cs = e2 p := by
  obtain ⟨xs, n, _, _, hl, hxl, hf⟩ := DataW.trod_struct ht h
  rw [hc2] at hl
  match cs, hl with
  | [c0, c1], _ =>
    have h0 := hf 0 f0 rfl
    have h1 := hf 1 f1 rfl
    rw [o0.1, o0.2, hc, List.getElem?_eq_getElem (by rw [hxl]; simp)] at h0
    rw [o1.1, o1.2, hc, List.getElem?_eq_getElem (by rw [hxl]; simp)] at h1
    obtain ⟨a, ha⟩ := trod_one hi h0
    obtain ⟨b, hb⟩ := trod_one hi h1
    simp [e1] at ha hb
    exact ⟨(a, b), by rw [ha, hb]; rfl⟩
theorem trod_three {t i : TypeId} {f0 f1 f2 : Field} {fuel : Nat} {cs : List Value} {x : DataW H × List MemPlace} (ht : P.underlying t = some (.struct #[f0, f1, f2])) (hi : P.underlying i = some (.int .i64)) (hc : P.cellsOf i = 1) (hc2 : P.cellsOf t = 3)
    (o0 : f0.offset = 0 ∧ f0.type = i) (o1 : f1.offset = 1 ∧ f1.type = i) (o2 : f2.offset = 2 ∧ f2.type = i) (h : DataW.trod encH P w base spare held fuel t cs = some x) : ∃ p : Int × Int × Int, cs = e3 p := by
  obtain ⟨xs, n, _, _, hl, hxl, hf⟩ := DataW.trod_struct ht h
  rw [hc2] at hl
  match cs, hl with
  | [c0, c1, c2], _ =>
    have h0 := hf 0 f0 rfl
    have h1 := hf 1 f1 rfl
    have h2 := hf 2 f2 rfl
    rw [o0.1, o0.2, hc, List.getElem?_eq_getElem (by rw [hxl]; simp)] at h0
    rw [o1.1, o1.2, hc, List.getElem?_eq_getElem (by rw [hxl]; simp)] at h1
    rw [o2.1, o2.2, hc, List.getElem?_eq_getElem (by rw [hxl]; simp)] at h2
    obtain ⟨a, ha⟩ := trod_one hi h0
    obtain ⟨b, hb⟩ := trod_one hi h1
    obtain ⟨c, hc'⟩ := trod_one hi h2
    simp [e1] at ha hb hc'
    exact ⟨(a, b, c), by rw [ha, hb, hc']; rfl⟩
/-- A slice's cell, read: its elements as a list. -/
theorem trod_list {α : Type} {enc : α → List Value} {s : Nat} (hs : 0 < s) (hlen : ∀ x, (enc x).length = s) {t e : TypeId} (ht : P.underlying t = some (.slice e)) (hc : P.cellsOf e = s)
    (hel : ∀ (fuel : Nat) (cs : List Value) (x : DataW H × List MemPlace), DataW.trod encH P w base spare held fuel e cs = some x → ∃ a : α, cs = enc a)
    {fuel : Nat} {cs : List Value} {x : DataW H × List MemPlace} (h : DataW.trod encH P w base spare held fuel t cs = some x) : ∃ (v : Value) (xs : List α), cs = [v] ∧ Sl enc s w v xs ∧ xs.length ≤ maxLen := by
  rcases open_slice ht h with ⟨h0, _⟩ | ⟨a', len, cap, m, n, D, Pl, hcs, _, hl, hm, hmm, _, hi⟩
  · exact ⟨_, [], h0, Sl.nil _ _ _, by simp⟩
  · have hml : len ≤ m := by rw [hmm]; split <;> omega
    obtain ⟨xs, hxl, hx⟩ := list_of (fun i (q : α) => ∀ j, j < s → w.cell? ((a'.add (i * s)).add j) = (enc q)[j]?) len (fun k hk => by
      obtain ⟨cs', hcs', ht'⟩ := hi k (by omega)
      rw [hc] at hcs'
      obtain ⟨q, rfl⟩ := hel _ _ _ ht'
      obtain ⟨_, _, hat⟩ := World.cells?_some hcs'
      exact ⟨q, fun j hj => hat j hj⟩)
    refine ⟨_, xs, hcs, ⟨some a', cap, by rw [hxl], by omega, fun hne => ?_⟩, by omega⟩
    have hpos : 0 < xs.length := List.length_pos_iff.2 hne
    have h0 := hx 0 hpos 0 hs
    rw [List.getElem?_eq_getElem (by rw [hlen]; exact hs)] at h0
    have hsp := spot_none h0
    obtain ⟨b, o, sp⟩ := a'
    have : sp = none := by simpa [Addr.add] using hsp
    subst this
    refine ⟨b, o, rfl, ?_, fun i hi' j hj => ?_⟩
    · have := cell_lt h0
      simpa [Addr.add] using this
    · have := hx i hi' j hj
      rwa [Go.WideShapes.add_plain, Go.WideShapes.add_plain] at this
theorem arg_list {α : Type} {enc : α → List Value} {s : Nat} (hs : 0 < s) (hlen : ∀ x, (enc x).length = s) {t e : TypeId} {r : Reach} {b0 : Nat} {v : Value} {d : DataW H} {p : List MemPlace} (ht : P.underlying t = some (.slice e)) (hc : P.cellsOf e = s)
    (hel : ∀ (fuel : Nat) (cs : List Value) (x : DataW H × List MemPlace), DataW.trod encH P w base spare held fuel e cs = some x → ∃ a : α, cs = enc a)
    (hv : Value.okWide P w r b0 t v) (h : DataW.Trod encH P w base spare held t v d p) : ∃ xs : List α, Sl enc s w v xs ∧ xs.length ≤ maxLen := by
  obtain ⟨a, len, cap, rfl⟩ := okWide_slice ht hv
  obtain ⟨fuel, h⟩ := h
  obtain ⟨u, xs, h1, h2, h3⟩ := trod_list hs hlen ht hc hel h
  simp [Value.cells] at h1
  subst h1
  exact ⟨xs, h2, h3⟩
theorem arg_agg {t : TypeId} {fs : Array Field} {r : Reach} {b0 : Nat} {v : Value} {d : DataW H} {p : List MemPlace} (ht : P.underlying t = some (.struct fs)) (hv : Value.okWide P w r b0 t v) (h : DataW.Trod encH P w base spare held t v d p) :
    ∃ cs fuel, v = .agg cs ∧ DataW.trod encH P w base spare held fuel t cs.toList = some (d, p) := by
  have : ∃ cs, v = .agg cs ∧ cs.size = P.cellsOf t := by
    simp only [Value.okWide, ht] at hv
    obtain ⟨cs, h1, h2, _⟩ := hv
    exact ⟨cs, h1, h2⟩
  obtain ⟨cs, rfl, _⟩ := this
  obtain ⟨fuel, h⟩ := h
  exact ⟨cs, fuel, rfl, h⟩
end
end Go.Proofs.Ytghglgaimhfedaa
