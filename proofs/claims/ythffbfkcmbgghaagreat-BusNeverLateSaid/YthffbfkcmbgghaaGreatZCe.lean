/-
  The clean machine and the model: values that are built, rows that are made, sliced and appended to.
-/
import Derived.Test.YthffbfkcmbgghaaGreatZCd
set_option linter.all false
namespace Go.Proofs.YthffbfkcmbgghaaGreat.Cm
open Go Go.RowKit
variable [Env]
inductive PRs (φ : Phi) : List (Nat × CV) → List (Nat × Value) → Prop
 | nil : PRs φ [] []
 | cons {i : Nat} {c : CV} {v : Value} {l : List (Nat × CV)} {l' : List (Nat × Value)} (h : VR φ c v) (t : PRs φ l l') : PRs φ ((i, c) :: l) ((i, v) :: l')
theorem foldSet (off : Nat) : ∀ (vs : List Value) (k : Nat) (cs : Array Value), off + k + vs.length ≤ cs.size →
  ((vs.zipIdx k).foldl (fun (cs : Array Value) (x : Value × Nat) => cs.setIfInBounds (off + x.2) x.1) cs).toList = cs.toList.take (off + k) ++ vs ++ cs.toList.drop (off + k + vs.length)
 | [], k, cs, _ => by simp
 | v :: r, k, cs, h => by
  simp only [List.length_cons] at h
  rw [List.zipIdx_cons, List.foldl_cons, foldSet off r (k + 1) _ (by simp; omega)]
  have hs : (cs.setIfInBounds (off + k) v).toList = cs.toList.set (off + k) v := by simp
  simp only [hs]
  apply List.ext_getElem?
  intro j
  have hl : cs.toList.length = cs.size := by simp
  rw [spl _ (off + (k + 1)) r _ j (by simp; omega), spl _ (off + k) (v :: r) _ j (by omega)]
  simp only [List.length_cons]
  by_cases h1 : j < off + k
  ·rw [if_pos (by omega), if_pos h1, List.getElem?_set_ne (by omega)]
  ·rw [if_neg h1]
   by_cases h2 : j = off + k
   ·subst h2
    rw [if_pos (by omega), if_pos (by omega), List.getElem?_set_self (by omega)]; simp
   ·rw [if_neg (by omega)]
    by_cases h3 : j < off + (k + 1) + r.length
    ·rw [if_pos h3, if_pos (by omega), show j - (off + k) = (j - (off + (k + 1))) + 1 by omega, List.getElem?_cons_succ]
    ·rw [if_neg h3, if_neg (by omega), List.getElem?_drop, List.getElem?_drop, List.getElem?_set_ne (by omega)]
     congr 1; omega
theorem fillSet (off : Nat) (vs cs : Array Value) (h : off + vs.size ≤ cs.size) :
  (vs.zipIdx.foldl (fun (cs : Array Value) (x : Value × Nat) => cs.setIfInBounds (off + x.2) x.1) cs).toList = cs.toList.take off ++ vs.toList ++ cs.toList.drop (off + vs.size) := by
 have := foldSet off vs.toList 0 cs (by simpa using h)
 rw [← Array.foldl_toList, Array.toList_zipIdx]
 simpa using this
theorem fill_rel {φ : Phi} {place place' : Nat → Option (Nat × Nat)} (hpl : ∀ i, place i = place' i) : ∀ {ps : List (Nat × CV)} {ps' : List (Nat × Value)}, PRs φ ps ps' → ∀ {cs r : List CV} {cs' : Array Value}, VRs φ cs cs'.toList → fillC place cs ps = some r →
  ∃ r', Instr.fill place' cs' ps' = some r' ∧ VRs φ r r'.toList
 | _, _, .nil, cs, r, cs', hv, e => by injection e with e; subst e; exact ⟨cs', rfl, hv⟩
 | _, _, .cons (i := i) (c := c) (v := v) (l := l) (l' := l') hc ht, cs, r, cs', hv, e => by
  unfold fillC at e
  unfold Instr.fill
  rw [← hpl i]
  cases hp : place i with
  | none => simp [hp] at e
  | some q =>
   obtain ⟨off, size⟩ := q
   simp only [hp] at e ⊢
   obtain ⟨h1, h2⟩ := bif_some e
   simp only [Bool.and_eq_true] at h1
   have hs := beq_eq' h1.1
   have ho := ble_le h1.2
   have hcl := hc.cells
   have hl := hcl.len
   have hl2 := hv.len
   have hsz : v.cells.size = size := by rw [← hs, hl]; simp
   have hsz2 : cs'.size = cs.length := by rw [hl2]; simp
   have hneg : (v.cells.size ≠ size || off + v.cells.size > cs'.size) = false := by simp [hsz]; omega
   rw [hneg]
   simp only [Bool.false_eq_true, if_false]
   refine fill_rel hpl ht ?_ h2
   rw [fillSet off v.cells cs' (by omega), hsz]
   exact ((hv.take off).append hcl).append (hv.drop (off + size))
theorem fillC_len {place : Nat → Option (Nat × Nat)} : ∀ {ps : List (Nat × CV)} {cs r : List CV}, fillC place cs ps = some r → r.length = cs.length
 | [], cs, r, e => by injection e with e; subst e; rfl
 | (i, v) :: l, cs, r, e => by
  unfold fillC at e
  cases hp : place i with
  | none => simp [hp] at e
  | some q =>
   obtain ⟨off, size⟩ := q
   simp only [hp] at e
   obtain ⟨h1, h2⟩ := bif_some e
   simp only [Bool.and_eq_true] at h1
   have hs := beq_eq' h1.1
   have ho := ble_le h1.2
   rw [fillC_len h2]
   simp; omega
section
variable {P : Program} {φ : Phi} {h : CH} {w : World}
theorem places_run (w : World) : ∀ {fs : List Field} {pl : List (Nat × Nat)}, placesC P fs = some pl → (fs.mapM (fun f => Prod.mk f.offset <$> sizeOf f.type) : Sem (List (Nat × Nat))).run P w = .ok pl w
 | [], pl, e => by injection e with e; subst e; simp
 | f :: fs, pl, e => by
  unfold placesC at e
  split at e
  ·rename_i z ps h1 h2
   injection e with e; subst e
   rw [List.mapM_cons]
   simp [run_sizeOf_szC h1, places_run w h2]
  ·cases e
theorem build_rel {t : TypeId} {ps : List (Nat × CV)} {ps' : Array (Nat × Value)} {c : CV} (hp : PRs φ ps ps'.toList) (e : buildC P t ps = some c) (w : World) : ∃ u, (Instr.build t ps').run P w = .ok u w ∧ VR φ c u := by
 unfold buildC at e
 split at e
 ·rename_i z fs hz hu
  split at e
  ·rename_i pl hpl
   rw [Option.map_eq_some_iff] at e
   obtain ⟨r, hr, rfl⟩ := e
   obtain ⟨zv, hzr, hzv⟩ := run_zeroC (φ := φ) hz w
   obtain ⟨fs⟩ := fs
   have hm := places_run w hpl
   obtain ⟨r', hf, hrr⟩ := fill_rel (place := (pl[·]?)) (place' := (pl[·]?)) (fun i => rfl) hp (cs' := zv.cells) hzv.cells hr
   obtain ⟨r'⟩ := r'
   refine ⟨_, ?_, .agg hrr⟩
   simp [Instr.build, hzr, run_und hu, List.mapM_toArray, hm, hf]
  ·cases e
 ·rename_i z n el hz hu
  split at e
  ·rename_i k hk
   rw [Option.map_eq_some_iff] at e
   obtain ⟨r, hr, rfl⟩ := e
   obtain ⟨zv, hzr, hzv⟩ := run_zeroC (φ := φ) hz w
   obtain ⟨r', hf, hrr⟩ := fill_rel (place := fun i => some (i * k, k)) (place' := fun i => some (i * k, k)) (fun i => rfl) hp (cs' := zv.cells) hzv.cells hr
   obtain ⟨r'⟩ := r'
   refine ⟨_, ?_, .agg hrr⟩
   simp [Instr.build, hzr, run_und hu, run_sizeOf_szC hk, hf]
  ·cases e
 ·cases e
theorem zerosC_len (z : List CV) : ∀ n, (zerosC z n).length = n * z.length
 | 0 => by simp [zerosC]
 | n + 1 => by rw [zerosC, List.length_append, zerosC_len z n, Nat.succ_mul, Nat.add_comm]
theorem zeros_rel {z : List CV} {z' : List Value} (hz : VRs φ z z') : ∀ n, VRs φ (zerosC z n) (zerosV z' n)
 | 0 => .nil
 | n + 1 => hz.append (zeros_rel hz n)
theorem zerosV_len (z : List Value) : ∀ n, (zerosV z n).length = n * z.length
 | 0 => by simp [zerosV]
 | n + 1 => by rw [zerosV, List.length_append, zerosV_len z n, Nat.succ_mul, Nat.add_comm]
theorem zerosV_get (z : List Value) (hz : 0 < z.length) : ∀ (n j : Nat), j < n * z.length → (zerosV z n)[j]? = z[j % z.length]?
 | 0, j, h => by omega
 | n + 1, j, h => by
  rw [zerosV]
  by_cases h1 : j < z.length
  ·rw [List.getElem?_append_left h1, Nat.mod_eq_of_lt h1]
  ·rw [List.getElem?_append_right (by omega), zerosV_get z hz n _ (by rw [Nat.succ_mul] at h; omega)]
   rw [← Nat.mod_eq_sub_mod (show z.length ≤ j by omega)]
theorem made_zeros (z : Array Value) (n : Nat) (hz : 0 < z.size) : ((Array.range (n * z.size)).map (z[· % z.size]!)).toList = zerosV z.toList n := by
 apply List.ext_getElem?
 intro j
 by_cases hj : j < n * z.size
 ·rw [zerosV_get z.toList (by simpa using hz) n j (by simpa using hj)]
  have hm : j % z.size < z.size := Nat.mod_lt _ hz
  simp [hj, hm]
 ·rw [List.getElem?_eq_none (by simp; omega), List.getElem?_eq_none (by rw [zerosV_len]; simp; omega)]
theorem buildSlice_rel0 (hh : HR φ h w) {t : TypeId} {n : Nat} {ps : List (Nat × CV)} {ps' : Array (Nat × Value)} {c : CV} {h' : CH} {lw : Nat} (hp : PRs φ ps ps'.toList) (e : buildSliceC0 P t n ps h = some (c, h', lw)) :
  ∃ u w' φ', (Instr.buildSlice t n ps').run P w = .ok u w' ∧ Went φ h.n lw w φ' w' ∧ HR φ' h' w' ∧ VR φ' c u ∧ lw = h.n + 1 ∧ ∃ a, u = .slice a n n := by
 unfold buildSliceC0 at e
 split at e
 ·rename_i el hu
  split at e
  ·rename_i k z hk hz
   obtain ⟨h1, h2⟩ := bif_some e
   simp only [Bool.and_eq_true] at h1
   obtain ⟨⟨h1, h3⟩, h4⟩ := h1
   have h1 := beq_eq' h1
   have h3 := blt_lt h3
   have h4 := ble_le h4
   split at h2
   ·rename_i cs hf
    injection h2 with h2
    injection h2 with h2 h5
    injection h5 with h5 h6
    subst h2; subst h5; subst h6
    obtain ⟨zv, hzr, hzv⟩ := run_zeroC (φ := φ) hz w
    have hzl := hzv.cells.len
    have hzs : zv.cells.size = k := by rw [← h1, hzl]; simp
    have hmz := made_zeros zv.cells n (by omega)
    rw [hzs] at hmz
    obtain ⟨r', hf', hrr⟩ := fill_rel (place := fun i => some (i * k, k)) (place' := fun i => some (i * k, k)) (fun i => rfl) hp (cs' := (Array.range (n * k)).map (zv.cells[· % k]!)) (by rw [hmz]; exact zeros_rel hzv.cells n) hf
    obtain ⟨g1, g2, g3⟩ := row_rel' hh el hrr
    refine ⟨_, _, _, ?_, g1, g2, VR.sl (o' := 0) (c := n) g3 (.inl rfl) (Nat.le_refl _) ?_, rfl, _, rfl⟩
    ·have hnb : ¬ (2 ^ 24 < n * k) := by omega
     by_cases h0 : n * k = 0
     ·have hr0 : (Array.range (n * k)).map (fun x => (#[] : Array Value)[x % 0]!) = (Array.range (n * k)).map (zv.cells[· % k]!) := by rw [h0]; simp
      rw [← hr0] at hf'
      simp [Instr.buildSlice, run_und hu, run_sizeOf_szC hk, hnb, h0, newRow]
      simp [h0] at hf'
      simp [hf']
     ·rw [show (fun x : Nat => zv.cells[x % k]!) = (fun x : Nat => zv.cells[x % zv.cells.size]!) by rw [hzs]] at hf'
      simp [Instr.buildSlice, run_und hu, run_sizeOf_szC hk, hnb, h0, hzr, hf', newRow]
    ·have : r'.size = n * k := by
      have e1 := hrr.len
      have e2 := fillC_len hf
      rw [zerosC_len, h1] at e2
      simp at e1; omega
     show 0 + n * k ≤ r'.size
     omega
   ·cases h2
  ·cases e
 ·cases e
theorem buildSlice_rel (hh : HR φ h w) {t : TypeId} {n : Nat} {ps : List (Nat × CV)} {ps' : Array (Nat × Value)} {c : CV} {h' : CH} {lw : Nat} (hp : PRs φ ps ps'.toList) (e : buildSliceC P t n ps h = some (c, h', lw)) :
  ∃ u w' φ', (Instr.buildSlice t n ps').run P w = .ok u w' ∧ Went φ h.n lw w φ' w' ∧ HR φ' h' w' ∧ VR φ' c u := by
 unfold buildSliceC at e
 cases hn : Nat.beq n 0 with
 | true =>
  rw [hn, cond_true] at e
  have h0 := beq_eq' hn
  subst h0
  split at e
  ·rename_i r hr
   obtain ⟨c0, h0, l0⟩ := r
   injection e with e; injection e with e1 e; injection e with e2 e3
   subst e1; subst e2; subst e3
   obtain ⟨u, w', φ', g1, g2, _, _, rfl, a, rfl⟩ := buildSlice_rel0 hh hp hr
   have hfr : ∀ r, r < w.heap.size → w'.heap[r]? = w.heap[r]? := fun r hr => g2.fr r hr fun b p hb e => by have := (hh.lt b p e).1; omega
   exact ⟨_, w', φ, g1, ⟨Phi.le_refl _, fun _ _ h => .inl h, g2.os, g2.tape, g2.output, g2.size, fun r hr _ => hfr r hr⟩,
    ⟨fun b o p e1 e2 => by rw [hfr p.r (hh.lt b p e2).2]; exact hh.ob b o p e1 e2, hh.ap, fun b p e => ⟨(hh.lt b p e).1, Nat.lt_of_lt_of_le (hh.lt b p e).2 g2.size⟩, hh.nw, hh.gl⟩, .nils⟩
  ·cases e
 | false =>
  rw [hn, cond_false] at e
  obtain ⟨u, w', φ', g1, g2, g3, g4, _⟩ := buildSlice_rel0 hh hp e
  exact ⟨u, w', φ', g1, g2, g3, g4⟩
end
end Go.Proofs.YthffbfkcmbgghaaGreat.Cm
