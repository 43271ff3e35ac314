/-
  The clean machine and the model: what single operations do, those that make no call.
-/
import Derived.Test.YthffbfkcmbgghaaGreatZCc
import Derived.Deep.AppendSrc
import Derived.Laws.CopyRow
import Derived.Laws.OwnMore
set_option linter.all false
namespace Go.Proofs.YthffbfkcmbgghaaGreat.Cm
open Go Go.RowKit
variable [Env]
section
variable {P : Program} {φ : Phi} {h : CH} {w : World}
theorem run_und {t : TypeId} {d : TypeDesc} (e : P.underlying t = some d) (w : World) : (underlying t).run P w = .ok d w := run_underlying e w
theorem szC_info {t : TypeId} {n : Nat} (e : szC P t = some n) : ∃ i, P.info? t = some i ∧ i.size = n := by
 unfold szC at e
 rw [Option.map_eq_some_iff] at e
 exact e
theorem run_sizeOf_szC {t : TypeId} {n : Nat} (e : szC P t = some n) (w : World) : (sizeOf t).run P w = .ok n w := by
 obtain ⟨i, hi, rfl⟩ := szC_info e
 simp [sizeOf, typeInfo, hi]
theorem run_isAggC {t : TypeId} {b : Bool} (e : isAggC P t = some b) (w : World) : (isAgg t).run P w = .ok b w := by
 unfold isAggC at e
 cases hu : P.underlying t with
 | none => simp [hu] at e
 | some d =>
  simp only [hu] at e
  cases d <;> (injection e with e; subst e; simp [isAgg, run_und hu])
theorem zeroC_info {t : TypeId} {z : CV} (e : zeroC P t = some z) : ∃ i v, P.info? t = some i ∧ i.zero = some v ∧ ofV v = some z := by
 unfold zeroC at e
 cases hi : P.info? t with
 | none => simp [hi] at e
 | some i =>
  simp only [hi, Option.bind_some] at e
  cases hz : i.zero with
  | none => simp [hz] at e
  | some v => simp only [hz, Option.bind_some] at e; exact ⟨i, v, rfl, hz, e⟩
theorem run_zeroC {t : TypeId} {z : CV} (e : zeroC P t = some z) (w : World) : ∃ v, (zeroValue t).run P w = .ok v w ∧ VR φ z v := by
 obtain ⟨i, v, hi, hz, ho⟩ := zeroC_info e
 exact ⟨v, by simp [zeroValue, typeInfo, hi, hz], ofV_rel ho⟩
theorem add_lit' (r o j : Nat) : (⟨r, o, none⟩ : Addr).add j = ⟨r, o + j, none⟩ := by
 unfold Addr.add; split <;> simp_all
theorem cell_of_cells {g : Nat} {cs : Array Value} {t : TypeId} {fz : Nat × Nat} (hg : w.heap[g]? = some (.cells cs t fz)) (j : Nat) : w.cell? ⟨g, j, none⟩ = cs[j]? := by
 simp [World.cell?, hg]
theorem bif_some {c : Bool} {α : Type} {x : Option α} {y : α} (e : (bif c then x else none) = some y) : c = true ∧ x = some y := by
 cases c <;> simp at e ⊢; exact e
theorem ble_le {a b : Nat} (e : Nat.ble a b = true) : a ≤ b := Nat.le_of_ble_eq_true e
theorem blt_lt {a b : Nat} (e : Nat.blt a b = true) : a < b := Nat.le_of_ble_eq_true e
theorem beq_eq' {a b : Nat} (e : Nat.beq a b = true) : a = b := Nat.eq_of_beq_eq_true e
theorem drop_take_get (cs : List Value) (o L d n : Nat) (hn : d + n ≤ L) (ho : o + L ≤ cs.length) (j : Nat) (v : Value) (e : ((((cs.drop o).take L).drop d).take n)[j]? = some v) : cs[o + d + j]? = some v := by
 by_cases hj : j < n
 ·rw [List.getElem?_take_of_lt hj, List.getElem?_drop, List.getElem?_take_of_lt (by omega), List.getElem?_drop] at e
  rw [← e]; congr 1; omega
 ·rw [List.getElem?_eq_none (by simp; omega)] at e; cases e
theorem readC_rel (hh : HR φ h w) {b o n : Nat} {l : List CV} {p : Pl} (e : readC h b o n = some l) (hp : φ b = some p) :
  ∃ l', VRs φ l l' ∧ l'.length = n ∧ p.o + o + n ≤ p.z ∧ ∀ j v, l'[j]? = some v → w.cell? ((⟨p.r, p.o + o, none⟩ : Addr).add j) = some v := by
 unfold readC at e
 split at e
 ·rename_i L t ro hb
  obtain ⟨h1, h2⟩ := bif_some e
  injection h2 with h2
  have h1 := ble_le h1
  obtain ⟨cs, fz, hg, hz, hl, hr, _⟩ := hh.ob b _ p hb hp
  subst h2
  have hlen : p.o + L.length ≤ cs.toList.length := by simp; omega
  refine ⟨_, (hr.drop o).take n, by simp; omega, by omega, fun j v hv => ?_⟩
  rw [add_lit', cell_of_cells hg]
  have := drop_take_get cs.toList p.o L.length o n h1 hlen j v hv
  simpa using this
 ·cases e
theorem rows_cell {cs L : List Value} {o : Nat} (hf : (cs.drop o).take L.length = L) {q : Nat} {v : Value} (e : L[q]? = some v) : cs[o + q]? = some v := by
 have h2 : ((cs.drop o).take L.length)[q]? = L[q]? := congrArg (fun l : List Value => l[q]?) hf
 rw [e, List.getElem?_take_of_lt (List.getElem?_eq_some_iff.1 e).1, List.getElem?_drop] at h2
 exact h2
theorem load_rel (hh : HR φ h w) {t : TypeId} {x c : CV} {v : Value} (hv : VR φ x v) (e : loadC P h t x = some c) : ∃ u, (Instr.loadAt t v).run P w = .ok u w ∧ VR φ c u := by
 unfold loadC at e
 split at e
 ·rename_i b o
  cases hv with
  | ptr hp =>
   rename_i p
   split at e
   ·rename_i n ha hs
    rw [Option.map_eq_some_iff] at e
    obtain ⟨l, hl, rfl⟩ := e
    obtain ⟨l', hr, hn, _, hc⟩ := readC_rel hh hl hp
    have := run_loadCells_list (P := P) w ⟨p.r, p.o + o, none⟩ l' hc
    rw [hn] at this
    exact ⟨_, by simp [Instr.loadAt, Instr.sureAddr, loadVar, run_isAggC ha, run_sizeOf_szC hs, this], .agg hr⟩
   ·rename_i ha
    split at e
    ·rename_i c' hl
     injection e with e; subst e
     obtain ⟨l', hr, hn, _, hc⟩ := readC_rel hh hl hp
     cases hr with
     | cons h1 t1 =>
      rename_i v' l''
      have h2 := hc 0 v' rfl
      rw [add_lit', Nat.add_zero] at h2
      exact ⟨v', by simp [Instr.loadAt, Instr.sureAddr, loadVar, run_isAggC ha, h2], h1⟩
    ·cases e
   ·cases e
 ·rename_i b k x z d
  cases hv with
  | gp hp hx =>
   rename_i p
   split at e
   ·rename_i i l t' ro hb
    split at e
    ·rename_i cs hrow
     obtain ⟨h1, e2⟩ := bif_some e
     clear e
     have h1 := beq_eq' h1
     subst h1
     have e := e2
     clear e2
     obtain ⟨hx0, vs, hvs, hfl⟩ := Env.rowOk hrow
     obtain ⟨cells, t'', fz, hg, hz, hlen, hflat, _, _⟩ := hh.ob b _ p hb hp
     have hr := (pvs_rel (φ := φ) hvs).1
     have hvl := pvs_len hvs
     have hcell : ∀ j v, vs[j]? = some v → cells.toList[p.o + ((k + (x.ev Val.ρ).toNat) * cs.length + j)]? = some v := fun j v hj => by
      refine rows_cell hflat ?_
      have hjl : j < cs.length := by
       rw [← hvl]; exact (List.getElem?_eq_some_iff.1 hj).1
      rw [← hfl, List.getElem?_take_of_lt hjl, List.getElem?_drop] at hj
      exact hj
     unfold partC at e
     split at e
     ·rename_i n ha hs
      obtain ⟨h2, e⟩ := bif_some e
      have h2 := ble_le h2
      injection e with e; subst e
      have hrun := run_loadCells_list (P := P) w ⟨p.r, p.o + ((k + (x.ev Val.ρ).toNat) * cs.length + d), none⟩ ((vs.drop d).take n) (fun j v hj => by
       rw [add_lit', cell_of_cells hg]
       have hj2 : vs[d + j]? = some v := by
        by_cases hjn : j < n
        ·rwa [List.getElem?_take_of_lt hjn, List.getElem?_drop] at hj
        ·rw [List.getElem?_eq_none (by simp; omega)] at hj; cases hj
       have := hcell (d + j) v hj2
       rw [← Array.getElem?_toList, ← this]; congr 1; omega)
      rw [show ((vs.drop d).take n).length = n by simp; omega] at hrun
      exact ⟨_, by simp [Instr.loadAt, Instr.sureAddr, loadVar, run_isAggC ha, run_sizeOf_szC hs, hrun], .agg ((hr.drop d).take n)⟩
     ·rename_i ha
      obtain ⟨u, hu, hr1⟩ := hr.get e
      have h2 : w.cell? ⟨p.r, p.o + ((k + (x.ev Val.ρ).toNat) * cs.length + d), none⟩ = some u := by
       rw [cell_of_cells hg, ← Array.getElem?_toList]; exact hcell d u hu
      exact ⟨u, by simp [Instr.loadAt, Instr.sureAddr, loadVar, run_isAggC ha, h2], hr1⟩
     ·cases e
    ·cases e
   ·cases e
 ·cases e
theorem take_len_drop {α : Type} (l : List α) (o n : Nat) (vs : List α) (h : o + n ≤ l.length) (hv : vs.length = n) : (l.take o ++ vs ++ l.drop (o + n)).length = l.length := by
 simp; omega
theorem spl {α : Type} (A : List α) (a : Nat) (vs B : List α) (j : Nat) (h : a ≤ A.length) : (A.take a ++ vs ++ B)[j]? = if j < a then A[j]? else if j < a + vs.length then vs[j - a]? else B[j - a - vs.length]? := by
 have hl : (A.take a).length = a := by simp; omega
 rw [List.append_assoc]
 by_cases h1 : j < a
 ·rw [if_pos h1, List.getElem?_append_left (by omega), List.getElem?_take_of_lt h1]
 ·rw [if_neg h1, List.getElem?_append_right (by omega), hl]
  by_cases h2 : j < a + vs.length
  ·rw [if_pos h2, List.getElem?_append_left (by omega)]
  ·rw [if_neg h2, List.getElem?_append_right (by omega)]
theorem write_rel {cs : Array Value} {l vs : List CV} {vs' : List Value} {o k : Nat} (hr : VRs φ l ((cs.toList.drop k).take l.length)) (hv : VRs φ vs vs') (ho : o + vs.length ≤ l.length) (hk : k + l.length ≤ cs.size) :
  VRs φ (l.take o ++ vs ++ l.drop (o + vs.length)) ((((cs.toList.take (k + o) ++ vs' ++ cs.toList.drop (k + o + vs'.length)).drop k).take (l.take o ++ vs ++ l.drop (o + vs.length)).length)) := by
 have hlen := hv.len
 rw [take_len_drop l o vs.length vs ho rfl]
 have e : ((cs.toList.take (k + o) ++ vs' ++ cs.toList.drop (k + o + vs'.length)).drop k).take l.length = ((cs.toList.drop k).take l.length).take o ++ vs' ++ ((cs.toList.drop k).take l.length).drop (o + vs.length) := by
  apply List.ext_getElem?
  intro j
  have hcs : cs.toList.length = cs.size := by simp
  rw [spl _ o vs' _ j (by simp; omega)]
  by_cases hj : j < l.length
  ·rw [List.getElem?_take_of_lt hj, List.getElem?_drop, spl _ (k + o) vs' _ (k + j) (by omega)]
   by_cases h1 : j < o
   ·rw [if_pos h1, if_pos (by omega), List.getElem?_take_of_lt hj, List.getElem?_drop]
   ·rw [if_neg h1, if_neg (by omega)]
    by_cases h2 : j < o + vs'.length
    ·rw [if_pos h2, if_pos (by omega)]; congr 1; omega
    ·rw [if_neg h2, if_neg (by omega), List.getElem?_drop, List.getElem?_drop, List.getElem?_take_of_lt (by omega), List.getElem?_drop]
     congr 1; omega
  ·rw [List.getElem?_eq_none (by simp; omega), if_neg (by omega), if_neg (by omega), List.getElem?_eq_none (by simp; omega)]
 rw [e]
 exact ((hr.take o).append hv).append (hr.drop _)
theorem storeCells_rel (hh : HR φ h w) {b o : Nat} {l vs : List CV} {t : TypeId} {vs' : List Value} {p : Pl} (hb : h.get b = some (.cells l t false)) (hp : φ b = some p) (ho : o + vs.length ≤ l.length) (hv : VRs φ vs vs') (hc : vs.all (·.cell) = true) :
  ∃ w', (storeCells ⟨p.r, p.o + o, none⟩ vs').run P w = .ok () w' ∧ Went φ h.n b w φ w' ∧ HR φ (h.put b (some (.cells (l.take o ++ vs ++ l.drop (o + vs.length)) t false))) w' := by
 obtain ⟨cs, fz, hg, hz, hl, hr, hf⟩ := hh.ob b _ p hb hp
 have hf := hf rfl
 subst hf
 have hlen := hv.len
 have hrun := run_storeCells_at P p.r (p.o + o) t vs' 0 cs w hg (by omega) (hv.cell hc)
 simp only [Nat.add_zero] at hrun
 have hoth : ∀ r, r ≠ p.r → (w.setRow p.r (cs.toList.take (p.o + o) ++ vs' ++ cs.toList.drop (p.o + o + vs'.length)).toArray).heap[r]? = w.heap[r]? := fun r hr' => setRow_other w p.r r _ hr'
 refine ⟨_, hrun, Went.wrote φ h.n hp rfl rfl rfl (size_setRow _ _ _) hoth, hh.put hb rfl hp rfl (size_setRow _ _ _) hoth ?_⟩
 rw [setRow_heap w p.r cs _ t (0, 0) hg]
 refine ⟨_, _, rfl, ?_, ?_, ?_, fun _ => rfl⟩
 ·simp; omega
 ·rw [take_len_drop l o vs.length vs ho rfl]; exact hl
 ·have := write_rel (o := o) hr hv ho (by omega)
  simpa using this
theorem rows_write {cs L vs : List Value} {o q : Nat} (hf : (cs.drop o).take L.length = L) (hq : q + vs.length ≤ L.length) (ho : o + L.length ≤ cs.length) :
  ((cs.take (o + q) ++ vs ++ cs.drop (o + q + vs.length)).drop o).take L.length = L.take q ++ vs ++ L.drop (q + vs.length) := by
 have hL : ∀ j, j < L.length → cs[o + j]? = L[j]? := fun j hj => by
  rw [rows_cell hf (List.getElem?_eq_getElem hj), List.getElem?_eq_getElem hj]
 apply List.ext_getElem?
 intro j
 rw [spl L q vs _ j (by omega)]
 by_cases hj : j < L.length
 ·rw [List.getElem?_take_of_lt hj, List.getElem?_drop, spl cs (o + q) vs _ (o + j) (by omega)]
  by_cases h1 : j < q
  ·rw [if_pos (by omega), if_pos h1, hL j hj]
  ·rw [if_neg (by omega), if_neg h1]
   by_cases h2 : j < q + vs.length
   ·rw [if_pos (by omega), if_pos h2]; congr 1; omega
   ·rw [if_neg (by omega), if_neg h2, List.getElem?_drop, List.getElem?_drop, ← hL _ (by omega)]; congr 1; omega
 ·rw [List.getElem?_eq_none (by simp; omega), if_neg (by omega), if_neg (by omega), List.getElem?_eq_none (by simp; omega)]
theorem rows_tail {cs vs : List Value} {o q n m : Nat} (hq : q + vs.length ≤ n) (ho : o + n ≤ cs.length) :
  ((cs.take (o + q) ++ vs ++ cs.drop (o + q + vs.length)).drop (o + n)).take m = (cs.drop (o + n)).take m := by
 congr 1
 apply List.ext_getElem?
 intro j
 rw [List.getElem?_drop, spl _ _ _ _ _ (by omega), if_neg (by omega), if_neg (by omega), List.getElem?_drop, List.getElem?_drop]
 congr 1; omega
theorem store_rel (hh : HR φ h w) {t : TypeId} {x c : CV} {v u : Value} {h' : CH} {b : Nat} (hx : VR φ x v) (hc : VR φ c u) (e : storeC P h t c x = some (h', b)) :
  ∃ w', (Instr.storeAt t v u).run P w = .ok () w' ∧ Went φ h.n b w φ w' ∧ HR φ h' w' := by
 unfold storeC at e
 split at e
 ·rename_i b0 o
  cases hx with
  | ptr hp =>
   rename_i p
   split at e
   ·rename_i n l t' hs hb
    obtain ⟨h1, h2⟩ := bif_some e
    simp only [Bool.and_eq_true] at h1
    obtain ⟨⟨h1, h3⟩, h4⟩ := h1
    have h1 := beq_eq' h1
    have h3 := ble_le h3
    injection h2 with h2
    injection h2 with h2 h5
    subst h5
    subst h2
    have hcl := hc.cells
    have hlen := hcl.len
    obtain ⟨w', hr, hw, hhr⟩ := storeCells_rel (P := P) (o := o) hh hb hp (by omega) hcl h4
    refine ⟨w', ?_, hw, ?_⟩
    ·have hsz : u.cells.size = n := by rw [← h1, hlen]; simp
     simp [Instr.storeAt, Instr.sureAddr, storeVar, run_sizeOf_szC hs, hsz, hr]
    ·rw [h1] at hhr; exact hhr
   ·cases e
 ·rename_i b0 k x z d
  cases hx with
  | gp hp hx0 =>
   rename_i p
   split at e
   ·rename_i n i l t' hs hb
    split at e
    ·rename_i j hupd
     obtain ⟨h1, h2⟩ := bif_some e
     have h1 := beq_eq' h1
     injection h2 with h2; injection h2 with h2 h5; subst h5; subst h2
     obtain ⟨_, vs, hvs, hfit, hj⟩ := Env.updOk hupd
     have hone := pvs_cell hvs
     have hvl := pvs_len hvs
     have hu : u.cells.toList = vs := (pvs_rel (φ := φ) hvs).2 _ hc.cells
     subst hu
     obtain ⟨cs, t'', fz, hg, hz, hl, hflat, hr, hf⟩ := hh.ob b0 _ p hb hp
     obtain ⟨hf1, hf2⟩ := hf rfl
     subst hf1; subst hf2
     have hcs : cs.toList.length = cs.size := by simp
     generalize hq : (k + (x.ev Val.ρ).toNat) * z + d = q at *
     have hrun := run_storeCells_at P p.r (p.o + q) t'' u.cells.toList 0 cs w hg (by omega) hone
     simp only [Nat.add_zero] at hrun
     have hoth : ∀ r, r ≠ p.r → (w.setRow p.r (cs.toList.take (p.o + q) ++ u.cells.toList ++ cs.toList.drop (p.o + q + u.cells.toList.length)).toArray).heap[r]? = w.heap[r]? := fun r hr' => setRow_other w p.r r _ hr'
     have hjl : (Val.lst j).length = (Val.lst i).length := by rw [hj]; simp at hvl ⊢; omega
     have hsz : u.cells.size = n := by rw [← h1, ← hvl]; simp
     have hsto : (Instr.storeAt t (.pointer (some ⟨p.r, p.o + q, none⟩)) u).run P w = .ok () (w.setRow p.r (cs.toList.take (p.o + q) ++ u.cells.toList ++ cs.toList.drop (p.o + q + u.cells.toList.length)).toArray) := by
      simp only [Instr.storeAt, Instr.sureAddr, storeVar, Sem.run_bind, Sem.run_pure, Result.andThen_ok, run_sizeOf_szC hs, hsz, ne_eq, not_true_eq_false, if_false]
      simpa using hrun
     refine ⟨_, hsto, Went.wrote φ h.n hp rfl rfl rfl (size_setRow _ _ _) hoth, hh.put hb rfl hp rfl (size_setRow _ _ _) hoth ?_⟩
     ·rw [setRow_heap w p.r cs _ t'' (0, 0) hg]
      refine ⟨_, t'', _, rfl, ?_, ?_, ?_, ?_, fun _ => ⟨rfl, rfl⟩⟩
      ·rw [← hz]; simp at hvl ⊢; omega
      ·rw [hjl]; exact hl
      ·rw [hjl, hj, ← hvl]
       exact rows_write hflat (by omega) (by omega)
      ·rw [hjl]
       have := rows_tail (cs := cs.toList) (vs := u.cells.toList) (o := p.o) (q := q) (n := (Val.lst i).length) (m := l.length) (by omega) (by omega)
       show VRs φ l (List.take l.length (List.drop _ (List.take (p.o + q) cs.toList ++ u.cells.toList ++ List.drop (p.o + q + u.cells.toList.length) cs.toList)))
       rw [this]; exact hr
    ·cases e
   ·cases e
 ·cases e
theorem row_rel (hh : HR φ h w) {l : List CV} {cs : Array Value} {t : TypeId} (hv : VRs φ l (cs.toList.take l.length)) (hl : l.length ≤ cs.size) :
  Went φ h.n (h.n + 1) w (φ.put h.n ⟨w.heap.size, 0, cs.size⟩) (w.alloc (.cells cs t)) ∧ HR (φ.put h.n ⟨w.heap.size, 0, cs.size⟩) (h.new (.cells l t false)) (w.alloc (.cells cs t)) ∧ (φ.put h.n ⟨w.heap.size, 0, cs.size⟩) h.n = some ⟨w.heap.size, 0, cs.size⟩ :=
 ⟨Went.alloc hh _ _ rfl _, hh.new rfl ⟨cs, (0, 0), rfl, rfl, by simpa using hl, by simpa using hv.mono (hh.put_le _), fun _ => rfl⟩, Phi.put_same _ _ _⟩
theorem row_rel' (hh : HR φ h w) {l : List CV} {cs : Array Value} (t : TypeId) (hv : VRs φ l cs.toList) :
  Went φ h.n (h.n + 1) w (φ.put h.n ⟨w.heap.size, 0, cs.size⟩) (w.alloc (.cells cs t)) ∧ HR (φ.put h.n ⟨w.heap.size, 0, cs.size⟩) (h.new (.cells l t false)) (w.alloc (.cells cs t)) ∧ (φ.put h.n ⟨w.heap.size, 0, cs.size⟩) h.n = some ⟨w.heap.size, 0, cs.size⟩ := by
 have := hv.len
 exact row_rel hh (by rw [List.take_of_length_le (by omega)]; exact hv) (by simp at this; omega)
theorem newVar_rel (hh : HR φ h w) {c : CV} {v : Value} (t : TypeId) (hv : VR φ c v) :
  ∃ w' φ', (do pure (.pointer (some (← newVar t v))) : Sem Value).run P w = .ok (.pointer (some ⟨w.heap.size, 0, none⟩)) w' ∧ Went φ h.n (h.n + 1) w φ' w' ∧ HR φ' (h.new (.cells c.cells t false)) w' ∧ VR φ' (.ptr h.n 0) (.pointer (some ⟨w.heap.size, 0, none⟩)) := by
 obtain ⟨h1, h2, h3⟩ := row_rel' hh t hv.cells
 refine ⟨_, _, ?_, h1, h2, ?_⟩
 ·simp [newVar, newRow]
 ·have := VR.ptr (o := 0) h3; simpa using this
end
end Go.Proofs.YthffbfkcmbgghaaGreat.Cm
