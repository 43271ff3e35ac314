/-
  The clean machine and the model: entries of maps; an operation that makes no call, in one theorem.
-/
import Derived.Test.YthffbfkcmbgghaaGreatZCj
set_option linter.all false
namespace Go.Proofs.YthffbfkcmbgghaaGreat.Cm
open Go Go.RowKit
variable [Env]
section
variable {P : Program} {φ : Phi} {h : CH} {w : World}
theorem set_map_fst (l : List (CV × CV)) (i : Nat) (k v : CV) : (l.set i (k, v)).map (·.1) = (l.map (·.1)).set i k := by rw [List.map_set]
theorem set_map_snd (l : List (CV × CV)) (i : Nat) (k v : CV) : (l.set i (k, v)).map (·.2) = (l.map (·.2)).set i v := by rw [List.map_set]
theorem modify_toList (es : Array MapEntry) (i : Nat) (f : MapEntry → MapEntry) : (es.modify i f).toList = es.toList.modify i f := by simp
theorem modify_key (l : List MapEntry) (i : Nat) (k v : Value) : (l.modify i fun e => { e with key := k, val := v }).map (·.key) = (l.map (·.key)).set i k := by
 apply List.ext_getElem?
 intro j
 simp only [List.getElem?_map, List.getElem?_modify, List.getElem?_set]
 by_cases e : i = j
 ·subst e
  cases hj : l[i]? with
  | none => have := List.getElem?_eq_none_iff.1 hj; simp [hj]; omega
  | some x => have := (List.getElem?_eq_some_iff.1 hj).1; simp [hj, this]
 ·simp [e]
theorem modify_val (l : List MapEntry) (i : Nat) (k v : Value) : (l.modify i fun e => { e with key := k, val := v }).map (·.val) = (l.map (·.val)).set i v := by
 apply List.ext_getElem?
 intro j
 simp only [List.getElem?_map, List.getElem?_modify, List.getElem?_set]
 by_cases e : i = j
 ·subst e
  cases hj : l[i]? with
  | none => have := List.getElem?_eq_none_iff.1 hj; simp [hj]; omega
  | some x => have := (List.getElem?_eq_some_iff.1 hj).1; simp [hj, this]
 ·simp [e]
theorem modify_born (l : List MapEntry) (i : Nat) (k v : Value) : (l.modify i fun e => { e with key := k, val := v }).map (·.born) = l.map (·.born) := by
 apply List.ext_getElem?
 intro j
 simp only [List.getElem?_map, List.getElem?_modify]
 by_cases e : i = j
 ·subst e
  cases hj : l[i]? with
  | none => simp
  | some x => simp
 ·simp [e]
theorem sameC_bits : ∀ {l m : List CV} {l' m' : List Value}, sameC l m = true → VRs φ l l' → VRs φ m m' → l'.length = m'.length ∧ ((l'.zip m').all fun (x, y) => Instr.sameBits 9999 x y) = true
 | [], [], _, _, _, .nil, .nil => ⟨rfl, rfl⟩
 | [], _ :: _, _, _, e, _, _ => by simp [sameC] at e
 | c :: l, m, _, _, e, .cons hc tc, hm => by
  cases hc <;> cases hm <;> try (simp [sameC] at e; done)
  all_goals
   rename_i hd td
   cases hd <;> try (simp [sameC] at e; done)
  all_goals
   simp only [sameC, Bool.and_eq_true, decide_eq_true_eq, beq_iff_eq] at e
   obtain ⟨g1, g2⟩ := sameC_bits e.2 tc td
   refine ⟨by simp [g1], ?_⟩
   simp only [List.zip_cons_cons, List.all_cons, g2, Bool.and_true]
   simp [Instr.sameBits, e.1]
theorem same_val {c d : CV} {u v : Value} (hc : VR φ c u) (hd : VR φ d v) (e : sameC c.cells d.cells = true) (hk : c.cell = d.cell) : Instr.sameBits 10000 u v = true := by
 obtain ⟨g1, g2⟩ := sameC_bits e hc.cells hd.cells
 cases hc <;> cases hd <;> first
  | (simp [CV.cell] at hk; done)
  | (simp [CV.cells, sameC] at e; done)
  | (simp only [CV.cells, sameC, Bool.and_eq_true, decide_eq_true_eq, beq_iff_eq] at e; simp [Instr.sameBits, e.1]; done)
  | skip
 rename_i l lv hl m mv hm
 have g1 : lv.length = mv.length := by simpa [Value.cells] using g1
 have g2 : ((lv.zip mv).all fun (x, y) => Instr.sameBits 9999 x y) = true := g2
 show ((⟨lv⟩ : Array Value).size == (⟨mv⟩ : Array Value).size && (lv.zip mv).all fun (x, y) => Instr.sameBits 9999 x y) = true
 rw [g2]
 simp [g1]
theorem insert_rel (hh : HR φ h w) {t : TypeId} {m k x : CV} {mv kv xv : Value} {h' : CH} {b : Nat} (hm : VR φ m mv) (hk : VR φ k kv) (hx : VR φ x xv) (e : insertC P t m k x h = some (h', b)) :
  ∃ w', (Instr.mapUpdate t mv kv xv).run P w = .ok () w' ∧ Went φ h.n b w φ w' ∧ HR φ h' w' := by
 unfold insertC at e
 split at e
 ·rename_i b0 kt vt hu
  cases hm with
  | map hp =>
   rename_i p
   split at e
   ·rename_i l hb
    cases hq : (keyC P 20 kt k.cells && aggOk P kt k) with
    | false => rw [hq] at e; simp at e
    | true =>
     rw [hq] at e
     simp only [Bool.not_true, cond_false] at e
     simp only [Bool.and_eq_true] at hq
     obtain ⟨es, clock, ho, h1, h2, hcl, hbn⟩ := hh.ob _ _ _ hb hp
     obtain ⟨d, hd⟩ := aggOk_und hq.2
     have hlt := (hh.lt _ _ hp).2
     have hck := key_rel (P := P) (v := kv) 20 10000 (by omega) hq.1 hk.cells (aggOk_agg hk hq.2) false w
     have put : ∀ (o : Obj) (co : CObj), co.ro = false → OR φ (some o) p co → Went φ h.n b0 w φ { w with heap := w.heap.setIfInBounds p.r o } ∧ HR φ (h.put b0 (some co)) { w with heap := w.heap.setIfInBounds p.r o } := fun o co hro hor => by
      have hoth : ∀ r, r ≠ p.r → (w.heap.setIfInBounds p.r o)[r]? = w.heap[r]? := fun r hr => by rw [Array.getElem?_setIfInBounds, if_neg (fun e => hr e.symm)]
      have hsame : (w.heap.setIfInBounds p.r o)[p.r]? = some o := by rw [Array.getElem?_setIfInBounds, if_pos rfl, if_pos hlt]
      exact ⟨Went.wrote φ h.n hp rfl rfl rfl (by simp) hoth, hh.put hb rfl hp hro (by simp) hoth (by rw [show ({ w with heap := w.heap.setIfInBounds p.r o } : World).heap[p.r]? = some o from hsame]; exact hor)⟩
     split at e
     ·rename_i i v' hf
      obtain ⟨r', f1, f2, f3⟩ := find_rel hd hk hq.2 h1 h2 hf
      cases r' with
      | none => exact f1.elim
      | some jv =>
       obtain ⟨j, v⟩ := jv
       obtain ⟨hij, _⟩ := f1
       subst hij
       have hfk := findKey_run hd f2 f3 w
       split at e
       ·rename_i a y hi
        obtain ⟨hs, e2⟩ := bif_some e
        injection e2 with e2; injection e2 with e1 e2; subst e1; subst e2
        obtain ⟨kv', hkv, hka⟩ := h1.get (i := i) (c := a) (by simp [hi])
        have hent : (es[i]?).map (·.key) = some kv' := by
         have : (es.toList.map (·.key))[i]? = some kv' := hkv
         simpa using this
        simp only [Bool.and_eq_true, beq_iff_eq] at hs
        have hsb := same_val hka hk hs.1 hs.2
        obtain ⟨g1, g2⟩ := put (.map (es.modify i fun e => { e with key := kv, val := xv }) clock) (.map (l.set i (k, x))) rfl
         ⟨_, _, rfl, by rw [set_map_fst, modify_toList, modify_key]; exact h1.set i hk, by rw [set_map_snd, modify_toList, modify_val]; exact h2.set i hx, by rw [List.length_set]; exact hcl, by rw [List.length_set, modify_toList, modify_born]; exact hbn⟩
        exact ⟨_, by simp [Instr.mapUpdate, run_und hu, getObj, setObj, Sem.run, ho, hck, hfk, hent, Instr.keyThatStays, hsb], g1, g2⟩
       ·cases e
     ·rename_i hf
      obtain ⟨r', f1, f2, f3⟩ := find_rel hd hk hq.2 h1 h2 hf
      injection e with e; injection e with e1 e2; subst e1; subst e2
      cases r' with
      | some jv => exact f1.elim
      | none =>
       have hfk := findKey_run hd f2 f3 w
       obtain ⟨g1, g2⟩ := put (.map (es.push { key := kv, val := xv, born := clock }) (clock + 1)) (.map (l ++ [(k, x)])) rfl
        ⟨_, _, rfl, by simpa using h1.append (.cons hk .nil), by simpa using h2.append (.cons hx .nil), by simp [hcl], by simp [hbn, List.range_succ, hcl]⟩
       exact ⟨_, by simp [Instr.mapUpdate, run_und hu, getObj, setObj, Sem.run, ho, hck, hfk], g1, g2⟩
     ·cases e
   ·cases e
 ·cases e
end
end Go.Proofs.YthffbfkcmbgghaaGreat.Cm
