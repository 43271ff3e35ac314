/-
  The clean machine and the model: entries of maps, one after the other.
-/
import Derived.Test.YthffbfkcmbgghaaGreatZCk
set_option linter.all false
namespace Go.Proofs.YthffbfkcmbgghaaGreat.Cm
open Go Go.RowKit
variable [Env]
section
variable {P : Program} {φ : Phi} {h : CH} {w : World}
theorem es_map {es : Array MapEntry} (n : Nat) (hn : es.size = n) : es.toList = (List.range n).map fun i => es.getD i default := by
  subst hn
  apply List.ext_getElem?
  intro j
  rw [List.getElem?_map, Array.getElem?_toList]
  by_cases hj : j < es.size
  · rw [List.getElem?_range hj]
    simp [hj]
  · rw [List.getElem?_eq_none (by simpa using hj), Array.getElem?_eq_none (by omega)]; rfl
theorem es_born {es : Array MapEntry} {n : Nat} (hb : es.toList.map (·.born) = List.range n) : es.size = n ∧ ∀ i, i < n → (es.getD i default).born = i := by
  have hn : es.size = n := by have := congrArg List.length hb; simpa using this
  refine ⟨hn, fun i hi => ?_⟩
  have := congrArg (fun l => l[i]?) hb
  simp only [List.getElem?_map, List.getElem?_range hi, Array.getElem?_toList] at this
  rw [Array.getElem?_eq_getElem (by omega)] at this
  simp only [Option.map_some, Option.some.injEq] at this
  simp [Array.getD, show i < es.size by omega, this]
theorem filter_map_range {n : Nat} {f : Nat → MapEntry} {p : MapEntry → Bool} {q : Nat → Bool} {l : List Nat} (hl : ∀ i ∈ l, i < n) (h : ∀ i, i < n → p (f i) = q i) : (l.map f).filter p = (l.filter q).map f := by
  rw [List.filter_map]
  congr 1
  refine List.filter_congr fun i hi => ?_
  exact h i (hl i hi)
def esLeft (es : Array MapEntry) (seen : List Nat) : Array MapEntry := es.filter fun e => !(⟨seen⟩ : Array Nat).contains e.born
def esOld (es : Array MapEntry) (seen : List Nat) (since : Nat) : Array MapEntry := (esLeft es seen).filter fun e => e.born < since
def esNew (es : Array MapEntry) (seen : List Nat) (since : Nat) : Array MapEntry := (esLeft es seen).filter fun e => e.born ≥ since
def esCand (es : Array MapEntry) (seen : List Nat) (since : Nat) : Array (Option MapEntry) := (if (esOld es seen since).isEmpty then #[none] else #[]) ++ (esOld es seen since ++ esNew es seen since).map some
theorem cand_rel {es : Array MapEntry} {n : Nat} (seen : List Nat) (since : Nat) (hb : es.toList.map (·.born) = List.range n) :
    (esCand es seen since).toList = (candC n since seen).map (Option.map fun i => es.getD i default) := by
  obtain ⟨hn, hborn⟩ := es_born hb
  have e0 := es_map n hn
  have e1 : (esLeft es seen).toList = ((List.range n).filter fun i => !seen.contains i).map fun i => es.getD i default := by
    unfold esLeft
    rw [Array.toList_filter, e0]
    refine filter_map_range (n := n) (fun i hi => List.mem_range.1 hi) fun i hi => ?_
    rw [hborn i hi]; simp
  have mem : ∀ i ∈ (List.range n).filter fun i => !seen.contains i, i < n := fun i hi => List.mem_range.1 (List.mem_filter.1 hi).1
  have e2 : (esOld es seen since).toList = (((List.range n).filter fun i => !seen.contains i).filter fun i => Nat.blt i since).map fun i => es.getD i default := by
    unfold esOld
    rw [Array.toList_filter, e1]
    refine filter_map_range (n := n) mem fun i hi => ?_
    rw [hborn i hi]
    cases hq : Nat.blt i since with
    | true => exact decide_eq_true (Nat.le_of_ble_eq_true hq)
    | false =>
      refine decide_eq_false fun hc => ?_
      rw [show Nat.blt i since = true from Nat.ble_eq_true_of_le hc] at hq; cases hq
  have e3 : (esNew es seen since).toList = (((List.range n).filter fun i => !seen.contains i).filter fun i => !Nat.blt i since).map fun i => es.getD i default := by
    unfold esNew
    rw [Array.toList_filter, e1]
    refine filter_map_range (n := n) mem fun i hi => ?_
    rw [hborn i hi]
    cases hq : Nat.blt i since with
    | true => exact decide_eq_false (by have : i + 1 ≤ since := Nat.le_of_ble_eq_true hq; omega)
    | false =>
      refine decide_eq_true ?_
      show since ≤ i
      rcases Nat.lt_or_ge i since with hc | hc
      · rw [show Nat.blt i since = true from Nat.ble_eq_true_of_le hc] at hq; cases hq
      · exact hc
  have e4 : (esOld es seen since).isEmpty = (((List.range n).filter fun i => !seen.contains i).filter fun i => Nat.blt i since).isEmpty := by
    rw [← Array.isEmpty_toList, e2]
    cases ((List.range n).filter fun i => !seen.contains i).filter fun i => Nat.blt i since <;> rfl
  unfold candC esCand
  rw [Array.toList_append, Array.toList_map, Array.toList_append, e2, e3, e4]
  cases (((List.range n).filter fun i => !seen.contains i).filter fun i => Nat.blt i since).isEmpty <;> (simp; rfl)
theorem nextAll_mem {b m since : Nat} {seen : List Nat} {l : List (CV × CV)} : ∀ {xs : List (Option Nat)} {outs : List (CV × CH × Nat)}, nextAll h b m since seen l xs = some outs → ∀ x ∈ xs, ∃ r ∈ outs, nextTo h b m since seen l x = some r
  | [], _, _, x, hx => by cases hx
  | y :: ys, outs, e, x, hx => by
    unfold nextAll at e
    split at e
    · rename_i r rs h1 h2
      injection e with e; subst e
      rcases List.mem_cons.1 hx with rfl | hx
      · exact ⟨r, List.mem_cons_self, h1⟩
      · obtain ⟨r', h3, h4⟩ := nextAll_mem h2 x hx
        exact ⟨r', List.mem_cons_of_mem _ h3, h4⟩
    · cases e
def nextV (r m since : Nat) (seen : List Nat) (clock : Nat) (w : World) : Option MapEntry → Result Value
  | none => .ok (.tuple #[.bool false]) w
  | some e => .ok (.tuple #[.bool true, e.key, e.val]) { w with heap := w.heap.setIfInBounds r (.mapIter (some m) since ((⟨seen⟩ : Array Nat).push e.born) clock) }
theorem next_run {ty : TypeId} {r m since last clock n : Nat} {seen : List Nat} {es : Array MapEntry} (h1 : w.heap[r]? = some (.mapIter (some m) since ⟨seen⟩ last)) (h2 : w.heap[m]? = some (.map es clock)) (hb : es.toList.map (·.born) = List.range n) (hok : iterOk n last seen = true) :
    ∃ x ∈ candC n since seen, ∃ w1, (w1 = w ∨ w1 = w.drew) ∧ (Instr.next (.pointer (some ⟨r, 0, none⟩)) false ty).run P w = nextV r m since seen clock w1 (x.map fun i => es.getD i default) := by
  obtain ⟨hn, hborn⟩ := es_born hb
  have hgo : (!(⟨seen⟩ : Array Nat).isEmpty && !es.isEmpty && es.all fun e => decide (e.born ≥ last)) = false := by
    unfold iterOk at hok
    simp only [Bool.or_eq_true] at hok
    rcases hok with (hs | hs) | hs
    · have : (⟨seen⟩ : Array Nat).isEmpty = true := by cases seen with | nil => rfl | cons a l => cases hs
      rw [this]; rfl
    · have h0 := beq_eq' hs
      have : es.isEmpty = true := by rw [← Array.isEmpty_toList, es_map 0 (by omega)]; rfl
      rw [this]; simp
    · have hl : 0 < last := Nat.le_of_ble_eq_true hs
      by_cases h0 : n = 0
      · have : es.isEmpty = true := by rw [← Array.isEmpty_toList, es_map 0 (by omega)]; rfl
        rw [this]; simp
      · have : (es.all fun e => decide (e.born ≥ last)) = false := by
          rw [Bool.eq_false_iff]
          intro hall
          have hall := Array.all_eq_true.1 hall 0 (by omega)
          have hb0 := hborn 0 (by omega)
          have hlt : 0 < es.size := by omega
          rw [show es.getD 0 default = es[0] by simp [Array.getD, hlt]] at hb0
          have := of_decide_eq_true hall
          omega
        rw [this]; simp
  have hc := cand_rel (es := es) (n := n) seen since hb
  have hpos : 0 < (esCand es seen since).size := by
    unfold esCand
    by_cases he : (esOld es seen since).isEmpty = true
    · rw [if_pos he]; simp; omega
    · rw [if_neg he]
      have : (esOld es seen since).size ≠ 0 := fun h0 => he (by rw [← Array.isEmpty_toList]; cases hq : (esOld es seen since).toList with | nil => rfl | cons a l => have := congrArg List.length hq; simp [h0] at this)
      simp; omega
  have pick : ∀ i, i < (esCand es seen since).size → ∃ x ∈ candC n since seen, (esCand es seen since)[i]? = some (x.map fun i => es.getD i default) := fun i hi => by
    have h3 : (esCand es seen since)[i]? = (esCand es seen since).toList[i]? := by simp
    rw [h3, hc, List.getElem?_map]
    have hl : i < (candC n since seen).length := by have := congrArg List.length hc; simp at this; omega
    rw [List.getElem?_eq_getElem hl]
    exact ⟨_, List.getElem_mem hl, rfl⟩
  have hrun : (Instr.next (.pointer (some ⟨r, 0, none⟩)) false ty).run P w = (Sem.bind (choose (.mapNext (esCand es seen since).size)) fun i => match (esCand es seen since)[i]? with
      | some (some e) => (do setObj r (.mapIter (some m) since ((⟨seen⟩ : Array Nat).push e.born) clock); pure (.tuple #[.bool true, e.key, e.val]) : Sem Value)
      | some none => pure (.tuple #[.bool false])
      | none => stuck "Next: no such candidate").run P w := by
    simp only [Instr.next, getObj, Bind.bind, Sem.bind, Sem.run, h1, h2, hgo]
    rfl
  have fin : ∀ (i : Nat) (w1 : World), w1.heap = w.heap → i < (esCand es seen since).size → ∃ x ∈ candC n since seen, (match (esCand es seen since)[i]? with
      | some (some e) => (do setObj r (.mapIter (some m) since ((⟨seen⟩ : Array Nat).push e.born) clock); pure (.tuple #[.bool true, e.key, e.val]) : Sem Value)
      | some none => pure (.tuple #[.bool false])
      | none => stuck "Next: no such candidate").run P w1 = nextV r m since seen clock w1 (x.map fun i => es.getD i default) := fun i w1 hw1 hi => by
    obtain ⟨x, hx, hxi⟩ := pick i hi
    refine ⟨x, hx, ?_⟩
    rw [hxi]
    cases x with
    | none => rfl
    | some j => simp [nextV, setObj, Sem.run, hw1, h1]
  rw [hrun]
  by_cases hf : (Question.mapNext (esCand es seen since).size).forced = true
  · obtain ⟨x, hx, hr⟩ := fin 0 w rfl hpos
    refine ⟨x, hx, w, .inl rfl, ?_⟩
    rw [← hr]
    show (if (Question.mapNext (esCand es seen since).size).forced then _ else _) = _
    rw [if_pos hf]
    rfl
  · obtain ⟨x, hx, hr⟩ := fin ((Question.mapNext (esCand es seen since).size).cut (w.tape w.drawn (.mapNext (esCand es seen since).size))) w.drew rfl (Nat.mod_lt _ hpos)
    refine ⟨x, hx, w.drew, .inr rfl, ?_⟩
    rw [← hr]
    show (if (Question.mapNext (esCand es seen since).size).forced then _ else _) = _
    rw [if_neg hf]
    rfl
theorem entry_get {l : List (CV × CV)} {es : Array MapEntry} {k v : CV} {i : Nat} (h1 : VRs φ (l.map (·.1)) (es.toList.map (·.key))) (h2 : VRs φ (l.map (·.2)) (es.toList.map (·.val))) (hi : l[i]? = some (k, v)) : i < es.size ∧ VR φ k (es.getD i default).key ∧ VR φ v (es.getD i default).val := by
  obtain ⟨kv, e1, r1⟩ := h1.get (i := i) (c := k) (by simp [hi])
  obtain ⟨vv, e2, r2⟩ := h2.get (i := i) (c := v) (by simp [hi])
  have hlt : i < es.size := by
    have := (List.getElem?_eq_some_iff.1 e1).1
    simpa using this
  simp [hlt] at e1 e2
  refine ⟨hlt, ?_, ?_⟩
  · simpa [Array.getD, hlt, e1] using r1
  · simpa [Array.getD, hlt, e2] using r2
theorem nexts_rel (hh : HR φ h w) {it : CV} {iv : Value} {outs : List (CV × CH × Nat)} (hi : VR φ it iv) (e : nextsC h it = some outs) (ty : TypeId) :
    ∃ r ∈ outs, ∃ u w', (Instr.next iv false ty).run P w = .ok u w' ∧ Went φ h.n r.2.2 w φ w' ∧ HR φ r.2.1 w' ∧ VR φ r.1 u := by
  unfold nextsC at e
  split at e
  · rename_i b
    cases hi with
    | ptr hp =>
      rename_i p
      split at e
      · rename_i m since seen last hb
        split at e
        · rename_i l hm
          obtain ⟨hok, e⟩ := bif_some e
          obtain ⟨pm, hpm, ho0, hob⟩ := hh.ob _ _ _ hb hp
          obtain ⟨es, clock, hmo, h1, h2, hcl, hbn⟩ := hh.ob _ _ _ hm hpm
          have hlt := (hh.lt _ _ hp).2
          obtain ⟨x, hx, w1, hw1, hrun⟩ := next_run (P := P) (ty := ty) hob hmo hbn hok
          obtain ⟨r, hr, hto⟩ := nextAll_mem e x hx
          have hh1 : HR φ h w1 := hw1.elim (fun e => by rw [e]; exact hh) (fun e => by rw [e]; exact hh.drew)
          have hg1 : ∀ lw, Went φ h.n lw w φ w1 := fun lw => hw1.elim (fun e => by rw [e]; exact Went.refl _ _ _ _) (fun e => by rw [e]; exact Went.drew _ _ _ _)
          have hp0 : (⟨p.r, p.o + 0, none⟩ : Addr) = ⟨p.r, 0, none⟩ := by rw [ho0]
          rw [hp0]
          refine ⟨r, hr, ?_⟩
          cases x with
          | none =>
            injection hto with hto; subst hto
            exact ⟨_, w1, hrun, hg1 _, hh1, .tup (.cons (.bool false) .nil)⟩
          | some i =>
            simp only [nextTo] at hto
            split at hto
            · rename_i k v hi
              injection hto with hto; subst hto
              obtain ⟨hin, r1, r2⟩ := entry_get h1 h2 hi
              have hsz : es.size = l.length := (es_born hbn).1
              have hbi := (es_born hbn).2 i (by omega)
              have hheap : w1.heap = w.heap := hw1.elim (fun e => by rw [e]) (fun e => by rw [e]; rfl)
              refine ⟨_, { w1 with heap := w1.heap.setIfInBounds p.r (.mapIter (some pm.r) since ((⟨seen⟩ : Array Nat).push (es.getD i default).born) clock) }, hrun, ?_, ?_, .tup (.cons (.bool true) (.cons r1 (.cons r2 .nil)))⟩
              · exact (hg1 b).trans (Went.wrote φ h.n hp rfl rfl rfl (by simp) fun r hr => by rw [Array.getElem?_setIfInBounds, if_neg (fun e => hr e.symm)]) (Nat.le_refl _) (Nat.le_refl _) (Nat.le_refl _)
              · refine hh1.put hb rfl hp rfl (by simp) (fun r hr => by rw [Array.getElem?_setIfInBounds, if_neg (fun e => hr e.symm)]) ?_
                refine ⟨pm, hpm, ho0, ?_⟩
                rw [Array.getElem?_setIfInBounds, if_pos rfl, if_pos (by rw [hheap]; exact hlt), hbi, hcl]
                simp
            · cases hto
        · cases e
      · cases e
  · cases e
theorem next_rel (hh : HR φ h w) {it : CV} {iv : Value} {c : CV} {h' : CH} {lw : Nat} (hi : VR φ it iv) (e : nextC h it = some (c, h', lw)) (ty : TypeId) :
    ∃ u w', (Instr.next iv false ty).run P w = .ok u w' ∧ Went φ h.n lw w φ w' ∧ HR φ h' w' ∧ VR φ c u := by
  unfold nextC at e
  split at e
  · rename_i r hr
    injection e with e; subst e
    obtain ⟨r, h1, h2⟩ := nexts_rel (P := P) hh hi hr ty
    simp only [List.mem_singleton] at h1
    subst h1
    exact h2
  · cases e
theorem entry_rel (hh : HR φ h w) {it : CV} {iv : Value} {c : CV} (hi : VR φ it iv) (e : entryC h it = some c) : ∃ u, (Instr.entry iv).run P w = .ok u w ∧ VR φ c u := by
  unfold entryC at e
  split at e
  · rename_i b
    cases hi with
    | ptr hp =>
      rename_i p
      split at e
      · rename_i m since seen last hb
        split at e
        · rename_i l i hm hs
          obtain ⟨hl, e⟩ := bif_some e
          have hl := beq_eq' hl
          split at e
          · rename_i k v hi
            injection e with e; subst e
            obtain ⟨pm, hpm, ho0, hob⟩ := hh.ob _ _ _ hb hp
            obtain ⟨es, clock, hmo, h1, h2, hcl, hbn⟩ := hh.ob _ _ _ hm hpm
            obtain ⟨hin, r1, r2⟩ := entry_get h1 h2 hi
            obtain ⟨hsz, hborn⟩ := es_born hbn
            have hback : (⟨seen⟩ : Array Nat).back? = some i := by rw [Array.back?_eq_getElem?]; rw [List.getLast?_eq_getElem?] at hs; simpa using hs
            have hfind : (es.find? fun e => e.born == i) = some (es.getD i default) := by
              rw [← Array.find?_toList, es_map l.length hsz, List.find?_map]
              rw [show (List.find? ((fun e => e.born == i) ∘ fun i => es.getD i default) (List.range l.length)) = some i from ?_]
              · rfl
              · rw [List.find?_range_eq_some]
                refine ⟨?_, List.mem_range.2 (by omega), fun j hj => ?_⟩
                · simp only [Function.comp]; rw [hborn i (by omega)]; simp
                · simp only [Function.comp]; rw [hborn j (by omega)]; simp; omega
            have hp0 : (⟨p.r, p.o + 0, none⟩ : Addr) = ⟨p.r, 0, none⟩ := by rw [ho0]
            rw [hp0]
            refine ⟨.tuple #[(es.getD i default).key, (es.getD i default).val], ?_, .tup (.cons r1 (.cons r2 .nil))⟩
            have hne : (clock != last) = false := by rw [hcl, hl]; simp
            simp only [Instr.entry, getObj, Bind.bind, Sem.bind, Sem.run, hob, hmo, hback, hfind, hne]
            rfl
          · cases e
        · cases e
      · cases e
  · cases e
theorem range_rel (hh : HR φ h w) {t : TypeId} {x : CV} {xv : Value} {c : CV} {h' : CH} {lw : Nat} (hx : VR φ x xv) (e : rangeMC P t x h = some (c, h', lw)) :
    ∃ u w' φ', (Instr.range t xv).run P w = .ok u w' ∧ Went φ h.n lw w φ' w' ∧ HR φ' h' w' ∧ VR φ' c u := by
  unfold rangeMC at e
  split at e
  · rename_i b hu
    cases hx with
    | map hp =>
      rename_i p
      split at e
      · rename_i l hb
        injection e with e; injection e with e1 e; injection e with e2 e3; subst e1; subst e2; subst e3
        obtain ⟨es, clock, hmo, h1, h2, hcl, hbn⟩ := hh.ob _ _ _ hb hp
        have r1 := Went.alloc hh (h.n + 1) ⟨w.heap.size, 0, 0⟩ rfl (.mapIter (some p.r) l.length ⟨[]⟩ l.length)
        have r2 : HR (φ.put h.n ⟨w.heap.size, 0, 0⟩) (h.new (.iter b l.length [] l.length)) (w.alloc (.mapIter (some p.r) l.length ⟨[]⟩ l.length)) := hh.new rfl ⟨p, r1.le _ _ hp, rfl, rfl⟩
        refine ⟨.pointer (some ⟨w.heap.size, 0, none⟩), _, _, ?_, r1, r2, ?_⟩
        · simp [Instr.range, run_und hu, getObj, newObj, Sem.run, hmo, hcl]
        · have := VR.ptr (o := 0) (Phi.put_same φ h.n ⟨w.heap.size, 0, 0⟩); simpa using this
      · cases e
  · cases e
end
end Go.Proofs.YthffbfkcmbgghaaGreat.Cm
