/-
  The clean machine and the model: maps.
-/
import Derived.Test.YthffbfkcmbgghaaGreatZCi
set_option linter.all false
namespace Go.Proofs.YthffbfkcmbgghaaGreat.Cm
open Go Go.RowKit
variable [Env]
section
variable {P : Program} {φ : Phi} {h : CH} {w : World}
theorem VRs.set {l : List CV} {l' : List Value} (hl : VRs φ l l') (i : Nat) {c : CV} {v : Value} (hc : VR φ c v) : VRs φ (l.set i c) (l'.set i v) := by
 induction i generalizing l l' with
 | zero => cases hl with
  | nil => exact .nil
  | cons h t => exact .cons hc t
 | succ i ih => cases hl with
  | nil => exact .nil
  | cons h t => exact .cons h (ih t)
theorem key_rel : ∀ (d D : Nat), d ≤ D → ∀ {t : TypeId} {xs : List CV} {xs' : List Value} {v : Value}, keyC P d t xs = true → VRs φ xs xs' → (isAggC P t = some true → v = .agg ⟨xs'⟩) → ∀ (empty : Bool) (w : World), (Instr.checkKey empty D t v).run P w = .ok () w
 | 0, _, _, _, _, _, _, e, _, _, _, _ => by cases e
 | d + 1, 0, h, _, _, _, _, _, _, _, _, _ => by omega
 | d + 1, D + 1, hD, t, xs, xs', v, e, hx, hv, empty, w => by
  have step : ∀ (u : TypeId) (n off : Nat), szC P u = some n → (∃ b, isAggC P u = some b) → off + n ≤ xs.length → 0 < n → keyC P d u ((xs.drop off).take n) = true →
    ∃ x, (∀ w, (part u ⟨xs'⟩ off).run P w = .ok x w) ∧ ∀ w, (Instr.checkKey empty D u x).run P w = .ok () w := by
   intro u n off hs ⟨b, hb⟩ hl hn hk
   have hlen := hx.len
   cases b with
   | true => exact ⟨_, fun w => part_agg hb hs w, fun w => key_rel d D (by omega) hk ((hx.drop off).take n) (fun _ => rfl) empty w⟩
   | false =>
    have hlt : off < xs'.length := by omega
    exact ⟨xs'[off], fun w => part_one hb (by simp [hlt]) w, fun w => key_rel d D (by omega) hk ((hx.drop off).take n) (fun h => by rw [hb] at h; cases h) empty w⟩
  unfold keyC at e
  split at e
  ·rename_i hu; simp [Instr.checkKey, run_und hu]
  ·rename_i hu; simp [Instr.checkKey, run_und hu]
  ·rename_i hu; simp [Instr.checkKey, run_und hu]
  ·rename_i fs hu
   rw [hv (isAggC_struct hu)]
   simp only [Instr.checkKey, Sem.run_bind, run_und hu, Result.andThen_ok]
   rw [← Array.forIn_toList]
   generalize fs.toList = l at e
   clear hu hv
   induction l generalizing w with
   | nil => simp
   | cons f l ih =>
    simp only [keyFs, Bool.and_eq_true] at e
    obtain ⟨e1, e2⟩ := e
    simp only [List.forIn_cons, Sem.run_bind]
    by_cases hf : f.name = "_"
    ·simp only [hf, ne_eq, not_true_eq_false, if_false, Sem.run_pure, Result.andThen_ok]
     exact ih w e2
    ·have hb : (f.name == "_") = false := by simpa using hf
     rw [hb] at e1
     simp only [cond_false] at e1
     split at e1
     ·rename_i n b hs ha
      simp only [Bool.and_eq_true] at e1
      obtain ⟨x, p1, p2⟩ := step f.type n f.offset hs ⟨b, ha⟩ (ble_le e1.1.1) (blt_lt e1.1.2) e1.2
      simp only [ne_eq, hf, not_false_eq_true, if_true, Sem.run_bind, p1, p2, Result.andThen_ok, Sem.run_pure]
      exact ih w e2
     ·cases e1
  ·rename_i len el hu
   split at e
   ·rename_i n b hs ha
    rw [hv (isAggC_array hu)]
    simp only [Instr.checkKey, Sem.run_bind, run_und hu, Result.andThen_ok, run_sizeOf_szC hs, Std.Legacy.Range.forIn_eq_forIn_range', Std.Legacy.Range.size, Nat.sub_zero, Nat.add_one_sub_one, Nat.div_one, ← List.range_eq_range']
    generalize List.range len = l at e
    clear hu hv
    induction l generalizing w with
    | nil => simp
    | cons i l ih =>
     simp only [keyEs, Bool.and_eq_true] at e
     obtain ⟨⟨⟨e1, e2⟩, e3⟩, e4⟩ := e
     obtain ⟨x, p1, p2⟩ := step el n (i * n) hs ⟨b, ha⟩ (ble_le e1) (blt_lt e2) e3
     simp only [List.forIn_cons, Sem.run_bind, run_sizeOf_szC hs, p1, p2, Result.andThen_ok, Sem.run_pure]
     exact ih w e4
   ·cases e
  ·cases e
theorem sameNow_eq {t : TypeId} {d : TypeDesc} {a b : Value} {r : Bool} (hu : P.underlying t = some d) (e : Instr.sameNow d a b = some r) (w : World) : (Op.equal t a b).run P w = .ok r w := by
 unfold Instr.sameNow at e
 split at e
 ·split at e
  ·rename_i hk
   injection e with e; subst e; subst hk
   exact run_equalIn_int w 9999 t _ _ _ _ hu
  ·cases e
 ·injection e with e; subst e
  rw [beq_toListBytes]
  exact run_equalIn_string w 9999 t _ _ hu
 ·injection e with e; subst e
  exact run_equalIn_bool w 9999 t _ _ hu
 ·cases e
def FR (φ : Phi) : Option (Nat × CV) → Option (Nat × Value) → Prop
 | none, none => True
 | some (i, c), some (j, v) => i = j ∧ VR φ c v
 | _, _ => False
theorem find_rel {t : TypeId} {d : TypeDesc} {k : CV} {kv : Value} (hu : P.underlying t = some d) (hk : VR φ k kv) (ok : aggOk P t k = true) : ∀ {l : List (CV × CV)} {es : List MapEntry} {i : Nat} {r : Option (Nat × CV)}, VRs φ (l.map (·.1)) (es.map (·.key)) → VRs φ (l.map (·.2)) (es.map (·.val)) → findC P t k l i = some r →
  ∃ r', FR φ r r' ∧ (∀ w, (Instr.findAsking t kv es i).run P w = .ok r' w) ∧ (Instr.findNow d kv es i = none ∨ Instr.findNow d kv es i = some r')
 | [], [], i, r, _, _, e => by injection e with e; subst e; exact ⟨none, trivial, fun w => by simp [Instr.findAsking], .inr rfl⟩
 | [], _ :: _, _, _, h1, _, _ => by have := h1.len; simp at this
 | _ :: _, [], _, _, h1, _, _ => by have := h1.len; simp at this
 | (a, v) :: l, x :: es, i, r, h1, h2, e => by
  cases h1 with
  | cons ha ta =>
   cases h2 with
   | cons hv tv =>
    unfold findC at e
    cases oa : aggOk P t a with
    | false => rw [oa] at e; cases e
    | true =>
     rw [oa] at e
     simp only [cond_true] at e
     have hs : ∀ b, eqC P 20 t k.cells a.cells = some b → (∀ w, (Op.equal t kv x.key).run P w = .ok b w) ∧ (Instr.sameNow d kv x.key = none ∨ Instr.sameNow d kv x.key = some b) := fun b hb => by
      have hr := fun w => eq_rel (P := P) hk ha ok oa hb w
      refine ⟨hr, ?_⟩
      cases hsn : Instr.sameNow d kv x.key with
      | none => exact .inl rfl
      | some b' =>
       have := (sameNow_eq hu hsn default).symm.trans (hr default)
       injection this with this
       exact .inr (by rw [this])
     split at e
     ·rename_i hb
      injection e with e; subst e
      obtain ⟨hr, hn⟩ := hs true hb
      refine ⟨some (i, x.val), ⟨rfl, hv⟩, fun w => by simp [Instr.findAsking, hr w], ?_⟩
      rcases hn with hn | hn <;> simp [Instr.findNow, hn]
     ·rename_i hb
      obtain ⟨hr, hn⟩ := hs false hb
      obtain ⟨r', f1, f2, f3⟩ := find_rel hu hk ok ta tv e
      refine ⟨r', f1, fun w => by simp [Instr.findAsking, hr w, f2 w], ?_⟩
      rcases hn with hn | hn
      ·simp [Instr.findNow, hn]
      ·rcases f3 with f3 | f3 <;> simp [Instr.findNow, hn, f3]
     ·cases e
theorem findKey_run {t : TypeId} {d : TypeDesc} {kv : Value} {es : List MapEntry} {r' : Option (Nat × Value)} (hu : P.underlying t = some d) (h2 : ∀ w, (Instr.findAsking t kv es 0).run P w = .ok r' w) (h3 : Instr.findNow d kv es 0 = none ∨ Instr.findNow d kv es 0 = some r') (w : World) : (Instr.findKey t kv es).run P w = .ok r' w := by
 rcases h3 with h3 | h3
 ·simp [Instr.findKey, run_und hu, h3, h2 w]
 ·simp [Instr.findKey, run_und hu, h3]
theorem aggOk_und {t : TypeId} {c : CV} (e : aggOk P t c = true) : ∃ d, P.underlying t = some d := by
 unfold aggOk isAggC at e
 cases hu : P.underlying t with
 | none => rw [hu] at e; simp at e
 | some d => exact ⟨d, rfl⟩
theorem aggOk_agg {t : TypeId} {c : CV} {v : Value} (hv : VR φ c v) (e : aggOk P t c = true) (ha : isAggC P t = some true) : v = .agg ⟨v.cells.toList⟩ := by
 unfold aggOk at e
 rw [ha] at e
 cases hv <;> first | (simp at e; done) | rfl
theorem lookup_rel (hh : HR φ h w) {t : TypeId} {m k c : CV} {mv kv : Value} {ok : Bool} (hm : VR φ m mv) (hk : VR φ k kv) (e : lookupC P t m k ok h = some c) : ∃ u, (Instr.lookup t mv kv ok).run P w = .ok u w ∧ VR φ c u := by
 unfold lookupC at e
 split at e
 ·rename_i b kt vt hu
  cases hm with
  | map hp =>
   rename_i p
   split at e
   ·rename_i l z hb hz
    cases hq : (keyC P 20 kt k.cells && aggOk P kt k) with
    | false => rw [hq] at e; simp at e
    | true =>
     rw [hq] at e
     simp only [Bool.not_true, cond_false] at e
     simp only [Bool.and_eq_true] at hq
     obtain ⟨es, clock, ho, h1, h2, _⟩ := hh.ob _ _ _ hb hp
     obtain ⟨zv, hzr, hzv⟩ := run_zeroC (φ := φ) hz w
     obtain ⟨d, hd⟩ := aggOk_und hq.2
     have hck := key_rel (P := P) (v := kv) 20 10000 (by omega) hq.1 hk.cells (aggOk_agg hk hq.2) es.isEmpty w
     split at e
     ·rename_i i v' hf
      obtain ⟨r', f1, f2, f3⟩ := find_rel hd hk hq.2 h1 h2 hf
      injection e with e; subst e
      cases r' with
      | none => exact f1.elim
      | some jv =>
       obtain ⟨j, v⟩ := jv
       have hfk := findKey_run hd f2 f3 w
       cases ok
       ·exact ⟨v, by simp [Instr.lookup, run_und hu, getObj, Sem.run, ho, hck, hfk], f1.2⟩
       ·exact ⟨.tuple #[v, .bool true], by simp [Instr.lookup, run_und hu, getObj, Sem.run, ho, hck, hfk], .tup (.cons f1.2 (.cons (.bool true) .nil))⟩
     ·rename_i hf
      obtain ⟨r', f1, f2, f3⟩ := find_rel hd hk hq.2 h1 h2 hf
      injection e with e; subst e
      cases r' with
      | some jv => exact f1.elim
      | none =>
       have hfk := findKey_run hd f2 f3 w
       cases ok
       ·exact ⟨zv, by simp [Instr.lookup, run_und hu, getObj, Sem.run, ho, hck, hfk, hzr], hzv⟩
       ·exact ⟨.tuple #[zv, .bool false], by simp [Instr.lookup, run_und hu, getObj, Sem.run, ho, hck, hfk, hzr], .tup (.cons hzv (.cons (.bool false) .nil))⟩
     ·cases e
   ·cases e
 ·cases e
end
end Go.Proofs.YthffbfkcmbgghaaGreat.Cm
