/-
  The clean machine and the model: append and make.
-/
import Derived.Test.YthffbfkcmbgghaaGreatZCe
import Derived.Deep.Upon
set_option linter.all false
namespace Go.Proofs.YthffbfkcmbgghaaGreat.Cm
open Go Go.RowKit
variable [Env]
section
variable {P : Program} {φ : Phi} {h : CH} {w : World}
theorem HR.move (hh : HR φ h w) {b : Nat} {o o' : CObj} {p q : Pl} {w' : World} (hb : h.get b = some o) (hr : o.ro = false) (hp : φ b = some p) (hq : q.r = p.r) (hsz : w'.heap.size = w.heap.size) (hfr : ∀ r, r ≠ p.r → w'.heap[r]? = w.heap[r]?)
  (ho : OR (φ.put h.n q) w'.heap[p.r]? q o') : HR (φ.put h.n q) ((h.put b none).new o') w' := by
 have hle := hh.put_le q
 have hbn := hh.lt b p hp
 have old : ∀ x y, x ≠ h.n → (φ.put h.n q) x = some y → φ x = some y := fun x y hx e => by rwa [φ.put_other hx] at e
 have get : ∀ x, ((h.put b none).new o').get x = if x = h.n then some o' else if x = b then none else h.get x := fun x => by
  rw [CH.get_new, CH.get_put]; rfl
 have part : ∀ x y r, x ≠ h.n → x ≠ b → h.get x = some y → φ x = some r → r.r ≠ p.r := fun x y r _ h2 e1 e2 er => by
  rcases hh.ap x b y o r p e1 hb e2 hp er with e | ⟨_, e⟩
  ·exact h2 e
  ·rw [hr] at e; cases e
 refine ⟨fun x y r e1 e2 => ?_, fun x x' y y' r r' e1 e1' e2 e2' er => ?_, fun x r e => ?_, fun x hx => ?_, fun x y e1 e2 => by
  by_cases h1 : x = h.n
  ·exact ⟨q, by rw [h1, φ.put_same]⟩
  ·rw [get, if_neg h1] at e1
   rw [φ.put_other h1]
   by_cases h2 : x = b
   ·rw [if_pos h2] at e1; cases e1
   ·rw [if_neg h2] at e1; exact hh.gl x y e1 e2⟩
 ·rw [get] at e1
  by_cases h1 : x = h.n
  ·subst h1
   rw [if_pos rfl] at e1; injection e1 with e1; subst e1
   rw [φ.put_same] at e2; injection e2 with e2; subst e2
   rw [hq]; exact ho
  ·rw [if_neg h1] at e1
   by_cases h2 : x = b
   ·rw [if_pos h2] at e1; cases e1
   ·rw [if_neg h2] at e1
    have e3 := old x r h1 e2
    rw [hfr r.r (part x y r h1 h2 e1 e3)]
    exact (hh.ob x y r e1 e3).mono hle
 ·rw [get] at e1 e1'
  by_cases h1 : x = h.n <;> by_cases h1' : x' = h.n
  ·exact .inl (h1.trans h1'.symm)
  ·subst h1
   rw [φ.put_same] at e2; injection e2 with e2; subst e2
   rw [if_neg h1'] at e1'
   by_cases h2 : x' = b
   ·rw [if_pos h2] at e1'; cases e1'
   ·rw [if_neg h2] at e1'
    exact absurd (er.symm.trans hq) (part x' y' r' h1' h2 e1' (old x' r' h1' e2'))
  ·subst h1'
   rw [φ.put_same] at e2'; injection e2' with e2'; subst e2'
   rw [if_neg h1] at e1
   by_cases h2 : x = b
   ·rw [if_pos h2] at e1; cases e1
   ·rw [if_neg h2] at e1
    exact absurd (er.trans hq) (part x y r h1 h2 e1 (old x r h1 e2))
  ·rw [if_neg h1] at e1; rw [if_neg h1'] at e1'
   by_cases h2 : x = b
   ·rw [if_pos h2] at e1; cases e1
   ·by_cases h2' : x' = b
    ·rw [if_pos h2'] at e1'; cases e1'
    ·rw [if_neg h2] at e1; rw [if_neg h2'] at e1'
     exact hh.ap x x' y y' r r' e1 e1' (old x r h1 e2) (old x' r' h1' e2') er
 ·show x < h.n + 1 ∧ r.r < w'.heap.size
  rw [hsz]
  by_cases h1 : x = h.n
  ·subst h1
   rw [φ.put_same] at e; injection e with e; subst e
   exact ⟨Nat.lt_succ_self _, by rw [hq]; exact hbn.2⟩
  ·have := hh.lt x r (old x r h1 e)
   exact ⟨Nat.lt_succ_of_lt this.1, this.2⟩
 ·have hx : h.n + 1 ≤ x := hx
  rw [get, if_neg (by omega)]
  by_cases h2 : x = b
  ·rw [if_pos h2]
  ·rw [if_neg h2]; exact hh.nw x (by omega)
theorem Went.moved (hh : HR φ h w) {b : Nat} {p q : Pl} {w' : World} (hp : φ b = some p) (hq : q.r = p.r) (hos : w'.os = w.os) (ht : w'.tape = w.tape) (ho : w'.output = w.output) (hsz : w'.heap.size = w.heap.size) (hfr : ∀ r, r ≠ p.r → w'.heap[r]? = w.heap[r]?) :
  Went φ h.n b w (φ.put h.n q) w' :=
 ⟨hh.put_le q, fun x y e => by
  by_cases h1 : x = h.n
  ·subst h1; rw [φ.put_same] at e; injection e with e; subst e
   exact .inr ⟨Nat.le_refl _, .inr ⟨b, p, Nat.le_refl _, hp, hq.symm⟩⟩
  ·rw [φ.put_other h1] at e; exact .inl e, hos, ht, ho, Nat.le_of_eq hsz.symm, fun r _ hf => hfr r fun e => hf b p (Nat.le_refl _) hp e.symm⟩
theorem run_append_in (t tx ty e : TypeId) (i : TypeInfo) (ht : P.underlying t = some (.slice e)) (hi : P.info? e = some i) (b off sLen sCap : Nat) (x : Value) (n : Nat) (news : List Value) {w w' : World} (hs : Src P i.size tx x n news w)
  (hroom : sLen + n ≤ sCap) (hst : (storeCells ⟨b, off + sLen * i.size, none⟩ news).run P w = .ok () w') :
  (Builtin.append_ #[t, tx] ty #[.slice (some ⟨b, off, none⟩) sLen sCap, x]).run P w = .ok (.slice (some ⟨b, off, none⟩) (sLen + n) sCap) w' := by
 rcases hs.kind with ⟨e', hk⟩ | hk <;> simp [Builtin.append_, run_underlying ht, run_underlying hk, sizeOf, typeInfo, hi, hs.len, hroom, hs.cells, Addr.add_lit, hst]
theorem firstCells_none (a : Option Addr) (w : World) (size cap : Nat) : (Builtin.firstCells size 0 (.slice a 0 cap)).run P w = .ok #[] w := by
 cases a with
 | none => exact run_firstCells_none _ _ _ _ _
 | some ad => exact run_firstCells_some w size 0 _ _ _ [] (by simp) fun x v hv => by simp at hv
theorem grownCap_ge (w : World) (need old : Nat) (e : TypeId) : need ≤ grownCap w need old e := by
 unfold grownCap Question.cut; simp
theorem row_src (hh : HR φ h w) {x : CV} {v : Value} {new : List CV} {m : Nat} {tx e' : TypeId} {size : Nat} (hk : P.underlying tx = some (.slice e')) (hx : VR φ x v) (e : rowC h x = some (new, m)) (hl : new.length = m * size) (hc : new.all (·.cell) = true) :
  ∃ news, VRs φ new news ∧ Src P size tx v m news w := by
 unfold rowC at e
 split at e
 ·injection e with e; injection e with e1 e2; subst e1; subst e2
  cases hx with
  | nils =>
   rename_i a
   cases a with
   | none => exact ⟨[], .nil, Src.ofNil w hk 0⟩
   | some ad => exact ⟨[], .nil, Src.ofSlice w hk _ _ _ [] (by simp) (fun x v hv => by simp at hv) (by simp)⟩
 ·rename_i b o n z
  rw [Option.map_eq_some_iff] at e
  obtain ⟨l, hl', e⟩ := e
  injection e with e1 e2; subst e1; subst e2
  cases hx with
  | sl hp ho hn hz =>
   obtain ⟨l', hr, hn', _, hcell⟩ := readC_rel hh hl' hp
   have hlen := hr.len
   refine ⟨l', hr, Src.ofSlice w hk _ _ _ l' (by omega) ?_ (hr.cell hc)⟩
   rcases ho with rfl | ⟨rfl, rfl⟩
   ·exact hcell
   ·intro j u hu
    have : l' = [] := List.eq_nil_of_length_eq_zero (by omega)
    subst this; simp at hu
 ·cases e
theorem zeroCells_size (z : Array Value) (n : Nat) : (Builtin.zeroCells z n).size = n * z.size := by simp [Builtin.zeroCells]
theorem append_new (hh : HR φ h w) {t tx ty el : TypeId} {i : TypeInfo} {zc : CV} {base : Option Addr} {sLen sCap m : Nat} {olds news : List Value} {lo new : List CV} {xv : Value} (hu : P.underlying t = some (.slice el)) (hi : P.info? el = some i) (hz : zeroC P el = some zc) (hzl : zc.cells.length = i.size)
  (hby : P.bytesOf el ≤ 65536) (ho : VRs φ lo olds) (hold : (Builtin.firstCells i.size sLen (.slice base sLen sCap)).run P w.drew = .ok olds.toArray w.drew) (hlo : olds.length = sLen * i.size) (hn : VRs φ new news) (hnl : news.length = m * i.size) (hs : Src P i.size tx xv m news w) (hg : sCap < sLen + m) (hb : sLen + m < 65536)
  {h0 : CH} (hh0 : HR φ h0 w) (hn0 : h0.n = h.n) :
  ∃ u w' φ', (Builtin.append_ #[t, tx] ty #[.slice base sLen sCap, xv]).run P w = .ok u w' ∧ Went φ h.n (h.n + 1) w φ' w' ∧ HR φ' (h0.new (.cells (lo ++ new) el false)) w' ∧ VR φ' (.sl h.n 0 (sLen + m) i.size) u := by
 obtain ⟨i2, z, hi2, hz2, hzo⟩ := zeroC_info hz
 rw [hi] at hi2; injection hi2 with hi2; subst hi2
 have hzr : VR φ zc z := ofV_rel hzo
 have hzs : z.cells.size = i.size := by rw [← hzl, hzr.cells.len]; simp
 have hbb : i.bytes ≤ 65536 := by unfold Program.bytesOf at hby; simpa [hi] using hby
 have hfit : Builtin.nextslicecap (sLen + m) sCap * i.bytes ≤ 281474976710656 := by
  refine growslice_fits hg ?_
  have := Nat.mul_le_mul (Nat.le_of_lt hb) hbb
  omega
 have hrun := run_append_grow_src (P := P) (w := w) t tx ty el i z hu hi hz2 base sLen sCap olds hold xv m news hs hg (by omega) hfit
 have hge := grownCap_ge w (sLen + m) sCap el
 have hlr := (ho.append hn).len
 have hsize : ((olds ++ news).toArray ++ Builtin.zeroCells z.cells (grownCap w (sLen + m) sCap el - (sLen + m))).size = grownCap w (sLen + m) sCap el * i.size := by
  rw [Array.size_append, zeroCells_size, hzs, List.size_toArray, List.length_append, hlo, hnl, ← Nat.add_mul, ← Nat.add_mul]
  congr 1; omega
 obtain ⟨g1, g2, g3⟩ := row_rel (t := el) hh0.drew (l := lo ++ new) (cs := (olds ++ news).toArray ++ Builtin.zeroCells z.cells (grownCap w (sLen + m) sCap el - (sLen + m))) (by
  rw [hlr, Array.toList_append, List.take_append_of_le_length (by simp), List.take_of_length_le (by simp)]
  exact ho.append hn) (by rw [hlr]; simp)
 rw [hn0] at g1 g2 g3
 refine ⟨_, _, _, hrun, ((Went.drew φ h.n (h.n + 1) w).trans g1 (Nat.le_refl _) (Nat.le_refl _) (Nat.le_refl _)), g2, VR.sl (o' := 0) g3 (.inl rfl) hge ?_⟩
 show 0 + _ * _ ≤ _
 rw [Nat.zero_add]
 exact Nat.le_of_eq hsize.symm
theorem askO_ok {op : BinOp} {a b : Ex} {r : Bool} (e : askO op a b = some r) : cmpC op (a.ev Val.ρ) (b.ev Val.ρ) = some r := by
 unfold askO at e
 split at e
 ·exact e
 ·exact Env.ok e
theorem askB_ok {op : BinOp} {a b : Ex} (e : askB op a b = true) : cmpC op (a.ev Val.ρ) (b.ev Val.ρ) = some true := by
 unfold askB at e
 split at e
 ·rename_i r hr
  subst e; exact askO_ok hr
 ·cases e
theorem asB_rel {c : CV} {v : Value} {b : Bool} (hv : VR φ c v) (e : asB c = some b) : v = .bool b := by
 cases hv <;> first
  | (cases e; done)
  | (injection e with e; subst e; rfl)
  | (have := askO_ok e; simp only [cmpC, Ex.ev] at this; injection this with this; rw [← this])
theorem useC_rel {c d : CV} {v : Value} (hv : VR φ c v) (e : useC c = some d) : VR φ d v := by
 cases hv <;> first
  | (injection e with e; subst e; constructor <;> assumption)
  | (simp only [useC] at e; rw [Option.map_eq_some_iff] at e; obtain ⟨b, hb, rfl⟩ := e; have := askO_ok hb; simp only [cmpC, Ex.ev] at this; injection this with this; rw [this]; exact .bool b)
theorem askB_lss {a b : Ex} (e : askB .lss a b = true) : a.ev Val.ρ < b.ev Val.ρ := by
 have := askB_ok e
 simpa [cmpC] using this
theorem askB_leq {a b : Ex} (e : askB .leq a b = true) : a.ev Val.ρ ≤ b.ev Val.ρ := by
 have := askB_ok e
 simpa [cmpC] using this
theorem addN_ev {e : Ex} {m : Nat} (h0 : 0 ≤ e.ev Val.ρ) (h1 : e.ev Val.ρ < 65536) (h2 : m < 131072) : (addN e m).ev Val.ρ = e.ev Val.ρ + m := by
 unfold addN
 split
 ·simp
 ·simp [Ex.ev]
 ·simp only [Ex.ev]
  rw [IntKind.wrap_i64]; omega
theorem rows_keep {cs vs X : List Value} {o q k : Nat} (hk : k ≤ q) (ho : o + q ≤ cs.length) : ((cs.take (o + q) ++ vs ++ X).drop o).take k = (cs.drop o).take k := by
 apply List.ext_getElem?
 intro j
 by_cases hj : j < k
 ·rw [List.getElem?_take_of_lt hj, List.getElem?_take_of_lt hj, List.getElem?_drop, List.getElem?_drop, spl _ _ _ _ _ ho, if_pos (by omega)]
 ·rw [List.getElem?_eq_none (by simp; omega), List.getElem?_eq_none (by simp; omega)]
theorem append_newG (hh : HR φ h w) {t tx ty el : TypeId} {i : TypeInfo} {zc : CV} {base : Option Addr} {sLen sCap m j : Nat} {lv news : List Value} {l new : List CV} {xv : Value} {e : Ex} (hu : P.underlying t = some (.slice el)) (hi : P.info? el = some i) (hz : zeroC P el = some zc) (hzl : zc.cells.length = i.size)
  (hby : P.bytesOf el ≤ 65536) (ho : VRs φ l lv) (hold : (Builtin.firstCells i.size sLen (.slice base sLen sCap)).run P w.drew = .ok (Val.lst j ++ lv).toArray w.drew) (hlo : (Val.lst j ++ lv).length = sLen * i.size) (hn : VRs φ new news) (hnl : news.length = m * i.size) (hs : Src P i.size tx xv m news w) (hg : sCap < sLen + m) (hb : sLen + m < 200000)
  {h0 : CH} (hh0 : HR φ h0 w) (hn0 : h0.n = h.n) (he : ((sLen + m : Nat) : Int) = e.ev Val.ρ) :
  ∃ u w' φ', (Builtin.append_ #[t, tx] ty #[.slice base sLen sCap, xv]).run P w = .ok u w' ∧ Went φ h.n (h.n + 1) w φ' w' ∧ HR φ' (h0.new (.rows j (l ++ new) el false)) w' ∧ VR φ' (.gs h.n 0 e i.size true) u := by
 obtain ⟨i2, z, hi2, hz2, hzo⟩ := zeroC_info hz
 rw [hi] at hi2; injection hi2 with hi2; subst hi2
 have hzr : VR φ zc z := ofV_rel hzo
 have hzs : z.cells.size = i.size := by rw [← hzl, hzr.cells.len]; simp
 have hbb : i.bytes ≤ 65536 := by unfold Program.bytesOf at hby; simpa [hi] using hby
 have hfit : Builtin.nextslicecap (sLen + m) sCap * i.bytes ≤ 281474976710656 := by
  refine growslice_fits hg ?_
  have := Nat.mul_le_mul (Nat.le_of_lt hb) hbb
  omega
 have hrun := run_append_grow_src (P := P) (w := w) t tx ty el i z hu hi hz2 base sLen sCap (Val.lst j ++ lv) hold xv m news hs hg (by omega) hfit
 have hge := grownCap_ge w (sLen + m) sCap el
 have hlr := ho.len
 have hlr2 := hn.len
 generalize hcs : ((Val.lst j ++ lv ++ news).toArray ++ Builtin.zeroCells z.cells (grownCap w (sLen + m) sCap el - (sLen + m))) = cs at hrun
 have hsize : cs.size = grownCap w (sLen + m) sCap el * i.size := by
  rw [← hcs, Array.size_append, zeroCells_size, hzs, List.size_toArray, List.length_append, hlo, hnl, ← Nat.add_mul, ← Nat.add_mul]
  congr 1; omega
 obtain ⟨Z, hZ⟩ : ∃ Z, cs.toList = Val.lst j ++ ((lv ++ news) ++ Z) := ⟨_, by rw [← hcs, Array.toList_append]; simp only [List.append_assoc]; rfl⟩
 have hlen : (Val.lst j).length + (lv.length + news.length) ≤ cs.size := by
  have := congrArg List.length hZ
  simp at this; omega
 have hle := hh0.drew.put_le ⟨w.heap.size, 0, cs.size⟩
 have g2 : HR (φ.put h0.n ⟨w.heap.size, 0, cs.size⟩) (h0.new (.rows j (l ++ new) el false)) (w.drew.alloc (.cells cs el)) := by
  refine hh0.drew.new rfl ⟨cs, el, (0, 0), rfl, rfl, ?_, ?_, ?_, fun _ => ⟨rfl, rfl⟩⟩
  ·show 0 + (Val.lst j).length + (l ++ new).length ≤ cs.size
   simp; omega
  ·show List.take _ (List.drop 0 cs.toList) = _
   rw [hZ]; simp
  ·show VRs _ _ (List.take (l ++ new).length (List.drop (0 + (Val.lst j).length) cs.toList))
   rw [hZ, Nat.zero_add, List.drop_left, List.take_append_of_le_length (by simp; omega), List.take_of_length_le (by simp; omega)]
   exact (ho.append hn).mono hle
 have g1 := Went.alloc hh0.drew (h0.n + 1) ⟨w.heap.size, 0, cs.size⟩ rfl (.cells cs el)
 rw [hn0] at g1 g2
 refine ⟨_, _, _, hrun, ((Went.drew φ h.n (h.n + 1) w).trans g1 (Nat.le_refl _) (Nat.le_refl _) (Nat.le_refl _)), g2, VR.gs he hge (.inl ⟨_, Phi.put_same _ _ _, by simp, fun _ => ?_⟩)⟩
 show 0 + 0 * i.size + grownCap w (sLen + m) sCap el * i.size ≤ cs.size
 rw [hsize, Nat.zero_mul, Nat.zero_add]
 exact Nat.le_refl _
theorem append_rel0 (hh : HR φ h w) {t tx ty e' : TypeId} {s x c : CV} {sv xv : Value} {h' : CH} {lw : Nat} (hk : P.underlying tx = some (.slice e')) (hs : VR φ s sv) (hx : VR φ x xv) (e : appendC0 P t s x h = some (c, h', lw)) :
  ∃ u w' φ', (Builtin.append_ #[t, tx] ty #[sv, xv]).run P w = .ok u w' ∧ Went φ h.n lw w φ' w' ∧ HR φ' h' w' ∧ VR φ' c u := by
 unfold appendC0 at e
 split at e
 ·rename_i el hu
  split at e
  ·rename_i z new m hz hrow
   obtain ⟨i, hi, rfl⟩ := szC_info hz
   cases hq : fitsC P el i.size new m with
   | false => rw [hq] at e; simp at e
   | true =>
    rw [hq] at e
    simp only [Bool.not_true, cond_false] at e
    simp only [fitsC, Bool.and_eq_true] at hq
    obtain ⟨⟨⟨q1, q2⟩, q3⟩, q4⟩ := hq
    have q1 := ble_le q1
    have q4 := beq_eq' q4
    obtain ⟨zc, hzc, hzl⟩ : ∃ zc, zeroC P el = some zc ∧ zc.cells.length = i.size := by
     unfold zeroFits at q2
     cases hzz : zeroC P el with
     | none => simp [hzz] at q2
     | some v => simp only [hzz] at q2; exact ⟨v, rfl, beq_eq' q2⟩
    obtain ⟨news, hnr, hsrc⟩ := row_src (P := P) hh hk hx hrow q4 q3
    have hnl : news.length = m * i.size := by rw [← hnr.len]; exact q4
    split at e
    ·cases hs with
     | nils =>
      rename_i ba
      by_cases hm : m = 0
      ·subst hm
       simp only [Nat.beq, cond_true] at e
       injection e with e; injection e with e1 e2; injection e2 with e2 e3
       subst e1; subst e2; subst e3
       have h0 : news = [] := List.eq_nil_of_length_eq_zero (by omega)
       subst h0
       exact ⟨_, w, φ, run_append_nothing w t tx ty el i hu hi ba 0 0 (Nat.le_refl _) xv hsrc, Went.refl _ _ _ _, hh, .nils⟩
      ·have hb0 : Nat.beq m 0 = false := by rw [beq_dec]; simp [hm]
       rw [hb0] at e
       simp only [cond_false] at e
       obtain ⟨h1, h2⟩ := bif_some e
       have h1 := blt_lt h1
       injection h2 with h2; injection h2 with e1 e2; injection e2 with e2 e3
       subst e1; subst e2; subst e3
       have := append_new (P := P) (ty := ty) (base := ba) (sLen := 0) (sCap := 0) (olds := []) (lo := []) hh hu hi hzc hzl q1 .nil (firstCells_none _ _ _ _) (by simp) hnr hnl hsrc (by omega) (by omega) hh rfl
       simpa using this
    ·rename_i b o n z'
     cases hs with
     | sl hp ho hnc hcz =>
      rename_i o' cp p
      by_cases hm : m = 0
      ·subst hm
       simp only [Nat.beq, cond_true] at e
       injection e with e; injection e with e1 e2; injection e2 with e2 e3
       subst e1; subst e2; subst e3
       have h0 : news = [] := List.eq_nil_of_length_eq_zero (by omega)
       subst h0
       exact ⟨_, w, φ, run_append_nothing w t tx ty el i hu hi _ _ _ hnc xv hsrc, Went.refl _ _ _ _, hh, .sl hp ho hnc hcz⟩
      ·have hb0 : Nat.beq m 0 = false := by rw [beq_dec]; simp [hm]
       rw [hb0] at e
       simp only [cond_false] at e
       split at e
       ·rename_i l t' hb
        obtain ⟨h1, h2⟩ := bif_some e
        simp only [Bool.and_eq_true] at h1
        obtain ⟨⟨⟨h0, h1⟩, h3⟩, h4⟩ := h1
        have h0 := (beq_eq' h0).symm
        subst h0
        have h1 := beq_eq' h1
        subst h1
        have h3 := beq_eq' h3
        have h4 := blt_lt h4
        injection h2 with h2; injection h2 with e1 e2; injection e2 with e2 e3
        subst e1; subst e2; subst e3
        obtain ⟨cs, fz, hg, hpz, hl, hr, hf⟩ := hh.ob b _ p hb hp
        have hf := hf rfl
        subst hf
        have hbn := hh.lt b p hp
        by_cases hroom : n + m ≤ cp
        ·have ho' : o' = p.o + o := by rcases ho with e | ⟨_, e⟩ <;> omega
         subst ho'
         have hmul : (n + m) * i.size ≤ cp * i.size := Nat.mul_le_mul_right _ hroom
         rw [Nat.add_mul] at hmul
         have hst := run_storeCells_at P p.r (p.o + o + n * i.size) el news 0 cs w hg (by omega) hsrc.one
         have hrun := run_append_in (P := P) t tx ty el i hu hi p.r (p.o + o) n cp xv m news hsrc hroom hst
         simp only [Nat.add_zero] at hrun
         have hoth : ∀ r, r ≠ p.r → (w.setRow p.r (cs.toList.take (p.o + o + n * i.size) ++ news ++ cs.toList.drop (p.o + o + n * i.size + news.length)).toArray).heap[r]? = w.heap[r]? := fun r hr' => setRow_other w p.r r _ hr'
         have hcl : cs.toList.length = cs.size := by simp
         have hsz : (cs.toList.take (p.o + o + n * i.size) ++ news ++ cs.toList.drop (p.o + o + n * i.size + news.length)).length = cs.size := by simp; omega
         have hv1 := hr.drop o
         have e5 : (((cs.toList.take (p.o + o + n * i.size) ++ news ++ cs.toList.drop (p.o + o + n * i.size + news.length)).drop (p.o + o)).take (l.drop o ++ new).length) = ((cs.toList.drop p.o).take l.length).drop o ++ news := by
          apply List.ext_getElem?
          intro j
          have hll : (l.drop o ++ new).length = n * i.size + news.length := by simp; rw [hnr.len]; omega
          rw [hll]
          by_cases hj : j < n * i.size + news.length
          ·rw [List.getElem?_take_of_lt hj, List.getElem?_drop, spl _ _ _ _ _ (by omega)]
           by_cases hj2 : j < n * i.size
           ·rw [if_pos (by omega), List.getElem?_append_left (by simp; omega), List.getElem?_drop, List.getElem?_take_of_lt (by omega), List.getElem?_drop]
            congr 1; omega
           ·rw [if_neg (by omega), if_pos (by omega), List.getElem?_append_right (by simp; omega)]
            congr 1; simp; omega
          ·rw [List.getElem?_eq_none (by simp; omega), List.getElem?_eq_none (by simp; omega)]
         refine ⟨_, _, _, hrun, Went.moved (q := ⟨p.r, p.o + o, p.z⟩) hh hp rfl rfl rfl rfl (size_setRow _ _ _) hoth, hh.move (q := ⟨p.r, p.o + o, p.z⟩) hb rfl hp rfl (size_setRow _ _ _) hoth ?_, VR.sl (o' := p.o + o) (p := ⟨p.r, p.o + o, p.z⟩) (Phi.put_same _ _ _) (.inl (Nat.add_zero _).symm) hroom hcz⟩
         rw [setRow_heap w p.r cs _ el (0, 0) hg]
         refine ⟨_, _, rfl, by simpa using hsz.trans hpz, ?_, ?_, fun _ => rfl⟩
         ·show p.o + o + (l.drop o ++ new).length ≤ p.z
          simp; omega
         ·have hv2 : VRs φ (l.drop o ++ new) (((cs.toList.take (p.o + o + n * i.size) ++ news ++ cs.toList.drop (p.o + o + n * i.size + news.length)).drop (p.o + o)).take (l.drop o ++ new).length) := by
           rw [e5]; exact hv1.append hnr
          exact hv2.mono (hh.put_le _)
        ·have hgot := append_new (P := P) (ty := ty) (base := some ⟨p.r, o', none⟩) (sLen := n) (sCap := cp) (olds := ((cs.toList.drop p.o).take l.length).drop o) (lo := l.drop o) hh hu hi hzc hzl q1 (hr.drop o) ?_ (by simp; omega) hnr hnl hsrc (by omega) h4 (hh.kill b) rfl
         ·obtain ⟨u, w', φ', r1, r2, r3, r4⟩ := hgot
          exact ⟨u, w', φ', r1, r2.weak (by omega) (Nat.le_refl _), r3, r4⟩
         ·refine run_firstCells_some w.drew i.size n _ _ _ _ (by simp; omega) fun j v hv => ?_
          rcases ho with rfl | ⟨rfl, rfl⟩
          ·rw [add_lit', World.cell?_drew, cell_of_cells hg]
           by_cases hj : o + j < l.length
           ·rw [List.getElem?_drop, List.getElem?_take_of_lt hj, List.getElem?_drop] at hv
            rw [← Nat.add_assoc] at hv
            simpa using hv
           ·rw [List.getElem?_eq_none (by simp; omega)] at hv; cases hv
          ·rw [List.getElem?_eq_none (by simp; omega)] at hv; cases hv
       ·cases e
    ·rename_i b k y z'
     cases hs with
     | gs hn hcap ha =>
      rename_i cp n a
      by_cases hm : m = 0
      ·subst hm
       simp only [Nat.beq, cond_true] at e
       injection e with e; injection e with e1 e2; injection e2 with e2 e3
       subst e1; subst e2; subst e3
       have h0 : news = [] := List.eq_nil_of_length_eq_zero (by omega)
       subst h0
       exact ⟨_, w, φ, run_append_nothing w t tx ty el i hu hi a n cp hcap xv hsrc, Went.refl _ _ _ _, hh, .gs hn hcap ha⟩
      ·have hb0 : Nat.beq m 0 = false := by rw [beq_dec]; simp [hm]
       rw [hb0] at e
       simp only [cond_false] at e
       split at e
       ·rename_i j l t' hb
        split at e
        ·rename_i y0 hlen
         obtain ⟨h1, h2⟩ := bif_some e
         simp only [Bool.and_eq_true] at h1
         obtain ⟨⟨⟨⟨⟨⟨g0, g1⟩, g2⟩, g3⟩, g4⟩, g5⟩, g6⟩ := h1
         have g0 := beq_eq' g0
         have g1 := (beq_eq' g1).symm
         have g2 := (beq_eq' g2).symm
         subst g0; subst g1; subst g2
         have g3 := beq_eq' g3
         have g4 := Ex.eq_of_beq g4
         have g5 : y0.ev Val.ρ < 65536 := askB_lss g5
         have g6 := blt_lt g6
         injection h2 with h2; injection h2 with e1 e2; injection e2 with e2 e3
         subst e1; subst e2; subst e3
         obtain ⟨hL, hL0, _⟩ := Env.lenOk hlen
         have hq : l.length = (l.length / i.size) * i.size := (Nat.div_mul_cancel (Nat.dvd_of_mod_eq_zero g3)).symm
         generalize l.length / i.size = q at *
         obtain ⟨N0, hN0⟩ := Int.eq_ofNat_of_zero_le hL0
         rw [hN0] at hL
         have hLn : (Val.lst j).length = N0 * i.size := by exact_mod_cast hL
         have hey : y.ev Val.ρ = y0.ev Val.ρ + q := by rw [g4]; exact addN_ev hL0 g5 (by omega)
         have hn2 : n = N0 + q := by omega
         have hlen2 : (Val.lst j).length + l.length = n * i.size := by rw [hLn, hq, hn2, Nat.add_mul]
         have hez : ((n + m : Nat) : Int) = (addN y0 (q + m)).ev Val.ρ := by rw [addN_ev hL0 g5 (by omega)]; omega
         rcases ha with ⟨p, hp, rfl, hfit⟩ | ⟨h0, hc0⟩
         ·obtain ⟨cs, t'', fz, hg, hpz, hbd, hfl, hr, hf⟩ := hh.ob b _ p hb hp
          obtain ⟨hf1, hf2⟩ := hf rfl
          subst hf1; subst hf2
          have hfit := hfit rfl
          have hbn := hh.lt b p hp
          have hcl : cs.toList.length = cs.size := by simp
          have hlv := hr.len
          simp only [Nat.zero_mul, Nat.add_zero] at hfit ⊢
          by_cases hroom : n + m ≤ cp
          ·have hmul : (n + m) * i.size ≤ cp * i.size := Nat.mul_le_mul_right _ hroom
           rw [Nat.add_mul] at hmul
           have hst := run_storeCells_at P p.r (p.o + n * i.size) t'' news 0 cs w hg (by omega) hsrc.one
           have hrun := run_append_in (P := P) t tx ty t'' i hu hi p.r p.o n cp xv m news hsrc hroom hst
           simp only [Nat.add_zero] at hrun
           have hoth : ∀ r, r ≠ p.r → (w.setRow p.r (cs.toList.take (p.o + n * i.size) ++ news ++ cs.toList.drop (p.o + n * i.size + news.length)).toArray).heap[r]? = w.heap[r]? := fun r hr' => setRow_other w p.r r _ hr'
           have hsz : (cs.toList.take (p.o + n * i.size) ++ news ++ cs.toList.drop (p.o + n * i.size + news.length)).length = cs.size := by simp; omega
           refine ⟨_, _, _, hrun, Went.moved (q := p) hh hp rfl rfl rfl rfl (size_setRow _ _ _) hoth, hh.move (q := p) hb rfl hp rfl (size_setRow _ _ _) hoth ?_, VR.gs hez hroom (.inl ⟨p, Phi.put_same _ _ _, by simp, fun _ => by simpa using hfit⟩)⟩
           rw [setRow_heap w p.r cs _ t'' (0, 0) hg]
           refine ⟨_, t'', _, rfl, by simpa using hsz.trans hpz, ?_, ?_, ?_, fun _ => ⟨rfl, rfl⟩⟩
           ·rw [List.length_append, hnr.len, hnl]; omega
           ·show List.take _ (List.drop p.o (cs.toList.take (p.o + n * i.size) ++ news ++ cs.toList.drop (p.o + n * i.size + news.length))) = _
            rw [rows_keep (by omega) (by omega)]; exact hfl
           ·have e5 : ((cs.toList.take (p.o + n * i.size) ++ news ++ cs.toList.drop (p.o + n * i.size + news.length)).drop (p.o + (Val.lst j).length)).take (l ++ new).length = (cs.toList.drop (p.o + (Val.lst j).length)).take l.length ++ news := by
             apply List.ext_getElem?
             intro x
             have hll : (l ++ new).length = l.length + news.length := by rw [List.length_append, hnr.len]
             rw [hll]
             by_cases hx : x < l.length + news.length
             ·rw [List.getElem?_take_of_lt hx, List.getElem?_drop, spl _ _ _ _ _ (by omega)]
              by_cases hx2 : x < l.length
              ·rw [if_pos (by omega), List.getElem?_append_left (by simp; omega), List.getElem?_take_of_lt hx2, List.getElem?_drop]
              ·rw [if_neg (by omega), if_pos (by omega), List.getElem?_append_right (by simp; omega)]
               congr 1; simp; omega
             ·rw [List.getElem?_eq_none (by simp; omega), List.getElem?_eq_none (by simp; omega)]
            have hv2 : VRs φ (l ++ new) (((cs.toList.take (p.o + n * i.size) ++ news ++ cs.toList.drop (p.o + n * i.size + news.length)).drop (p.o + (Val.lst j).length)).take (l ++ new).length) := by
             rw [e5]; exact hr.append hnr
            exact hv2.mono (hh.put_le _)
          ·have hgot := append_newG (P := P) (ty := ty) (base := some ⟨p.r, p.o, none⟩) (sLen := n) (sCap := cp) (j := j) (lv := (cs.toList.drop (p.o + (Val.lst j).length)).take l.length) (l := l) hh hu hi hzc hzl q1 hr ?_ (by rw [List.length_append, ← hlv]; exact hlen2) hnr hnl hsrc (by omega) (by omega) (hh.kill b) rfl hez
           ·obtain ⟨u, w', φ', r1, r2, r3, r4⟩ := hgot
            exact ⟨u, w', φ', r1, r2.weak (by omega) (Nat.le_refl _), r3, r4⟩
           ·refine run_firstCells_some w.drew i.size n _ _ _ _ (by rw [List.length_append, ← hlv]; exact hlen2) fun x v hv => ?_
            rw [add_lit', World.cell?_drew, cell_of_cells hg, ← Array.getElem?_toList]
            by_cases hx : x < (Val.lst j).length
            ·rw [List.getElem?_append_left hx] at hv
             exact rows_cell hfl hv
            ·rw [List.getElem?_append_right (by omega)] at hv
             have hx2 : x - (Val.lst j).length < l.length := by
              have := (List.getElem?_eq_some_iff.1 hv).1
              rw [hlv]; exact this
             rw [List.getElem?_take_of_lt hx2, List.getElem?_drop] at hv
             rw [← hv]; congr 1; omega
         ·have hc0 := hc0 rfl
          subst hc0
          have hn0 : n = 0 := h0
          have hl0 : l = [] := List.eq_nil_of_length_eq_zero (by rw [hn0] at hlen2; omega)
          have hj0 : Val.lst j = [] := List.eq_nil_of_length_eq_zero (by rw [hn0] at hlen2; omega)
          subst hl0
          have hgot := append_newG (P := P) (ty := ty) (base := a) (sLen := n) (sCap := 0) (j := j) (lv := []) (l := []) hh hu hi hzc hzl q1 .nil ?_ (by rw [hj0, hn0]; simp) hnr hnl hsrc (by omega) (by omega) (hh.kill b) rfl hez
          ·obtain ⟨u, w', φ', r1, r2, r3, r4⟩ := hgot
           rcases Nat.lt_or_ge b h.n with hbn | hbn
           ·exact ⟨u, w', φ', r1, r2.weak (by omega) (Nat.le_refl _), r3, r4⟩
           ·have := hh.nw b hbn
            rw [hb] at this; cases this
          ·rw [hj0, hn0]
           cases a with
           | none => exact run_firstCells_none _ _ _ _ _
           | some ad => exact run_firstCells_some w.drew i.size 0 _ _ _ _ (by simp) fun x v hv => by simp at hv
        ·cases e
       ·cases e
    ·cases e
  ·cases e
 ·cases e
theorem HR.newAbs (hh : HR φ h w) (o : CObj) (ho : o.isGlob = false := by rfl) : HR φ (h.new o) w := by
 have get : ∀ x, (h.new o).get x = if x = h.n then some o else h.get x := fun x => by rw [CH.get_new]
 have lt : ∀ x r, φ x = some r → x ≠ h.n := fun x r e => by have := (hh.lt x r e).1; omega
 refine ⟨fun x y r e1 e2 => ?_, fun x x' y y' r r' e1 e1' e2 e2' er => ?_, fun x r e => ?_, fun x hx => ?_, fun x y e1 e2 => by
  rw [get] at e1
  by_cases hx : x = h.n
  ·rw [if_pos hx] at e1; injection e1 with e1; subst e1; rw [ho] at e2; cases e2
  ·rw [if_neg hx] at e1; exact hh.gl x y e1 e2⟩
 ·rw [get, if_neg (lt x r e2)] at e1
  exact hh.ob x y r e1 e2
 ·rw [get, if_neg (lt x r e2)] at e1
  rw [get, if_neg (lt x' r' e2')] at e1'
  exact hh.ap x x' y y' r r' e1 e1' e2 e2' er
 ·exact ⟨Nat.lt_succ_of_lt (hh.lt x r e).1, (hh.lt x r e).2⟩
 ·have hx : h.n + 1 ≤ x := hx
  rw [get, if_neg (by omega)]
  exact hh.nw x (by omega)
theorem append_newT (hh : HR φ h w) {t tx ty el : TypeId} {i : TypeInfo} {zc : CV} {base : Option Addr} {sLen sCap m j : Nat} {olds news lx : List Value} {lc : List CV} {xv : Value} {e : Ex} (hu : P.underlying t = some (.slice el)) (hi : P.info? el = some i) (hz : zeroC P el = some zc) (hzl : zc.cells.length = i.size)
  (hby : P.bytesOf el ≤ 65536) (ho : VRs φ lc lx) (hsum : olds ++ news = Val.lst j ++ lx) (hold : (Builtin.firstCells i.size sLen (.slice base sLen sCap)).run P w.drew = .ok olds.toArray w.drew) (hlo : olds.length = sLen * i.size) (hnl : news.length = m * i.size) (hs : Src P i.size tx xv m news w) (hg : sCap < sLen + m) (hb : sLen + m < 200000)
  {h0 : CH} (hh0 : HR φ h0 w) (hn0 : h0.n = h.n) (he : ((sLen + m : Nat) : Int) = e.ev Val.ρ) :
  ∃ u w' φ', (Builtin.append_ #[t, tx] ty #[.slice base sLen sCap, xv]).run P w = .ok u w' ∧ Went φ h.n (h.n + 1) w φ' w' ∧ HR φ' (h0.new (.rows j lc el false)) w' ∧ VR φ' (.gs h.n 0 e i.size true) u := by
 obtain ⟨i2, z, hi2, hz2, hzo⟩ := zeroC_info hz
 rw [hi] at hi2; injection hi2 with hi2; subst hi2
 have hzr : VR φ zc z := ofV_rel hzo
 have hzs : z.cells.size = i.size := by rw [← hzl, hzr.cells.len]; simp
 have hbb : i.bytes ≤ 65536 := by unfold Program.bytesOf at hby; simpa [hi] using hby
 have hfit : Builtin.nextslicecap (sLen + m) sCap * i.bytes ≤ 281474976710656 := by
  refine growslice_fits hg ?_
  have := Nat.mul_le_mul (Nat.le_of_lt hb) hbb
  omega
 have hrun := run_append_grow_src (P := P) (w := w) t tx ty el i z hu hi hz2 base sLen sCap olds hold xv m news hs hg (by omega) hfit
 have hge := grownCap_ge w (sLen + m) sCap el
 have hlr := ho.len
 generalize hcs : ((olds ++ news).toArray ++ Builtin.zeroCells z.cells (grownCap w (sLen + m) sCap el - (sLen + m))) = cs at hrun
 have hsize : cs.size = grownCap w (sLen + m) sCap el * i.size := by
  rw [← hcs, Array.size_append, zeroCells_size, hzs, List.size_toArray, List.length_append, hlo, hnl, ← Nat.add_mul, ← Nat.add_mul]
  congr 1; omega
 obtain ⟨Z, hZ⟩ : ∃ Z, cs.toList = Val.lst j ++ (lx ++ Z) := ⟨_, by rw [← hcs, Array.toList_append]; simp only [hsum, List.append_assoc]; rfl⟩
 have hlen : (Val.lst j).length + lx.length ≤ cs.size := by
  have := congrArg List.length hZ
  simp at this; omega
 have hle := hh0.drew.put_le ⟨w.heap.size, 0, cs.size⟩
 have g2 : HR (φ.put h0.n ⟨w.heap.size, 0, cs.size⟩) (h0.new (.rows j lc el false)) (w.drew.alloc (.cells cs el)) := by
  refine hh0.drew.new rfl ⟨cs, el, (0, 0), rfl, rfl, ?_, ?_, ?_, fun _ => ⟨rfl, rfl⟩⟩
  ·show 0 + (Val.lst j).length + lc.length ≤ cs.size
   omega
  ·show List.take _ (List.drop 0 cs.toList) = _
   rw [hZ]; simp
  ·show VRs _ _ (List.take lc.length (List.drop (0 + (Val.lst j).length) cs.toList))
   rw [hZ, Nat.zero_add, List.drop_left, List.take_append_of_le_length (by omega), List.take_of_length_le (by omega)]
   exact ho.mono hle
 have g1 := Went.alloc hh0.drew (h0.n + 1) ⟨w.heap.size, 0, cs.size⟩ rfl (.cells cs el)
 rw [hn0] at g1 g2
 refine ⟨_, _, _, hrun, ((Went.drew φ h.n (h.n + 1) w).trans g1 (Nat.le_refl _) (Nat.le_refl _) (Nat.le_refl _)), g2, VR.gs he hge (.inl ⟨_, Phi.put_same _ _ _, by simp, fun _ => ?_⟩)⟩
 show 0 + 0 * i.size + grownCap w (sLen + m) sCap el * i.size ≤ cs.size
 rw [hsize, Nat.zero_mul, Nat.zero_add]
 exact Nat.le_refl _
theorem appendR_rel (hh : HR φ h w) {t tx ty e' : TypeId} {s x c : CV} {sv xv : Value} {h' : CH} {lw : Nat} (hk : P.underlying tx = some (.slice e')) (hs : VR φ s sv) (hx : VR φ x xv) (e : appendR P t s x h = some (c, h', lw)) :
  ∃ u w' φ', (Builtin.append_ #[t, tx] ty #[sv, xv]).run P w = .ok u w' ∧ Went φ h.n lw w φ' w' ∧ HR φ' h' w' ∧ VR φ' c u := by
 unfold appendR at e
 split at e
 ·rename_i el hu
  split at e
  ·rename_i z bx kx y zx fl hz
   obtain ⟨i, hi, rfl⟩ := szC_info hz
   split at e
   ·rename_i j l t2 ro hb
    split at e
    ·rename_i y0 hlen
     obtain ⟨h1, k0⟩ := bif_some e
     clear e
     have e := k0
     clear k0
     simp only [Bool.and_eq_true] at h1
     obtain ⟨⟨⟨⟨⟨⟨⟨⟨g0, g1⟩, g2⟩, g3⟩, g4⟩, g5⟩, g6⟩, g7⟩, g8⟩ := h1
     have g0 := beq_eq' g0
     have g1 := beq_eq' g1
     subst g0; subst g1
     have g3 := beq_eq' g3
     have g4 := Ex.eq_of_beq g4
     have g5 : y0.ev Val.ρ < 65536 := askB_lss g5
     have g6 := blt_lt g6
     have g7 := ble_le g7
     obtain ⟨zc, hzc, hzl⟩ : ∃ zc, zeroC P el = some zc ∧ zc.cells.length = i.size := by
      unfold zeroFits at g8
      cases hzz : zeroC P el with
      | none => simp [hzz] at g8
      | some v => simp only [hzz] at g8; exact ⟨v, rfl, beq_eq' g8⟩
     obtain ⟨hL, hL0, h1c⟩ := Env.lenOk hlen
     have hq : l.length = (l.length / i.size) * i.size := (Nat.div_mul_cancel (Nat.dvd_of_mod_eq_zero g3)).symm
     generalize l.length / i.size = q at *
     obtain ⟨N0, hN0⟩ := Int.eq_ofNat_of_zero_le hL0
     rw [hN0] at hL
     have hLn : (Val.lst j).length = N0 * i.size := by exact_mod_cast hL
     have hey : y.ev Val.ρ = y0.ev Val.ρ + q := by rw [g4]; exact addN_ev hL0 g5 (by omega)
     cases hx with
     | gs hn hcap ha =>
      rename_i cp n a
      have hn2 : n = N0 + q := by omega
      have hlen2 : (Val.lst j).length + l.length = n * i.size := by rw [hLn, hq, hn2, Nat.add_mul]
      obtain ⟨lv, hlr, hsrc⟩ : ∃ lv, VRs φ l lv ∧ Src P i.size tx (.slice a n cp) n (Val.lst j ++ lv) w := by
       rcases ha with ⟨p, hp, rfl, _⟩ | ⟨h0, _⟩
       ·obtain ⟨cs, t'', fz, hg, hpz, hbd, hfl, hr, hf⟩ := hh.ob bx _ p hb hp
        have hlv := hr.len
        refine ⟨_, hr, Src.ofSlice w hk _ _ _ _ (by rw [List.length_append, ← hlv]; exact hlen2) (fun x v hv => ?_) (fun u hu' => ?_)⟩
        ·simp only [Nat.zero_mul, Nat.add_zero]
         rw [add_lit', cell_of_cells hg, ← Array.getElem?_toList]
         by_cases hx : x < (Val.lst j).length
         ·rw [List.getElem?_append_left hx] at hv
          exact rows_cell hfl hv
         ·rw [List.getElem?_append_right (by omega)] at hv
          have hx2 : x - (Val.lst j).length < l.length := by
           have := (List.getElem?_eq_some_iff.1 hv).1
           rw [hlv]; exact this
          rw [List.getElem?_take_of_lt hx2, List.getElem?_drop] at hv
          rw [← hv]; congr 1; omega
        ·rcases List.mem_append.1 hu' with h | h
         ·exact h1c u h
         ·exact hr.cell g2 u h
       ·have hl0 : l = [] := List.eq_nil_of_length_eq_zero (by rw [h0] at hlen2; omega)
        have hj0 : Val.lst j = [] := List.eq_nil_of_length_eq_zero (by rw [h0] at hlen2; omega)
        subst hl0
        refine ⟨[], .nil, ?_⟩
        rw [hj0, h0]
        cases a with
        | none =>
         exact ⟨.inl ⟨_, hk⟩, fun w' => by simp [Builtin.lenOf], run_firstCells_none _ _ _ _ _, run_firstCells_none _ _ _ _ _, by simp, by simp⟩
        | some ad => exact Src.ofSlice w hk _ _ _ [] (by simp) (fun x v hv => by simp at hv) (by simp)
      have hnl : (Val.lst j ++ lv).length = n * i.size := by rw [List.length_append, ← hlr.len]; exact hlen2
      have hn3 : n < 200000 := by omega
      split at e
      ·injection e with e; injection e with e1 e2; injection e2 with e2 e3
       subst e1; subst e2; subst e3
       cases hs with
       | nils =>
        rename_i ba
        by_cases h0 : n = 0
        ·subst h0
         have h0 : Val.lst j ++ lv = [] := List.eq_nil_of_length_eq_zero (by omega)
         rw [h0] at hsrc
         exact ⟨_, w, φ, run_append_nothing w t tx ty el i hu hi ba 0 0 (Nat.le_refl _) _ hsrc, Went.refl _ _ _ _, hh.newAbs _, .gs hn (Nat.le_refl _) (.inr ⟨rfl, fun _ => rfl⟩)⟩
        ·have := append_newT (P := P) (ty := ty) (base := ba) (sLen := 0) (sCap := 0) (olds := []) (lc := l) (lx := lv) (j := j) (e := y) hh hu hi hzc hzl g7 hlr rfl (firstCells_none _ _ _ _) (by simp) hnl hsrc (by omega) (by omega) hh rfl (by omega)
         exact this
      ·rename_i b z'
       split at e
       ·rename_i t' hb2
        obtain ⟨k1, k0⟩ := bif_some e
        clear e
        have e := k0
        clear k0
        simp only [Bool.and_eq_true] at k1
        have k2 := beq_eq' k1.1
        have k3 := beq_eq' k1.2
        subst k2; subst k3
        injection e with e; injection e with e1 e2; injection e2 with e2 e3
        subst e1; subst e2; subst e3
        cases hs with
        | sl hp ho hnc hcz =>
         rename_i o' c p
         have hbn := hh.lt b p hp
         by_cases hcc : n = 0 ∧ c = 0
         ·obtain ⟨h0, hc0⟩ := hcc
          subst h0; subst hc0
          have h0 : Val.lst j ++ lv = [] := List.eq_nil_of_length_eq_zero (by omega)
          rw [h0] at hsrc
          exact ⟨_, w, φ, run_append_nothing w t tx ty _ i hu hi _ _ _ (Nat.le_refl _) _ hsrc, (Went.refl _ _ _ _), (hh.kill b).newAbs _, .gs hn (Nat.le_refl _) (.inr ⟨rfl, fun _ => rfl⟩)⟩
         ·by_cases hroom : n ≤ c
          ·have ho' : o' = p.o := by rcases ho with e | ⟨_, e⟩ <;> omega
           subst ho'
           obtain ⟨cs, fz, hg, hpz, hl, hr, hf⟩ := hh.ob b _ p hb2 hp
           have hf := hf rfl
           subst hf
           have hmul : n * i.size ≤ c * i.size := Nat.mul_le_mul_right _ hroom
           have hst := run_storeCells_at P p.r (p.o + 0 * i.size) t' (Val.lst j ++ lv) 0 cs w hg (by omega) hsrc.one
           have hrun := run_append_in (P := P) t tx ty t' i hu hi p.r p.o 0 c _ n _ hsrc (by omega) hst
           simp only [Nat.add_zero, Nat.zero_mul, Nat.zero_add] at hrun
           have hoth : ∀ r, r ≠ p.r → (w.setRow p.r (cs.toList.take p.o ++ (Val.lst j ++ lv) ++ cs.toList.drop (p.o + (Val.lst j ++ lv).length)).toArray).heap[r]? = w.heap[r]? := fun r hr' => setRow_other w p.r r _ hr'
           have hcl : cs.toList.length = cs.size := by simp
           have hsz : (cs.toList.take p.o ++ (Val.lst j ++ lv) ++ cs.toList.drop (p.o + (Val.lst j ++ lv).length)).length = cs.size := by
            simp only [List.length_append, List.length_take, List.length_drop] at hnl ⊢; omega
           have htk : (cs.toList.take p.o).length = p.o := by rw [List.length_take]; omega
           have hdr : ∀ X : List Value, (cs.toList.take p.o ++ (Val.lst j ++ lv) ++ X).drop p.o = Val.lst j ++ (lv ++ X) := fun X => by
            rw [List.append_assoc, List.drop_append_of_le_length (by omega), List.drop_of_length_le (by omega), List.nil_append, List.append_assoc]
           refine ⟨_, _, _, hrun, Went.moved (q := p) hh hp rfl rfl rfl rfl (size_setRow _ _ _) hoth, hh.move (q := p) hb2 rfl hp rfl (size_setRow _ _ _) hoth ?_, VR.gs hn hroom (.inl ⟨p, Phi.put_same _ _ _, by simp, fun _ => by simpa using hcz⟩)⟩
           rw [setRow_heap w p.r cs _ t' (0, 0) hg]
           refine ⟨_, t', _, rfl, by simpa using hsz.trans hpz, ?_, ?_, ?_, fun _ => ⟨rfl, rfl⟩⟩
           ·rw [List.length_append, ← hlr.len] at hnl; omega
           ·show List.take _ (List.drop p.o (cs.toList.take p.o ++ (Val.lst j ++ lv) ++ _)) = _
            rw [hdr, List.take_left]
           ·show VRs _ _ (List.take l.length (List.drop (p.o + (Val.lst j).length) (cs.toList.take p.o ++ (Val.lst j ++ lv) ++ _)))
            rw [← List.drop_drop, hdr, List.drop_left, List.take_append_of_le_length (by rw [hlr.len]; exact Nat.le_refl _), List.take_of_length_le (by rw [hlr.len]; exact Nat.le_refl _)]
            exact hlr.mono (hh.put_le _)
          ·have hgot := append_newT (P := P) (ty := ty) (base := some ⟨p.r, o', none⟩) (sLen := 0) (sCap := c) (olds := []) (lc := l) (lx := lv) (j := j) (e := y) hh hu hi hzc hzl g7 hlr rfl (run_firstCells_some w.drew i.size 0 _ _ _ _ (by simp) fun x v hv => by simp at hv) (by simp) hnl hsrc (by omega) (by omega) (hh.kill b) rfl (by omega)
           obtain ⟨u, w', φ', r1, r2, r3, r4⟩ := hgot
           exact ⟨u, w', φ', r1, r2.weak (by omega) (Nat.le_refl _), r3, r4⟩
       ·cases e
      ·cases e
    ·cases e
   ·cases e
  ·cases e
 ·cases e
theorem append_rel (hh : HR φ h w) {t tx ty e' : TypeId} {s x c : CV} {sv xv : Value} {h' : CH} {lw : Nat} (hk : P.underlying tx = some (.slice e')) (hs : VR φ s sv) (hx : VR φ x xv) (e : appendC P t s x h = some (c, h', lw)) :
  ∃ u w' φ', (Builtin.append_ #[t, tx] ty #[sv, xv]).run P w = .ok u w' ∧ Went φ h.n lw w φ' w' ∧ HR φ' h' w' ∧ VR φ' c u := by
 unfold appendC at e
 split at e
 ·rename_i r hr
  injection e with e; subst e
  exact append_rel0 hh hk hs hx hr
 ·split at e
  ·rename_i r hr
   injection e with e; subst e
   exact appendR_rel hh hk hs hx hr
  ·unfold appendS at e
   split at e
   ·rename_i b o n z _ _
    split at e
    ·rename_i l t' hb
     split at e
     ·rename_i c' h'' lw' hr
      injection e with e; injection e with e1 e; injection e with e2 e3
      subst e1; subst e2; subst e3
      obtain ⟨u, w', φ', r1, r2, r3, r4⟩ := append_rel0 (hh.short hb (o + n * z)) hk hs hx hr
      have hn : ∀ o, (h.put b o).n = h.n := fun _ => rfl
      rw [hn] at r2
      exact ⟨u, w', φ', r1, r2.weak (Nat.min_le_left _ _) (Nat.le_refl _), r3, r4⟩
     ·cases e
    ·cases e
   ·cases e
theorem run_append_zerosB (w : World) (t tn ty e : TypeId) (i : TypeInfo) (z : Value) (k kn : IntKind) (ht : P.underlying t = some (.slice e)) (htn : P.underlying tn = some (.int kn)) (hi : P.info? e = some i) (hz : i.zero = some z)
  (n : Nat) (h0 : 0 < n) (hs : 0 < i.size) (h63 : (n : Int) ≤ 9223372036854775807) (h48 : n * i.bytes ≤ 281474976710656) (a : Option Addr) :
  (Builtin.append_ #[t, tn] ty #[.slice a 0 0, .int k n]).run P w =
   .ok (.slice (some ⟨w.heap.size, 0, none⟩) n (grownCap w n 0 e)) (w.drew.alloc (.cells (Builtin.zeroCells z.cells n ++ Builtin.zeroCells z.cells (grownCap w n 0 e - n)) e)) := by
 have hn : n ≠ 0 := by omega
 have hw : IntKind.i64.wrap (n : Int) = n := by rw [IntKind.wrap_i64]; omega
 have h63' : ¬ (9223372036854775807 < (n : Int)) := by omega
 have h48' : ¬ (281474976710656 < Builtin.nextslicecap n 0 * i.bytes) := by rw [nextslicecap_zero h0]; omega
 have h48i : ¬ (281474976710656 < (n : Int) * (i.bytes : Int)) := by
  rw [← Int.natCast_mul]
  omega
 have hneg : ¬ ((n : Int) < 0) := by omega
 have hns : ¬ (n * i.size = 0) := Nat.mul_ne_zero hn (by omega)
 simp [Builtin.append_, run_underlying ht, run_underlying htn, sizeOf, typeInfo, zeroValue, hi, hz, asInt, asIntOf, hw, hn, hneg, hns, h63', h48', h48i, Question.forced, firstCells_none, newRow, grownCap]
theorem appendZ_rel (hh : HR φ h w) {t tn ty : TypeId} {kn : IntKind} {s x c : CV} {sv xv : Value} {h' : CH} {lw : Nat} (hk : P.underlying tn = some (.int kn)) (hs : VR φ s sv) (hx : VR φ x xv) (e : appendZ P t s x h = some (c, h', lw)) :
  ∃ u w' φ', (Builtin.append_ #[t, tn] ty #[sv, xv]).run P w = .ok u w' ∧ Went φ h.n lw w φ' w' ∧ HR φ' h' w' ∧ VR φ' c u := by
 unfold appendZ at e
 split at e
 ·rename_i el n hu
  split at e
  ·rename_i z zc hz hzc
   obtain ⟨i, hi, rfl⟩ := szC_info hz
   obtain ⟨i2, zv, hi2, hz2, hzo⟩ := zeroC_info hzc
   rw [hi] at hi2; injection hi2 with hi2; subst hi2
   obtain ⟨h1, h2⟩ := bif_some e
   simp only [Bool.and_eq_true, decide_eq_true_eq] at h1
   obtain ⟨⟨⟨⟨g1, g2⟩, g3⟩, g4⟩, g5⟩ := h1
   have g3 := beq_eq' g3
   have g4 := blt_lt g4
   have g5 := ble_le g5
   injection h2 with h2; injection h2 with e1 e2; injection e2 with e2 e3
   subst e1; subst e2; subst e3
   obtain ⟨m, rfl⟩ : ∃ m : Nat, n = (m : Int) := ⟨n.toNat, by omega⟩
   cases hs with
   | nils =>
    rename_i ba
    cases hx
    have hzr : VR φ zc zv := ofV_rel hzo
    have hzs : zv.cells.size = i.size := by rw [← g3, hzr.cells.len]; simp
    have hbb : i.bytes ≤ 65536 := by unfold Program.bytesOf at g5; simpa [hi] using g5
    have hrun := run_append_zerosB (P := P) w t tn ty el i zv .i64 kn hu hk hi hz2 m (by omega) g4 (by omega) (by have := Nat.mul_le_mul (show m ≤ 65536 by omega) hbb; omega) ba
    have hge := grownCap_ge w m 0 el
    have hsize : (Builtin.zeroCells zv.cells m ++ Builtin.zeroCells zv.cells (grownCap w m 0 el - m)).size = grownCap w m 0 el * i.size := by
     rw [Array.size_append, zeroCells_size, zeroCells_size, hzs, ← Nat.add_mul]
     congr 1; omega
    have hlz : (zerosC zc.cells m).length = m * i.size := by rw [zerosC_len, g3]
    have hzl : (Builtin.zeroCells zv.cells m).toList = zerosV zv.cells.toList m := made_zeros zv.cells m (by omega)
    obtain ⟨k1, k2, k3⟩ := row_rel (t := el) hh.drew (l := zerosC zc.cells m) (cs := Builtin.zeroCells zv.cells m ++ Builtin.zeroCells zv.cells (grownCap w m 0 el - m)) (by
     rw [hlz, Array.toList_append, List.take_append_of_le_length (by rw [hzl, zerosV_len]; simp [hzs]), hzl, List.take_of_length_le (by rw [zerosV_len]; simp [hzs])]
     exact zeros_rel hzr.cells m) (by rw [hlz, hsize]; exact Nat.mul_le_mul_right _ hge)
    rw [show ((m : Int)).toNat = m by omega]
    refine ⟨_, _, _, hrun, ((Went.drew φ h.n (h.n + 1) w).trans k1 (Nat.le_refl _) (Nat.le_refl _) (Nat.le_refl _)), k2, VR.sl (o' := 0) k3 (.inl rfl) hge ?_⟩
    show 0 + _ * _ ≤ _
    rw [Nat.zero_add]
    exact Nat.le_of_eq hsize.symm
  ·cases e
 ·cases e
end
end Go.Proofs.YthffbfkcmbgghaaGreat.Cm
