/-
  The clean machine and the model: rounds of a range over a function.
-/
import Derived.Test.YthffbfkcmbgghaaGreatZCn
set_option linter.all false
namespace Go.Proofs.YthffbfkcmbgghaaGreat.Cm
open Go Go.RowKit
variable [Env]
section
variable {P : Program} {φ : Phi} {h : CH} {w : World} {run : Runs}
theorem TR.put {ts : Tr CV} {nt : Nat} {tm : Array Value} (ht : TR φ ts nt tm) {d : Nat} (hd : d < nt) {c : CV} {v : Value} (hc : VR φ c v) : TR φ (ts.put d (some c)) nt (tm.setIfInBounds d v) := by
 refine ⟨by simp [ht.size], fun j x e => ?_⟩
 rw [Tr.get_put] at e
 by_cases hj : j = d
 ·subst hj
  rw [if_pos rfl] at e; injection e with e; subst e
  exact ⟨v, by rw [Array.getElem?_setIfInBounds, if_pos rfl, if_pos (by rw [ht.size]; exact hd)], hc⟩
 ·rw [if_neg hj] at e
  obtain ⟨u, hu, hr⟩ := ht.get j x e
  exact ⟨u, by rw [Array.getElem?_setIfInBounds, if_neg (fun e => hj e.symm)]; exact hu, hr⟩
theorem pars_tr : ∀ {ps : List Tmp} {args : List CV} {args' : List Value} {ts ts' : Tr CV} {nt : Nat} {tm : Array Value}, setPars nt ts ps args = some ts' → VRs φ args args' → TR φ ts nt tm →
  args'.length = ps.length ∧ TR φ ts' nt ((ps.zip args').foldl (fun (t : Array Value) (x : Tmp × Value) => t.setIfInBounds x.1 x.2) tm)
 | [], [], _, ts, ts', nt, tm, e, .nil, ht => by injection e with e; subst e; exact ⟨rfl, ht⟩
 | p :: ps, c :: args, _, ts, ts', nt, tm, e, .cons (v := v) hc ha, ht => by
  unfold setPars at e
  obtain ⟨h1, e⟩ := bif_some e
  obtain ⟨g1, g2⟩ := pars_tr e ha (ht.put (blt_lt h1) hc)
  exact ⟨by simp [g1], by simpa using g2⟩
 | [], _ :: _, _, _, _, _, _, e, _, _ => by simp [setPars] at e
 | _ :: _, [], _, _, _, _, _, e, _, _ => by simp [setPars] at e
theorem putObj_same {w : World} {g : Nat} (o : Obj) (hg : g < w.heap.size) : (w.putObj g o).heap[g]? = some o := World.putObj_heap_same hg
theorem loop_put (hh : HR φ h w) {b : Nat} {p : Pl} (hp : φ b = some p) {st st' : LoopState} {pe pe' : Option CE} {ts : Tr CV} {nt : Nat} {ps : List Tmp} {l : Nat × List Nat} {df : Nat} (hb : h.get b = some (.loop st pe ts nt ps l df)) :
  ∃ r : Loop, w.heap[p.r]? = some (.loop r) ∧ r.state = st ∧ r.pending = pe.map CE.code ∧ (∀ jump : Option Code, jump = pe'.map CE.code → Went φ h.n b w φ (w.putObj p.r (.loop { r with state := st', pending := jump })) ∧ HR φ (h.put b (some (.loop st' pe' ts nt ps l df))) (w.putObj p.r (.loop { r with state := st', pending := jump }))) := by
 obtain ⟨pd, tm, fnid, h1, h2, h3⟩ := hh.ob b _ p hb hp
 refine ⟨_, h2, rfl, rfl, fun jump hj => ?_⟩
 have hlt := (hh.lt b p hp).2
 refine ⟨Went.wrote (w := w) (w' := w.putObj p.r _) φ h.n hp rfl rfl rfl World.putObj_size (putObj_other w p.r _), hh.put hb rfl hp rfl World.putObj_size (putObj_other w p.r _) ?_⟩
 rw [putObj_same _ hlt]
 subst hj
 exact ⟨pd, tm, fnid, h1, rfl, h3⟩
theorem yield_in (hrun : RunsOk P run) {b : Nat} {args : List CV} {args' : List Value} {c : CV} {h' : CH} {lw : Nat} {p : Pl} (e : yieldC P run b args h = some (c, h', lw)) (hh : HR φ h w) (ha : VRs φ args args') (hp : φ b = some p) {F : Fence} (hF : FW F) (n : Nat) :
  h.n ≤ h'.n ∧ ∃ fnid tm asg body, (Instr.yield p.r ⟨args'⟩).run P w = .ok (.round p.r fnid tm asg body) w ∧ RoundIn F n P p.r fnid tm asg body w (fun en w' => ∃ v φ', en = .returned v ∧ Went φ h.n lw w φ' w' ∧ HR φ' h' w' ∧ VR φ' c v) := by
 unfold yieldC at e
 split at e
 ·rename_i st pe ts nt ps l df hb
  split at e
  ·rename_i ts' hpars
   split at e
   ·rename_i s1 hr1
    split at e
    ·rename_i pe1 ts1 nt1 ps1 lc1 df1 hb1
     split at e
     ·rename_i e2 s2 hr2
      split at e
      ·rename_i st2 pe2 ts2 nt2 ps2 lc2 df2 hb2
       obtain ⟨pd, tm, fnid, o1, o2, o3⟩ := hh.ob b _ p hb hp
       obtain ⟨q1, q2⟩ := pars_tr hpars ha o3
       obtain ⟨l1, l2⟩ := hrun.lw hr1
       obtain ⟨l3, l4⟩ := hrun.lw hr2
       have hlw : lw ≤ s2.lw ∧ lw ≤ b ∧ h'.n = s2.h.n := by
        cases e2 <;> (injection e with e; injection e with _ e; injection e with e3 e4; subst e3; subst e4; exact ⟨Nat.min_le_left _ _, Nat.min_le_right _ _, rfl⟩)
       have l3' : s2.lw ≤ s1.lw := l3
       have l4' : s1.h.n ≤ s2.h.n := l4
       have l2' : h.n ≤ s1.h.n := l2
       have hcod := hrun.kn.cod l
       rw [hcod] at o2
       refine ⟨by omega, fnid, _, (rangeAt P l).1, (rangeAt P l).2, run_yield o2 (by simpa using q1), ?_⟩
       refine roundIn_of_wpIn (hF.fn _) ?_
       have htm : ((⟨ps⟩ : Array Tmp).zip (⟨args'⟩ : Array Value)).foldl (fun (t : Array Value) (x : Tmp × Value) => t.setIfInBounds x.1 x.2) tm = (ps.zip args').foldl (fun (t : Array Value) (x : Tmp × Value) => t.setIfInBounds x.1 x.2) tm := by
        rw [← Array.foldl_toList]; simp
       refine wpIn_mono (hrun.wp hr1 (by show kidC _ 0 = _; rfl) (F.inRound p.r) n φ { tmps := _, defers := [] } w (hF.inRound _) ⟨p, hp, rfl⟩ ⟨?_, .nil, hh⟩) ?_
       ·show TR φ ts' nt _
        have := q2
        rw [← htm] at this
        exact this
       ·rintro x a1 w1 ⟨rfl, φ1, hw1, hs1⟩
        have hp1 := hw1.le _ _ hp
        obtain ⟨r, g1, g2, g3, g4⟩ := loop_put (st' := .busy) (pe' := pe1) hs1.hr hp1 hb1
        obtain ⟨g5, g6⟩ := g4 _ rfl
        rw [← g3] at g5 g6
        refine ⟨_, run_beginRound g1 g2, ?_⟩
        refine wpIn_mono (hrun.wp hr2 (by show kidC _ 1 = _; rfl) (F.inRound p.r) n φ1 a1 _ (hF.inRound _) ⟨p, hp1, rfl⟩ ⟨hs1.tr, hs1.df, g6⟩) ?_
        rintro x a2 w3 ⟨rfl, φ2, hw2, hs2⟩
        have hp2 := hw2.le _ _ hp1
        have chain : ∀ (w4 : World), Went φ2 s2.h.n b w3 φ2 w4 → Went φ h.n lw w φ2 w4 := fun w4 hw4 => by
         have a1 : Went φ h.n lw w φ1 w1 := hw1.weak (by omega) (Nat.le_refl _)
         have a2 : Went φ h.n lw w φ1 _ := a1.trans g5 l2' (Nat.le_refl _) hlw.2.1
         have a3 : Went φ h.n lw w φ2 w3 := a2.trans hw2 l2' (Nat.le_refl _) hlw.1
         exact a3.trans hw4 (by omega) (Nat.le_refl _) hlw.2.1
        cases e2 with
        | normal =>
         injection e with e; injection e with e1 e2; injection e2 with e2 e3; subst e1; subst e2
         obtain ⟨r2, k1, k2, k3, k4⟩ := loop_put (st' := .ready) (pe' := none) hs2.hr hp2 hb2
         obtain ⟨k5, k6⟩ := k4 none rfl
         exact ⟨_, _, run_endRound none k1, _, φ2, rfl, chain _ k5, k6, .bool _⟩
        | exit id =>
         injection e with e; injection e with e1 e2; injection e2 with e2 e3; subst e1; subst e2
         obtain ⟨r2, k1, k2, k3, k4⟩ := loop_put (st' := .done) (pe' := some (.exit id)) hs2.hr hp2 hb2
         obtain ⟨k5, k6⟩ := k4 (some (.exit id)) rfl
         exact ⟨_, _, run_endRound (some (.exit id)) k1, _, φ2, rfl, chain _ k5, k6, .bool _⟩
        | ret =>
         injection e with e; injection e with e1 e2; injection e2 with e2 e3; subst e1; subst e2
         obtain ⟨r2, k1, k2, k3, k4⟩ := loop_put (st' := .done) (pe' := some .ret) hs2.hr hp2 hb2
         obtain ⟨k5, k6⟩ := k4 (some .ret) rfl
         exact ⟨_, _, run_endRound (some .ret) k1, _, φ2, rfl, chain _ k5, k6, .bool _⟩
        | goto l =>
         injection e with e; injection e with e1 e2; injection e2 with e2 e3; subst e1; subst e2
         obtain ⟨r2, k1, k2, k3, k4⟩ := loop_put (st' := .done) (pe' := some (.goto l)) hs2.hr hp2 hb2
         obtain ⟨k5, k6⟩ := k4 (some (.goto l)) rfl
         exact ⟨_, _, run_endRound (some (.goto l)) k1, _, φ2, rfl, chain _ k5, k6, .bool _⟩
      ·cases e
     ·cases e
    ·cases e
   ·cases e
  ·cases e
 ·cases e
end
end Go.Proofs.YthffbfkcmbgghaaGreat.Cm
