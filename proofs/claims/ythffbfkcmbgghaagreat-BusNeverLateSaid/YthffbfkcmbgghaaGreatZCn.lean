/-
  The clean machine and the model: calls and rounds.
-/
import Derived.Test.YthffbfkcmbgghaaGreatZCl
set_option linter.all false
namespace Go.Proofs.YthffbfkcmbgghaaGreat.Cm
open Go Go.RowKit
variable [Env]
section
variable {P : Program} {φ : Phi} {h : CH} {w : World} {run : Runs}
theorem HR.drop (hh : HR φ h w) {b : Nat} {o : CObj} {p : Pl} {w' : World} (hb : h.get b = some o) (hr : o.ro = false) (hp : φ b = some p) (hsz : w'.heap.size = w.heap.size) (hfr : ∀ r, r ≠ p.r → w'.heap[r]? = w.heap[r]?) : HR φ (h.put b none) w' := by
 have get : ∀ x y, (h.put b none).get x = some y → x ≠ b ∧ h.get x = some y := fun x y e => by
  rw [h.get_put] at e
  by_cases hx : x = b
  ·rw [if_pos hx] at e; cases e
  ·rw [if_neg hx] at e; exact ⟨hx, e⟩
 refine ⟨fun x y q e1 e2 => ?_, fun x x' y y' q q' e1 e1' => hh.ap x x' y y' q q' (get _ _ e1).2 (get _ _ e1').2, fun x q e => by rw [hsz]; exact hh.lt x q e, fun x hx => ?_, fun x y e1 e2 => hh.gl x y (get _ _ e1).2 e2⟩
 ·obtain ⟨hx, e1⟩ := get _ _ e1
  rw [hfr q.r fun er => ?_]
  ·exact hh.ob x y q e1 e2
  ·rcases hh.ap x b y o q p e1 hb e2 hp er with e | ⟨_, e⟩
   ·exact hx e
   ·rw [hr] at e; cases e
 ·rw [h.get_put]; by_cases e : x = b
  ·rw [if_pos e]
  ·rw [if_neg e]; exact hh.nw x hx
theorem putObj_other (w : World) (g : Nat) (o : Obj) : ∀ r, r ≠ g → (w.putObj g o).heap[r]? = w.heap[r]? := fun r hr => World.putObj_heap_other hr
theorem leaves_rel {F : Fence} {n lw : Nat} {fn : Func} {tm : Array Value} {R : Ending → World → Prop} {h' : CH} : ∀ {df : List Nat} {ds : List Deferred} {h : CH} {w : World}, DRs φ df ds → HR φ h w → dfrs lw h df = some h' →
  (∀ w', Went φ h.n lw w φ w' → HR φ h' w' → h'.n = h.n → ∃ v, (results fn tm).run P w' = .ok v w' ∧ R (.returned v) w') → LeavesInM F n P fn tm R ds .returning w
 | [], _, h, w, .nil, hh, e, hk => by
  injection e with e; subst e
  exact hk w (Went.refl _ _ _ _) hh rfl
 | d :: df, _, h, w, .cons hp t, hh, e, hk => by
  rename_i p ds
  unfold dfrs at e
  split at e
  ·rename_i hd
   obtain ⟨h1, e⟩ := bif_some e
   have h1 := ble_le h1
   have ho : w.heap[p.r]? = some (.deferred (some [])) := hh.ob d _ p hd hp
   have hoth := putObj_other w p.r (.deferred none)
   refine ⟨by simp, .inl ⟨p.r, _, rfl, run_takeDeferred ho, ?_⟩⟩
   refine leaves_rel t (hh.drop hd rfl hp World.putObj_size hoth) e fun w' hw hr hn => hk w' ?_ hr hn
   have hA : Went φ h.n lw w φ (w.putObj p.r (.deferred none)) := (Went.wrote (w := w) (w' := w.putObj p.r (.deferred none)) φ h.n hp rfl rfl rfl World.putObj_size hoth).weak h1 (Nat.le_refl _)
   exact hA.trans hw (Nat.le_refl _) (Nat.le_refl _) (Nat.le_refl _)
  ·cases e
theorem setArgs_get : ∀ (l : List CV) (t : Tr CV) (k j : Nat), (setArgs t k l).get j = if k ≤ j ∧ j < k + l.length then l[j - k]? else t.get j
 | [], t, k, j => by rw [setArgs, if_neg (by simp)]
 | c :: l, t, k, j => by
  rw [setArgs, setArgs_get l _ (k + 1) j, Tr.get_put]
  simp only [List.length_cons]
  by_cases h1 : j = k
  ·subst h1; rw [if_neg (by omega), if_pos rfl, if_pos (by omega)]; simp
  ·by_cases h2 : k + 1 ≤ j ∧ j < k + 1 + l.length
   ·rw [if_pos h2, if_pos (by omega), show j - k = (j - (k + 1)) + 1 by omega, List.getElem?_cons_succ]
   ·rw [if_neg h2, if_neg h1, if_neg (by omega)]
theorem args_tr {args : List CV} {args' : List Value} (ha : VRs φ args args') {nt : Nat} (hl : args.length ≤ nt) : TR φ (setArgs .e 0 args) nt ((⟨args'⟩ : Array Value) ++ Array.replicate (nt - (⟨args'⟩ : Array Value).size) undef) := by
 have hlen := ha.len
 refine ⟨by simp; omega, fun d c e => ?_⟩
 rw [setArgs_get] at e
 by_cases hd : 0 ≤ d ∧ d < 0 + args.length
 ·rw [if_pos hd, Nat.sub_zero] at e
  obtain ⟨v, hv, hr⟩ := ha.get e
  refine ⟨v, ?_, hr⟩
  have hlt : d < args'.length := by omega
  rw [Array.getElem?_append_left (by simpa using hlt)]
  simpa using hv
 ·rw [if_neg hd] at e; cases e
theorem call_in0 (hrun : RunsOk P run) {f : FuncId} {args : List CV} {args' : List Value} {c : CV} {h' : CH} {lw : Nat} (e : callC0 P run f args h = some (c, h', lw)) (hh : HR φ h w) (ha : VRs φ args args') {F : Fence} (hF : FW F) (n : Nat) :
  (∃ fn cd, P.funcs[f]? = some fn ∧ fn.body = some cd ∧ (fn.name == "runtime.NumGoroutine") = false) ∧ lw ≤ h.n ∧ h.n ≤ h'.n ∧ CallsIn F n P f ⟨args'⟩ w (fun en w' => ∃ v φ', en = .returned v ∧ Went φ h.n lw w φ' w' ∧ HR φ' h' w' ∧ VR φ' c v) := by
 unfold callC0 at e
 split at e
 ·rename_i fn hfn
  split at e
  ·rename_i cd hcd
   obtain ⟨h1, e⟩ := bif_some e
   simp only [Bool.and_eq_true, Bool.not_eq_true'] at h1
   obtain ⟨h1, hname⟩ := h1
   have h1 := ble_le h1
   have main : ∀ (ce : CE) (s : St), (ce = .normal ∨ ce = .ret) → run none (some (f, [])) cd ⟨setArgs .e 0 args, fn.ntmps, [], h, h.n⟩ = some (ce, s) → endC P fn s = some (c, h', lw) →
     lw ≤ h.n ∧ h.n ≤ h'.n ∧ CallsIn F n P f ⟨args'⟩ w (fun en w' => ∃ v φ', en = .returned v ∧ Went φ h.n lw w φ' w' ∧ HR φ' h' w' ∧ VR φ' c v) := by
    intro ce s hce hr he
    unfold endC at he
    split at he
    ·rename_i h2 hd
     split at he
     ·rename_i l hl
      injection he with he; injection he with e1 e2; injection e2 with e2 e3
      subst e1; subst e2; subst e3
      obtain ⟨g1, g2⟩ := hrun.lw hr
      have hn2 : h2.n = s.h.n := by
       clear hl hr
       have : ∀ (df : List Nat) (h h2 : CH), dfrs s.lw h df = some h2 → h2.n = h.n := by
        intro df
        induction df with
        | nil => intro h h2 e; injection e with e; rw [← e]
        | cons d df ih =>
         intro h h2 e
         unfold dfrs at e
         split at e
         ·obtain ⟨_, e⟩ := bif_some e
          have e2 := ih _ _ e
          exact e2
         ·cases e
       exact this _ _ _ hd
      refine ⟨g1, by rw [hn2]; exact g2, callsIn_plain ?_⟩
      refine callsIn_of_wp_marks hfn hcd (hF.plain.fn f) ?_ rfl
      refine wpIn_mono (hrun.wp hr (by show bodyC P f = cd; unfold bodyC; rw [hfn]; simp only; rw [hcd]) F.plain n φ _ w hF.plain rfl ⟨args_tr ha h1, .nil, hh⟩) ?_
      rintro x a' w' ⟨rfl, φ', hw, hs⟩
      have fin : LeavesInM F.plain n P fn a'.tmps (fun en w' => ∃ v φ', en = .returned v ∧ Went φ h.n s.lw w φ' w' ∧ HR φ' h2 w' ∧ VR φ' (one l) v) a'.defers .returning w' := by
       refine leaves_rel hs.df hs.hr hd fun w2 hw2 hr2 hn => ?_
       obtain ⟨v, hv, hc⟩ := results_rel (P := P) (a := a') (s := { s with h := h2 }) ⟨hs.tr, hs.df, hr2⟩ hl
       exact ⟨v, hv, v, φ', rfl, hw.trans hw2 g2 (Nat.le_refl _) (Nat.le_refl _), hr2, hc⟩
      rcases hce with rfl | rfl
      ·exact fin
      ·exact fin
     ·cases he
    ·cases he
   split at e
   ·rename_i s hr
    exact ⟨⟨fn, cd, hfn, hcd, hname⟩, main _ s (.inl rfl) hr e⟩
   ·rename_i s hr
    exact ⟨⟨fn, cd, hfn, hcd, hname⟩, main _ s (.inr rfl) hr e⟩
   ·cases e
  ·cases e
 ·cases e
theorem call_in (hrun : RunsOk P run) {f : FuncId} {args : List CV} {args' : List Value} {c : CV} {h' : CH} {lw : Nat} (e : callC P run f args h = some (c, h', lw)) (hh : HR φ h w) (ha : VRs φ args args') {F : Fence} (hF : FW F) (n : Nat) :
  (∃ fn cd, P.funcs[f]? = some fn ∧ fn.body = some cd ∧ (fn.name == "runtime.NumGoroutine") = false) ∧ lw ≤ h.n ∧ h.n ≤ h'.n ∧ CallsIn F n P f ⟨args'⟩ w (fun en w' => ∃ v φ', en = .returned v ∧ Went φ h.n lw w φ' w' ∧ HR φ' h' w' ∧ VR φ' c v) := by
 unfold callC at e
 split at e
 ·rename_i r hc
  injection e with e; subst e
  obtain ⟨h1, h2⟩ := hrun.kn.calls f args h c h' lw hc
  obtain ⟨k1, k2⟩ := Env.knKp hc
  refine ⟨h1, k2, k1.n, ?_⟩
  refine callsIn_plain ?_
  rw [hF.plain_wide]
  refine callsIn_wide.2 ((h2 φ args' w hh ha).mono ?_)
  rintro en w' ⟨v, φ', rfl, g1, g2, g3⟩
  exact ⟨v, φ', rfl, g1, g2, g3⟩
 ·exact call_in0 hrun e hh ha hF n
end
end Go.Proofs.YthffbfkcmbgghaaGreat.Cm
