/-
  The clean machine and the model: a region that draws its order.
-/
import Derived.Test.YthffbfkcmbgghaaGreatZCx
import Derived.Test.YthffbfkcmbgghaaGreatZKl
set_option linter.all false
namespace Go.Proofs.YthffbfkcmbgghaaGreat.Cm
open Go Go.RowKit
variable [Env]
section
variable {P : Program} {run : Runs} {ops : Array Oper} {s s' : St} {σ : Nat → St} {D : Nat → Did} {bf : Nat → Nat → Prop}
theorem opsD_opsC {n0 : Nat} : ∀ {l : List Oper} {s s' : St} {ds : List Stp}, opsD P run ops n0 l s = some (ds, s') → opsC P run ops l s = some s'
 | [], s, s', ds, e => by injection e with e; injection e with _ e; subst e; rfl
 | o :: l, s, s', ds, e => by
  unfold opsD at e
  split at e
  ·rename_i s1 b h1
   split at e
   ·rename_i ds1 r h2
    injection e with e; injection e with _ e; subst e
    unfold opsC
    rw [h1]
    exact opsD_opsC h2
   ·cases e
  ·cases e
variable {φ : Phi} {a : Act} {w : World}
theorem li_none (N i : Nat) : ¬ Li (Array.replicate N false) i := by
 unfold Li
 rw [Array.getD_eq_getD_getElem?, Array.getElem?_replicate]
 split <;> simp
theorem li_left {listed : Array Bool} {N i : Nat} (hs : listed.size = N) (hi : i < N) : listed.getD i true = true ↔ Li listed i := by
 unfold Li
 rw [Array.getD_eq_getD_getElem?, Array.getD_eq_getD_getElem?, Array.getElem?_eq_getElem (by omega)]
 simp
theorem inv_drawn (T : Trace P run ops s s' σ D) (hkp : RunKp run) (hs : SR φ s a w) : ∃ m, Inv ops σ D φ w a s s' (Array.replicate ops.size false) m φ a { w with drawn := w.drawn + 1 } := by
 obtain ⟨m, _, q2, q3, q4⟩ := next_writer D ops.size ops.size 0 (by omega)
 have hs0 : HR φ (σ 0).h { w with drawn := w.drawn + 1 } := by
  rw [T.s0]; exact hs.hr.still (Nat.le_refl _) (fun _ _ => rfl)
 have hn : ∀ k, k ≤ ops.size → s.h.n ≤ (σ k).h.n := fun k hk => by
  have := (T.mono hkp (i := 0) (j := k) (by omega) hk).1
  rwa [T.s0] at this
 have hd : ∀ b p, φ b = some p → b < s.h.n := fun b p e => (hs.hr.lt b p e).1
 have hcut : ∀ k, k ≤ ops.size → φ.cut (σ k).h.n = φ := fun k hk => Phi.cut_eq fun b p e => Nat.lt_of_lt_of_le (hd b p e) (hn k hk)
 refine ⟨m, by simp, fun i o _ hl => absurd hl (li_none _ _), q2, q3, fun i hi hD => ⟨fun hl => absurd hl (li_none _ _), fun h => absurd hD (q4 i (Nat.zero_le _) h)⟩, fun k hk _ => ?_, fun b p e => .inl (Nat.lt_of_lt_of_le (hd b p e) (hn m q2)), fun b p e => (hs.hr.lt b p e).2, fun j _ _ _ hl => absurd hl (li_none _ _), fun j hj _ x h1 _ => ?_, fun t => ⟨0, Nat.zero_le _, fun u hu => absurd hu (by omega), fun i o _ _ => ⟨fun hl => absurd hl (li_none _ _), fun h => absurd h (by omega)⟩, fun c hc => ?_⟩, hs.tr.size, rfl, ⟨Phi.le_refl _, fun b p e => .inl e, rfl, rfl, rfl, Nat.le_refl _, fun _ _ _ => rfl⟩⟩
 ·rw [hcut k (by omega)]
  refine hs0.ext ?_ (T.seg hkp (by omega) (by omega) fun j h1 h2 => q4 j h1 (by omega)) (T.wf hkp (by omega) fun b hb => hs0.nw b hb) (T.ng hkp (i := 0) (j := k) (by omega) (by omega))
  rw [T.s0]; exact hn k (by omega)
 ·cases e : φ x with
  | none => rfl
  | some p =>
   have := hd x p e
   have := hn j (by omega)
   omega
 ·rw [T.s0] at hc
  rw [hcut 0 (by omega)]
  exact hs.tr.get t c hc
theorem inv_done (T : Trace P run ops s s' σ D) (hkp : RunKp run) (hs : SR φ s a w) {φ' : Phi} {a' : Act} {w' : World} {listed : Array Bool} {m : Nat} (I : Inv ops σ D φ w a s s' listed m φ' a' w') (hall : ∀ i, i < ops.size → Li listed i) : Went φ s.h.n s'.lw w φ' w' ∧ SR φ' s' a' w' := by
 have hm : m = ops.size := by
  rcases I.m_wr with e | e
  ·exact e
  ·rcases Nat.lt_or_ge m ops.size with h | h
   ·exact absurd ((I.wr m h e).1 (hall m h)) (by omega)
   ·have := I.m_le; omega
 obtain ⟨_, _, n3, n4⟩ := T.mono hkp (i := 0) (j := ops.size) (by omega) (Nat.le_refl _)
 rw [T.s0, T.sN] at n3 n4
 refine ⟨I.went, ⟨by rw [I.size, n3], fun t c hc => ?_⟩, ?_, ?_⟩
 ·obtain ⟨v, v1, v2, v3, v4⟩ := I.sl t
  have := T.slot v1 (Nat.le_refl _) t (fun k o' h1 h2 ho' hd => by
   have := (v3 k o' ho' hd).1 (hall k h2); omega)
  rw [T.sN] at this
  rw [this] at hc
  obtain ⟨val, h1, h2⟩ := v4 c hc
  exact ⟨val, h1, h2.mono (Phi.cut_le _ _)⟩
 ·rw [n4, I.df]; exact hs.df.mono I.went.le
 ·have := I.hr m (Nat.le_refl _) (fun j h1 h2 => by omega)
  rwa [Phi.cut_eq (fun b p e => by
   rcases I.dom b p e with h | ⟨j, h1, h2, _⟩
   ·exact h
   ·omega), hm, T.sN] at this
theorem any_in {F : Fence} (hF : FW F) (hrun : RunsOk P run) {n : Nat} {nt : Nat} (T : Trace P run ops s s' σ D) (hkp : RunKp run) (hs : SR φ s a w) (MK : Makes ops σ D bf) (RD : Reads P s.h.n ops σ D bf) (W : Drawn ops nt D bf) (hnt : s.nt = nt) {Q : Exit → Act → World → Prop} (hQ : ∀ φ' a' w', Went φ s.h.n s'.lw w φ' w' → SR φ' s' a' w' → Q .normal a' w') :
  ∀ (f : Nat) (listed : Array Bool) (m : Nat) (φ' : Phi) (a' : Act) (w' : World), left listed ops.size = f → Inv ops σ D φ w a s s' listed m φ' a' w' → wpAnyIn F n P .any ops Q f listed a' w'
 | 0, listed, m, φ', a', w', hf, I => by
  have hz := left_zero listed ops.size hf
  refine ⟨List.eq_nil_iff_forall_not_mem.2 fun i hi => ?_, ?_⟩
  ·obtain ⟨h1, o, ho, _⟩ := mem_ready.1 hi
   rw [hz i (Array.getElem?_eq_some_iff.1 ho).1] at h1; cases h1
  ·obtain ⟨g1, g2⟩ := inv_done T hkp hs I fun i hi => (li_left I.sz hi).1 (hz i hi)
   exact hQ φ' a' w' g1 g2
 | f + 1, listed, m, φ', a', w', hf, I => by
  refine ⟨fun he => ?_, fun i hi => ?_⟩
  ·obtain ⟨i, h1, h2, h3⟩ := left_least listed ops.size (by omega)
   have ho : ops[i]? = some ops[i] := Array.getElem?_eq_getElem h1
   have : i ∈ Region.ready .any ops listed := mem_ready.2 ⟨h2, _, ho, fun e hm hb => by
    have hlt := W.edge i _ ho e hm hb
    exact (li_left I.sz (by omega)).1 (h3 e.on hlt)⟩
   rw [he] at this; cases this
  ·obtain ⟨h1, o, ho, h2⟩ := mem_ready.1 hi
   have hlt := (Array.getElem?_eq_some_iff.1 ho).1
   have R : Rdy ops listed i o := ⟨ho, (fun hl => by rw [(li_left I.sz hlt).2 hl] at h1; cases h1), fun e hm hb => h2 e hm hb⟩
   refine drawn_step hF hrun MK RD T hkp (fun b hb => by rw [T.s0] at hb ⊢; exact hs.hr.nw b hb) W I hnt R fun m' φ'' a'' w'' hI => ?_
   refine any_in hF hrun T hkp hs MK RD W hnt hQ f _ m' φ'' a'' w'' ?_ hI
   have := left_set listed i h1 ops.size hlt
   omega
theorem drawn_in {F : Fence} (hF : FW F) (hrun : RunsOk P run) (hkp : RunKp run) (hm : P.follows .mixedOrders = true) {n id : Nat} {ds : List Stp} (e : opsD P run ops s.h.n ops.toList s = some (ds, s')) (hok : drawnOk s'.nt ops ds = true) (hs : SR φ s a w) {Q : Exit → Act → World → Prop} (hQ : ∀ φ' a' w', Went φ s.h.n s'.lw w φ' w' → SR φ' s' a' w' → Q .normal a' w') : (Code.region id ops true).wpIn F n P Q a w := by
 obtain ⟨σ, t1, t2, t3, t4⟩ := opsD_trace e
 have T : Trace P run ops s s' σ (fun i => ((dids ds)[i]?).getD .none) := ⟨t1, by rw [← t2]; simp, fun i o ho => by
  obtain ⟨b, b1, b2⟩ := t4 i o (by simpa using ho)
  exact ⟨b, b1, by simp only [dids_get b2]; rfl⟩⟩
 have n3 := (T.mono hkp (i := 0) (j := ops.size) (by omega) (Nat.le_refl _)).2.2.1
 rw [T.s0, T.sN] at n3
 have W := drawn_of (D := fun i => ((dids ds)[i]?).getD .none) hok (by rw [t3]; simp) (fun i d hd => by simp only [hd]; rfl)
 have RD := reads_of (P := P) (σ := σ) (n0 := s.h.n) (D := fun i => ((dids ds)[i]?).getD .none) hok (by rw [t3]; simp) (fun i o ho => by
  obtain ⟨b, _, b2⟩ := t4 i o (by simpa using ho)
  exact ⟨b, b2⟩) (fun i d hd => by simp only [hd]; rfl)
 have MK := makes_of (P := P) (σ := σ) (n0 := s.h.n) (D := fun i => ((dids ds)[i]?).getD .none) hok (by rw [t3]; simp) (fun i o ho => by
  obtain ⟨b, _, b2⟩ := t4 i o (by simpa using ho)
  exact ⟨b, b2⟩) (fun i d hd => by simp only [hd]; rfl)
 obtain ⟨m, I⟩ := inv_drawn T hkp hs
 refine wpIn_region_any hm ?_
 exact any_in hF hrun T hkp hs MK RD W n3.symm hQ ops.size _ m φ a _ (left_all _ _ (Nat.le_refl _)) I
theorem sameTr_eq {α : Type} {f : α → α → Bool} (hf : ∀ {a b : α}, f a b = true → a = b) : ∀ {a b : Tr α}, sameTr f a b = true → a = b
 | .e, .e, _ => rfl
 | .n v l r, .n v' l' r', h => by
  simp only [sameTr, Bool.and_eq_true] at h
  rw [sameOpt_eq hf h.1.1, sameTr_eq hf h.1.2, sameTr_eq hf h.2]
 | .e, .n .., h => by cases h
 | .n .., .e, h => by cases h
theorem sameSt_eq {s t : St} (h : sameSt s t = true) : s = t := by
 obtain ⟨ts, nt, df, ⟨n, m⟩, lw⟩ := s
 obtain ⟨ts', nt', df', ⟨n', m'⟩, lw'⟩ := t
 simp only [sameSt, Bool.and_eq_true] at h
 obtain ⟨⟨⟨⟨⟨h1, h2⟩, h3⟩, h4⟩, h5⟩, h6⟩ := h
 rw [sameTr_eq sameC'_eq h1, beq_eq' h2, sameNs_eq h3, beq_eq' h4, sameTr_eq sameOb_eq h5, beq_eq' h6]
theorem all_in {F : Fence} (hF : FW F) (hrun : RunsOk P run) {n : Nat} (hkp : RunKp run) {Q : Exit → Act → World → Prop} {s0 fin : St} {φ0 : Phi} {w0 : World} (hQ : ∀ φ' a' w', Went φ0 s0.h.n fin.lw w0 φ' w' → SR φ' fin a' w' → Q .normal a' w') :
  ∀ (f : Nat) (listed : Array Bool) (s : St) (φ' : Phi) (a' : Act) (w' : World), anyC P run ops fin f listed s = true → s0.h.n ≤ s.h.n → Went φ0 s0.h.n s.lw w0 φ' w' → SR φ' s a' w' → wpAnyIn F n P .any ops Q f listed a' w'
 | 0, listed, s, φ', a', w', h, _, hw, hs => by
  simp only [anyC, Bool.and_eq_true] at h
  have := sameSt_eq h.2
  subst this
  exact ⟨by simpa using h.1, hQ φ' a' w' hw hs⟩
 | f + 1, listed, s, φ', a', w', h, hn, hw, hs => by
  simp only [anyC, Bool.and_eq_true, Bool.not_eq_true'] at h
  refine ⟨fun he => by rw [he] at h; simp at h, fun i hi => ?_⟩
  have h1 := List.all_eq_true.1 h.2 i hi
  split at h1
  ·rename_i o ho
   split at h1
   ·rename_i s1 b hst
    obtain ⟨_, _, k3, k4⟩ := stepC_kp hkp hst
    have k1 := k4.n
    exact step_in hF hrun ho hst hs fun φ2 a2 w2 g1 g2 => all_in hF hrun hkp hQ f _ s1 φ2 a2 w2 h1 (by omega) (hw.trans g1 hn k3 (Nat.le_refl _)) g2
   ·cases h1
  ·cases h1
theorem drawn_all {F : Fence} (hF : FW F) (hrun : RunsOk P run) (hkp : RunKp run) (hm : P.follows .mixedOrders = true) {n id : Nat} (e : anyC P run ops s' ops.size (Array.replicate ops.size false) s = true) (hs : SR φ s a w) {Q : Exit → Act → World → Prop} (hQ : ∀ φ' a' w', Went φ s.h.n s'.lw w φ' w' → SR φ' s' a' w' → Q .normal a' w') : (Code.region id ops true).wpIn F n P Q a w := by
 refine wpIn_region_any hm ?_
 have hs1 : SR φ s a { w with drawn := w.drawn + 1 } := ⟨hs.tr, hs.df, hs.hr.still (Nat.le_refl _) (fun _ _ => rfl)⟩
 exact all_in hF hrun hkp hQ ops.size _ s φ a _ e (Nat.le_refl _) ⟨Phi.le_refl _, fun _ _ h => .inl h, rfl, rfl, rfl, Nat.le_refl _, fun _ _ _ => rfl⟩ hs1
end
end Go.Proofs.YthffbfkcmbgghaaGreat.Cm
