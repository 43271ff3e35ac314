/-
  The law CableEvery, walked.
-/
import Derived.Test.YtghglgaimhfedaaZSb
import Derived.Test.YtghglgaimhfedaaQO
set_option linter.all false
namespace Go.Proofs.Ytghglgaimhfedaa
open Go.RowKit Go.Shelf
attribute [local go_sem] monoUpon_value monoUpon_skip monoUpon_enter

theorem Within_true {n lo hi : Int} (h : inB n lo hi = true) (w : World) : Calls Try.prog 27 #[.int .i64 n, .int .i64 lo, .int .i64 hi] w fun e w' => e = .returned (.bool true) ∧ w' = w := by
  have k := Within_any n lo hi w
  rw [h] at k
  exact k.mono fun e w' hh => ⟨hh.1, hh.2.symm⟩
theorem csE_take (b : List (Int × Int)) (ps : List Int) (k : Nat) (h : k < b.length) : (csE b ps).take (k + 1) = (csE b ps).take k ++ [cE b ps k] := by
  rw [List.take_succ_eq_append_getElem (by rw [csE_len]; exact h)]; simp [csE]
theorem inE_take (b : List (Int × Int)) (ps : List Int) (k : Nat) (h : k < b.length) : (inE b ps).take (k + 1) = (inE b ps).take k ++ [(cE b ps k - kE b ps k / 2, cE b ps k)] := by
  rw [List.take_succ_eq_append_getElem (by rw [inE_len]; exact h)]; simp [inE]
theorem stE_take (b : List (Int × Int)) (ps : List Int) (k : Nat) (h : k < b.length) : (still (csE b ps)).take (k + 1) = (still (csE b ps)).take k ++ [(cE b ps k, cE b ps k)] := by
  rw [List.take_succ_eq_append_getElem (by simp [still, csE_len]; exact h)]; simp [still, csE]
theorem st_len (b : List (Int × Int)) (ps : List Int) : (still (csE b ps)).length = b.length := by simp [still, csE_len]
theorem every_HTO (l : Ln) (b : List (Int × Int)) (ps : List Int) (hn : l.ks.length ≤ 12) (hc : b.length ≤ 14) (hps : ps.length ≤ 20) (h1 : boxErr l b = 0) : Hid (∀ v u w, Sl e3 3 w v l.ks → Sl e1 1 w u (csE b ps) → Calls Try.prog 28 #[.agg #[.int .i64 l.x, .int .i64 l.z, v], u] w fun e w' => ∃ A c, e = .returned (.tuple #[.slice A b.length c, .int .i64 0]) ∧ Sl e2 2 w' (.slice A b.length c) (tens l (csE b ps)) ∧ Below w.heap.size w w') := by
  obtain ⟨h4, h5⟩ := boxErr_ok h1
  obtain ⟨hl, hbx⟩ := boxOk_of h1
  have hbi := inE_box hbx ps
  have hcu := csE_cu hbx ps
  have hbs := still_box hcu
  have hce := csE_err h4 hbx ps
  have hei := boxErr_of h4 hbi
  have hes := boxErr_of h4 hbs
  have hcl := csE_len b ps
  have hil := inE_len b ps
  have hsl := st_len b ps
  exact fun v u w k1 k2 => by
    have h := TensionsOf_any v u l (csE b ps) w k1 k2 (by omega) (by omega)
    have e : tensionsOf l (csE b ps) = (tens l (csE b ps), 0) := tensionsOf_ok hce
    rw [e] at h
    refine h.mono fun e w' ⟨r, a, b', c⟩ => ?_
    have s := b'.sl e2_len
    obtain ⟨A, c', e9, _⟩ := s.form
    have e8 : (tens l (csE b ps)).length = b.length := (tens_len l _ hcu.len).trans hbx.len.symm
    rw [e8] at e9
    subst e9
    exact ⟨A, c', a, s, c⟩
theorem every_HPB (l : Ln) (b : List (Int × Int)) (ps : List Int) (hn : l.ks.length ≤ 12) (hc : b.length ≤ 14) (hps : ps.length ≤ 20) (h1 : boxErr l b = 0) : Hid (∀ v u w, Sl e3 3 w v l.ks → Sl e2 2 w u b → Calls Try.prog 57 #[.agg #[.int .i64 l.x, .int .i64 l.z, v], u] w fun e w' => ∃ A c, e = .returned (.tuple #[.slice A b.length c, .int .i64 0]) ∧ Sl e2 2 w' (.slice A b.length c) (loHi l b) ∧ Below w.heap.size w w') := by
  obtain ⟨h4, h5⟩ := boxErr_ok h1
  obtain ⟨hl, hbx⟩ := boxOk_of h1
  have hbi := inE_box hbx ps
  have hcu := csE_cu hbx ps
  have hbs := still_box hcu
  have hce := csE_err h4 hbx ps
  have hei := boxErr_of h4 hbi
  have hes := boxErr_of h4 hbs
  have hcl := csE_len b ps
  have hil := inE_len b ps
  have hsl := st_len b ps
  exact fun v u w k1 k2 => by
    have h := PullsIn_any v u l b w k1 k2 (by omega) (by omega)
    have e : pullsIn l b = (loHi l b, 0) := if_pos h1
    rw [e] at h
    refine h.mono fun e w' ⟨r, a, b', c⟩ => ?_
    have s := b'.sl e2_len
    obtain ⟨A, c', e9, _⟩ := s.form
    have e8 : (loHi l b).length = b.length := (by unfold loHi; rw [List.length_map, pulls_len hbx, hbx.len])
    rw [e8] at e9
    subst e9
    exact ⟨A, c', a, s, c⟩
theorem every_HSQ (l : Ln) (b : List (Int × Int)) (ps : List Int) (hn : l.ks.length ≤ 12) (hc : b.length ≤ 14) (hps : ps.length ≤ 20) (h1 : boxErr l b = 0) : Hid (∀ v u w, Sl e3 3 w v l.ks → Sl e2 2 w u b → Calls Try.prog 58 #[.agg #[.int .i64 l.x, .int .i64 l.z, v], u] w fun e w' => ∃ A c, e = .returned (.tuple #[.slice A b.length c, .int .i64 0]) ∧ Sl e2 2 w' (.slice A b.length c) ((pulls l b).map sqR) ∧ Below w.heap.size w w') := by
  obtain ⟨h4, h5⟩ := boxErr_ok h1
  obtain ⟨hl, hbx⟩ := boxOk_of h1
  have hbi := inE_box hbx ps
  have hcu := csE_cu hbx ps
  have hbs := still_box hcu
  have hce := csE_err h4 hbx ps
  have hei := boxErr_of h4 hbi
  have hes := boxErr_of h4 hbs
  have hcl := csE_len b ps
  have hil := inE_len b ps
  have hsl := st_len b ps
  exact fun v u w k1 k2 => by
    have h := SquaresIn_any v u l b w k1 k2 (by omega) (by omega)
    have e : squaresIn l b = ((pulls l b).map sqR, 0) := if_pos h1
    rw [e] at h
    refine h.mono fun e w' ⟨r, a, b', c⟩ => ?_
    have s := b'.sl e2_len
    obtain ⟨A, c', e9, _⟩ := s.form
    have e8 : ((pulls l b).map sqR).length = b.length := (by rw [List.length_map, pulls_len hbx, hbx.len])
    rw [e8] at e9
    subst e9
    exact ⟨A, c', a, s, c⟩
theorem every_HPI (l : Ln) (b : List (Int × Int)) (ps : List Int) (hn : l.ks.length ≤ 12) (hc : b.length ≤ 14) (hps : ps.length ≤ 20) (h1 : boxErr l b = 0) : Hid (∀ v u w, Sl e3 3 w v l.ks → Sl e2 2 w u (inE b ps) → Calls Try.prog 57 #[.agg #[.int .i64 l.x, .int .i64 l.z, v], u] w fun e w' => ∃ A c, e = .returned (.tuple #[.slice A b.length c, .int .i64 0]) ∧ Sl e2 2 w' (.slice A b.length c) (loHi l (inE b ps)) ∧ Below w.heap.size w w') := by
  obtain ⟨h4, h5⟩ := boxErr_ok h1
  obtain ⟨hl, hbx⟩ := boxOk_of h1
  have hbi := inE_box hbx ps
  have hcu := csE_cu hbx ps
  have hbs := still_box hcu
  have hce := csE_err h4 hbx ps
  have hei := boxErr_of h4 hbi
  have hes := boxErr_of h4 hbs
  have hcl := csE_len b ps
  have hil := inE_len b ps
  have hsl := st_len b ps
  exact fun v u w k1 k2 => by
    have h := PullsIn_any v u l (inE b ps) w k1 k2 (by omega) (by omega)
    have e : pullsIn l (inE b ps) = (loHi l (inE b ps), 0) := if_pos hei
    rw [e] at h
    refine h.mono fun e w' ⟨r, a, b', c⟩ => ?_
    have s := b'.sl e2_len
    obtain ⟨A, c', e9, _⟩ := s.form
    have e8 : (loHi l (inE b ps)).length = b.length := (by unfold loHi; rw [List.length_map, pulls_len hbi, hbx.len])
    rw [e8] at e9
    subst e9
    exact ⟨A, c', a, s, c⟩
theorem every_HPS (l : Ln) (b : List (Int × Int)) (ps : List Int) (hn : l.ks.length ≤ 12) (hc : b.length ≤ 14) (hps : ps.length ≤ 20) (h1 : boxErr l b = 0) : Hid (∀ v u w, Sl e3 3 w v l.ks → Sl e2 2 w u (still (csE b ps)) → Calls Try.prog 57 #[.agg #[.int .i64 l.x, .int .i64 l.z, v], u] w fun e w' => ∃ A c, e = .returned (.tuple #[.slice A b.length c, .int .i64 0]) ∧ Sl e2 2 w' (.slice A b.length c) (loHi l (still (csE b ps))) ∧ Below w.heap.size w w') := by
  obtain ⟨h4, h5⟩ := boxErr_ok h1
  obtain ⟨hl, hbx⟩ := boxOk_of h1
  have hbi := inE_box hbx ps
  have hcu := csE_cu hbx ps
  have hbs := still_box hcu
  have hce := csE_err h4 hbx ps
  have hei := boxErr_of h4 hbi
  have hes := boxErr_of h4 hbs
  have hcl := csE_len b ps
  have hil := inE_len b ps
  have hsl := st_len b ps
  exact fun v u w k1 k2 => by
    have h := PullsIn_any v u l (still (csE b ps)) w k1 k2 (by omega) (by omega)
    have e : pullsIn l (still (csE b ps)) = (loHi l (still (csE b ps)), 0) := if_pos hes
    rw [e] at h
    refine h.mono fun e w' ⟨r, a, b', c⟩ => ?_
    have s := b'.sl e2_len
    obtain ⟨A, c', e9, _⟩ := s.form
    have e8 : (loHi l (still (csE b ps))).length = b.length := (by unfold loHi; rw [List.length_map, pulls_len hbs, hbx.len])
    rw [e8] at e9
    subst e9
    exact ⟨A, c', a, s, c⟩
theorem every_sums2 (l : Ln) (b : List (Int × Int)) (ps : List Int) (hn : l.ks.length ≤ 12) (hc : b.length ≤ 14) (hps : ps.length ≤ 20) (h1 : boxErr l b = 0) : ∃ (se ra rb ua ub va vb en za zb : Int),
      Hid (∀ v u w, Sl e3 3 w v l.ks → Sl e2 2 w u b → Calls Try.prog 59 #[.agg #[.int .i64 l.x, .int .i64 l.z, v], u] w fun e w' => e = .returned (.tuple #[.agg #[.int .i64 ra, .int .i64 rb], .int .i64 se]) ∧ Below w.heap.size w w') ∧
      Hid (∀ v u w, Sl e3 3 w v l.ks → Sl e1 1 w u (csE b ps) → Calls Try.prog 40 #[.agg #[.int .i64 l.x, .int .i64 l.z, v], u] w fun e w' => e = .returned (.tuple #[.agg #[.int .i64 ua, .int .i64 ub], .int .i64 se]) ∧ Below w.heap.size w w') ∧
      Hid (∀ v u w, Sl e3 3 w v l.ks → Sl e2 2 w u (inE b ps) → Calls Try.prog 59 #[.agg #[.int .i64 l.x, .int .i64 l.z, v], u] w fun e w' => e = .returned (.tuple #[.agg #[.int .i64 va, .int .i64 vb], .int .i64 se]) ∧ Below w.heap.size w w') ∧
      Hid (∀ v u w, Sl e3 3 w v l.ks → Sl e2 2 w u b → Calls Try.prog 60 #[.agg #[.int .i64 l.x, .int .i64 l.z, v], u] w fun e w' => e = .returned (.tuple #[.int .i64 en, .int .i64 se]) ∧ Below w.heap.size w w') ∧
      Hid (∀ v u w, Sl e3 3 w v l.ks → Sl e1 1 w u (csE b ps) → Calls Try.prog 41 #[.agg #[.int .i64 l.x, .int .i64 l.z, v], u] w fun e w' => e = .returned (.tuple #[.agg #[.int .i64 za, .int .i64 zb], .int .i64 se]) ∧ Below w.heap.size w w') ∧
      (se = 0 → ra ≤ va ∧ vb ≤ rb ∧ va ≤ ua ∧ ub ≤ vb ∧ zb ≤ en ∧ za ≤ zb) := by
  obtain ⟨h4, h5⟩ := boxErr_ok h1
  obtain ⟨hl, hbx⟩ := boxOk_of h1
  have hbi := inE_box hbx ps
  have hcu := csE_cu hbx ps
  have hbs := still_box hcu
  have hce := csE_err h4 hbx ps
  have hei := boxErr_of h4 hbi
  have hes := boxErr_of h4 hbs
  have hcl := csE_len b ps
  have hil := inE_len b ps
  have hsl := st_len b ps
  have k1 := fun v u w h k => LaybackIn_any v u l b w h k (by omega) (by omega)
  have k2 := fun v u w h k => LaybackOf_any v u l (csE b ps) w h k (by omega) (by omega)
  have k3 := fun v u w h k => LaybackIn_any v u l (inE b ps) w h k (by omega) (by omega)
  have k4 := fun v u w h k => EnoughFor_any v u l b w h k (by omega) (by omega)
  have k5 := fun v u w h k => LengthOf_any v u l (csE b ps) w h k (by omega) (by omega)
  have s1 : boxShapeErr l b = slackErr l := if_pos h1
  have s2 : shapeErr l (csE b ps) = slackErr l := if_pos hce
  have s3 : boxShapeErr l (inE b ps) = slackErr l := if_pos hei
  unfold laybackIn at k1 k3
  unfold laybackOf at k2
  unfold enoughFor at k4
  unfold lengthOf at k5
  rw [s1] at k1 k4
  rw [s2] at k2 k5
  rw [s3] at k3
  by_cases h3 : slackErr l = 0
  · rw [if_pos h3] at k1 k2 k3 k4 k5
    exact ⟨0, _, _, _, _, _, _, _, _, _, k1, k2, k3, k4, k5, fun _ => every_sums hl hbx h3 ps⟩
  · rw [if_neg h3] at k1 k2 k3 k4 k5
    exact ⟨slackErr l, _, _, _, _, _, _, _, _, _, k1, k2, k3, k4, k5, fun h => absurd h h3⟩
set_option maxRecDepth 100000 in
set_option maxHeartbeats 16000000 in
theorem every_in (v u x : Value) (l : Ln) (b : List (Int × Int)) (ps : List Int) (w : World) (hs : Sl e3 3 w v l.ks) (hu : Sl e2 2 w u b) (hx : Sl e1 1 w x ps) (hn : l.ks.length ≤ 12) (hc : b.length ≤ 14) (hps : ps.length ≤ 20) (h1 : boxErr l b = 0) :
    Calls Try.prog 9 #[.agg #[.int .i64 l.x, .int .i64 l.z, v], u, x] w fun e w' => e = .returned (.bool true) ∧ Below w.heap.size w w' := by
  have HS := Lib.hid hs
  have HU := Lib.hid hu
  have HV := Lib.hid hx
  obtain ⟨A, c, rfl, hcap⟩ := hs.form
  obtain ⟨A', c', rfl, hcap'⟩ := hu.form
  obtain ⟨A'', c'', rfl, hcap''⟩ := hx.form
  clear hs hu hx hcap hcap' hcap''
  have f1 := fewB_true hn hc
  obtain ⟨i0, hi0, hz0, hz1, hz2⟩ := info_parts intinfo
  obtain ⟨i1, hi1, hy0, hy1, hy2⟩ := info_parts rangeinfo2
  obtain ⟨h4, h5⟩ := boxErr_ok h1
  obtain ⟨hl, hbx⟩ := boxOk_of h1
  have hbi := inE_box hbx ps
  have hcu := csE_cu hbx ps
  have hbs := still_box hcu
  have hce := csE_err h4 hbx ps
  have hei := boxErr_of h4 hbi
  have hes := boxErr_of h4 hbs
  have hcl := csE_len b ps
  have hil := inE_len b ps
  have hsl := st_len b ps
  have HLE := Lib.hid (fun v w h1 => LineErr_any v l w h1 (by omega))
  have HBE := Lib.hid (fun v u w h1 h2 => rBoxErr_any v u l b w h1 h2 (by omega))
  rw [h4] at HLE
  rw [h5] at HBE
  have HTO := every_HTO l b ps hn hc hps h1
  have HPB := every_HPB l b ps hn hc hps h1
  have HSQ := every_HSQ l b ps hn hc hps h1
  have HPI := every_HPI l b ps hn hc hps h1
  have HPS := every_HPS l b ps hn hc hps h1
  have HEA := Lib.hid (fun k h => every_at hl hbx ps k h)
  have HL5 : Hid ((tens l (csE b ps)).length = b.length ∧ (loHi l b).length = b.length ∧ ((pulls l b).map sqR).length = b.length ∧ (loHi l (inE b ps)).length = b.length ∧ (loHi l (still (csE b ps))).length = b.length) :=
    ⟨(tens_len l _ hcu.len).trans hbx.len.symm, by unfold loHi; rw [List.length_map, pulls_len hbx, hbx.len], by rw [List.length_map, pulls_len hbx, hbx.len], by unfold loHi; rw [List.length_map, pulls_len hbi, hbx.len], by unfold loHi; rw [List.length_map, pulls_len hbs, hbx.len]⟩
  have hb0 : 0 < b.length := by rw [hbx.len]; exact hl.n0
  have HTA := Lib.hid (fun k h => And.intro (csE_take b ps k h) (And.intro (inE_take b ps k h) (stE_take b ps k h)))
  have HKD := Lib.hid (fun k h => And.intro (hbx.ok _ (getD_mem b k (0, 0) h)) (cE_bd hbx ps k h))
  obtain ⟨se, ra, rb, ua, ub, va, vb, en, za, zb, HLB, HLO, HLI, HEN, HLN, HFI⟩ := every_sums2 l b ps hn hc hps h1
  have hkE : Hid (∀ k, kE b ps k = if 0 < ps.length then (ps.getD (k % ps.length) 0) % ((b.getD k (0, 0)).2 - (b.getD k (0, 0)).1 + 1) else 0) := fun _ => rfl
  have hcE : Hid (∀ k, cE b ps k = (b.getD k (0, 0)).1 + kE b ps k) := fun _ => rfl
  obtain ⟨cs, hcs⟩ : ∃ cs, cs = csE b ps := ⟨_, rfl⟩
  obtain ⟨sb, hsb⟩ : ∃ sb, sb = still (csE b ps) := ⟨_, rfl⟩
  obtain ⟨ib, hib⟩ : ∃ ib, ib = inE b ps := ⟨_, rfl⟩
  obtain ⟨tl, htl⟩ : ∃ tl, tl = tens l (csE b ps) := ⟨_, rfl⟩
  obtain ⟨pl, hpl⟩ : ∃ pl, pl = loHi l b := ⟨_, rfl⟩
  obtain ⟨sl, hsq⟩ : ∃ sl, sl = (pulls l b).map sqR := ⟨_, rfl⟩
  obtain ⟨ql, hql⟩ : ∃ ql, ql = loHi l (inE b ps) := ⟨_, rfl⟩
  obtain ⟨ol, hol⟩ : ∃ ol, ol = loHi l (still (csE b ps)) := ⟨_, rfl⟩
  rw [← htl] at HTO
  rw [← hpl] at HPB
  rw [← hsq] at HSQ
  rw [← hql] at HPI
  rw [← hol] at HPS
  simp only [← htl, ← hpl, ← hsq, ← hql, ← hol] at HEA HL5
  clear htl hpl hsq hql hol
  rw [← hcs] at HTO HLO HLN hcl
  rw [← hib] at HPI HLI hil
  rw [← hsb] at HPS hsl
  simp only [← hsb] at HTA
  simp only [← hcs, ← hib] at HTA
  clear hcs hsb hib
  clear h1 h4 h5 hl hbx hbi hcu hbs hce hei hes
  have hp1 : ¬ (20 : Int) < (ps.length : Int) := by omega
  have hp2 : decide ((20 : Int) < (ps.length : Int)) = false := decide_eq_false hp1
  have HFI := Lib.hid HFI
  go_enter Try.func9, Try.ntmps9
  go_wp2_with (first
      | (go_at_call 14; refine (awakeB _).mono ?_; rintro e w1 ⟨rfl, b1⟩; have HX := law_hx HS.out (fun W => Sl e2 2 W (.slice A' b.length c') b ∧ Sl e1 1 W (.slice A'' ps.length c'') ps) (fun W hW => ⟨HU.out.below hW, HV.out.below hW⟩) b1; have HXP : ∃ P : World → Prop, Keeps P ∧ P w1 ∧ ∀ W, P W → (W.cell? ⟨w.heap.size, 0, none⟩ = some (.int .i64 l.x) ∧ W.cell? ⟨w.heap.size, 1, none⟩ = some (.int .i64 l.z) ∧ W.cell? ⟨w.heap.size, 2, none⟩ = some (.slice A l.ks.length c)) ∧ Sl e3 3 W (.slice A l.ks.length c) l.ks ∧ (Sl e2 2 W (.slice A' b.length c') b ∧ Sl e1 1 W (.slice A'' ps.length c'') ps) ∧ Below w.heap.size w W := ⟨_, (keeps_cells _ _ _ _).and ((keeps_sl _ _ _ _).and (((keeps_sl _ _ _ _).and (keeps_sl _ _ _ _)).and (keeps_below _))), HX.out _ (Below.refl _ _), fun _ h => h⟩; obtain ⟨P, KP, hP, HPE⟩ := HXP; have K0 := Lib.hid KP; have HPE := Lib.hid HPE; have Q1 := Lib.hid hP; clear b1 HX KP hP; obtain ⟨g0, g1, g2⟩ := (HPE.out _ Q1.out).1)
      | (go_at_call 15; refine (few_any _ l _ _ (HPE.out _ Q1.out).2.1).mono ?_; rintro e w2 ⟨rfl, b2⟩; have Q2 := Lib.hid (K0.out _ _ Q1.out b2); clear b2 g0 g1 g2; obtain ⟨g0, g1, g2⟩ := (HPE.out _ Q2.out).1)
      | (go_at_call 33; refine (HLE.out _ _ (HPE.out _ Q2.out).2.1).mono ?_; rintro e w3 ⟨rfl, b3⟩; have Q3 := Lib.hid (K0.out _ _ Q2.out b3); clear b3 g0 g1 g2; obtain ⟨g0, g1, g2⟩ := (HPE.out _ Q3.out).1)
      | (go_at_call 61; refine (HBE.out _ _ _ (HPE.out _ Q3.out).2.1 (HPE.out _ Q3.out).2.2.1.1).mono ?_; rintro e w4 ⟨rfl, b4⟩; have Q4 := Lib.hid (K0.out _ _ Q3.out b4); clear b4 g0 g1 g2))
  obtain ⟨bb, ob, rfl, hbb1, hbb2⟩ := (HPE.out _ Q4.out).2.2.1.1.at2 (k := 0) hb0
  clear hbb1 hbb2
  go_loopw [7, 8, 9, 10, 11, 12] (fun vc vi vs i _ _ wr => ∃ k : Nat, k ≤ b.length ∧ i = .int .i64 k ∧ Ow e1 1 3 w4.heap.size wr vc (cs.take k) ∧ Ow e2 2 66 w4.heap.size wr vi (ib.take k) ∧ Ow e2 2 66 w4.heap.size wr vs (sb.take k) ∧ Apart vc vi ∧ Apart vc vs ∧ Apart vi vs ∧ Below w4.heap.size w4 wr) (fun _ _ _ i _ _ _ => b.length - (intOf i).toNat)
  case atStart => exact ⟨0, Nat.zero_le _, rfl, Ow.nil _ _ _ _ _, Ow.nil _ _ _ _ _, Ow.nil _ _ _ _ _, (fun b h => by cases h), (fun b h => by cases h), (fun b h => by cases h), Below.refl _ _⟩
  case round =>
    obtain ⟨k, hk, rfl, ho1, ho2, ho3, ha1, ha2, ha3, hb⟩ := hrel
    have HB := Lib.hid hb
    by_cases hlt : k < b.length
    · have HTK0 := HTA.out k hlt
      have hkd := HKD.out k hlt
      have hc0 := hcE.out k
      have hk0' := hkE.out k
      have HBK := Lib.hid (fun W (h : Below w4.heap.size w4 W) => ((HPE.out _ (K0.out _ _ Q4.out h)).2.2.1.1).at2 (k := k) hlt)
      rw [getD_eq _ _ _ hlt] at hkd hc0 hk0'
      have hkk : (k : Int) < (b.length : Int) := by omega
      have hkn : (0 : Int) ≤ (k : Int) := by omega
      have hl7 : (cs.take k).length ≤ 14 := Nat.le_trans (List.length_take_le _ _) (by omega)
      have hl8 : (ib.take k).length ≤ 14 := Nat.le_trans (List.length_take_le _ _) (by omega)
      have hl9 : (sb.take k).length ≤ 14 := Nat.le_trans (List.length_take_le _ _) (by omega)
      generalize cE b ps k = n at *
      generalize kE b ps k = kk at *
      generalize b[k] = q at *
      obtain ⟨lo, hi⟩ := q
      simp only at *
      obtain ⟨⟨e1', e2', e3'⟩, e4', e5', e6', e7', e8'⟩ := hkd
      generalize cs.take k = c7 at *
      generalize ib.take k = c8 at *
      generalize sb.take k = c9 at *
      have HTK := Lib.hid HTK0
      clear HTK0
      by_cases hpp : 0 < ps.length
      · rw [if_pos hpp] at hk0'
        have hj : k % ps.length < ps.length := Nat.mod_lt _ hpp
        rw [getD_eq _ _ _ hj] at hk0'
        have HPJ := Lib.hid (fun W (h : Below w4.heap.size w4 W) => ((HPE.out _ (K0.out _ _ Q4.out h)).2.2.1.2).at1 (k := k % ps.length) hj)
        have hpe : ps ≠ [] := by rintro rfl; simp at hpp
        have hremU : (k : Int).tmod (ps.length : Int) = ((k % ps.length : Nat) : Int) := by rw [Int.tmod_eq_emod_of_nonneg (by omega), ← Int.natCast_emod]
        have hrem : IntKind.i64.wrap ((k : Int).tmod (ps.length : Int)) = ((k % ps.length : Nat) : Int) := by
          rw [Int.tmod_eq_emod_of_nonneg (by omega), ← Int.natCast_emod]; exact IntWalk.i64_in _ (by omega)
        have hpz : ((ps.length : Int) == 0) = false := by rw [beq_eq_false_iff_ne]; omega
        have hpn : (ps.length : Int) ≠ 0 := by omega
        generalize ps[k % ps.length] = pj at *
        generalize k % ps.length = j at *
        obtain ⟨bn, on, rfl, _, _⟩ := HPJ.out w4 (Below.refl _ _)
        have hjl : (j : Int) < (ps.length : Int) := by omega
        have hj0 : (0 : Int) ≤ (j : Int) := by omega
        have hp0 : (0 : Int) < (ps.length : Int) := by omega
        have hp0' : decide ((0 : Int) < (ps.length : Int)) = true := decide_eq_true hp0
        have HMD := Lib.hid (fun w => Mod_any pj (hi - lo + 1) w (by omega) (by omega))
        rw [← hk0'] at HMD
        have hwa : IntKind.i64.wrap (hi - lo) = hi - lo := IntWalk.i64_in _ (by omega)
        have hwb : IntKind.i64.wrap (hi - lo + 1) = hi - lo + 1 := IntWalk.i64_in _ (by omega)
        have hwc : IntKind.i64.wrap (lo + kk) = n := by rw [← hc0]; exact IntWalk.i64_in _ (by omega)
        have hkk0 : 0 ≤ kk := by rw [hk0']; exact Int.emod_nonneg _ (by omega)
        have hwd : IntKind.i64.wrap (kk.tdiv 2) = kk / 2 := by rw [Int.tdiv_eq_ediv_of_nonneg hkk0]; exact IntWalk.i64_in _ (by omega)
        have hwe : IntKind.i64.wrap (n - kk / 2) = n - kk / 2 := IntWalk.i64_in _ (by omega)
        have HXC : Hid (∀ W, Below wr.heap.size wr W → W.cell? ⟨bb, ob + k * 2, none⟩ = some (.int .i64 lo) ∧ W.cell? ⟨bb, ob + k * 2 + 1, none⟩ = some (.int .i64 hi) ∧ W.cell? ⟨bn, on + j, none⟩ = some (.int .i64 pj) ∧ Below w4.heap.size w4 W) := by
          intro W hb0
          have hb' : Below w4.heap.size w4 W := below_tr HB.out hb0
          obtain ⟨b0, o0, e0, _, ca1, ca2⟩ := HBK.out W hb'
          injection e0 with e0
          injection e0 with e01 e02
          subst e01; subst e02
          obtain ⟨b0, o0, e0, _, cb1⟩ := HPJ.out W hb'
          injection e0 with e0
          injection e0 with e01 e02
          subst e01; subst e02
          exact ⟨ca1, ca2, cb1, hb'⟩
        have HO0 := Lib.hid (And.intro ho1 (And.intro ho2 ho3))
        have HPQ := Lib.hid ha1
        have HPR := Lib.hid ha2
        have HQR := Lib.hid ha3
        clear ho1 ho2 ho3 ha1 ha2 ha3 hk0' hc0 e1' e2' e3' e4' e5' e6' e7' e8' hb
        go_wp2_with fail
        refine wp_region_mono 20 [68, 69, 70, 71, 72, 73, 74, 75, 76, 77, 78, 79, 80, 81, 82, 83, 84, 85, 86, 87] [[], [], [], [2], [1, 3], [0, 4], [5], [], [], [7, 8], [9], [10], [], [], [12, 13], [14], [15], [11, 16], [17], [6, 18]] [fun v _ => v = .slice (some ⟨bn, on, none⟩) ps.length c'', fun v _ => v = .int .i64 k, fun v _ => v = .slice (some ⟨bn, on, none⟩) ps.length c'', fun v _ => v = .int .i64 ps.length, fun v _ => v = .int .i64 j, fun v _ => v = .pointer (some ⟨bn, on + j, none⟩), fun v _ => v = .int .i64 pj, fun v _ => v = .slice (some ⟨bb, ob, none⟩) b.length c', fun v _ => v = .int .i64 k, fun v _ => v = .pointer (some ⟨bb, ob + k * 2, none⟩), fun v _ => v = .pointer (some ⟨bb, ob + k * 2 + 1, none⟩), fun v _ => v = .int .i64 hi, fun v _ => v = .slice (some ⟨bb, ob, none⟩) b.length c', fun v _ => v = .int .i64 k, fun v _ => v = .pointer (some ⟨bb, ob + k * 2, none⟩), fun v _ => v = .pointer (some ⟨bb, ob + k * 2, none⟩), fun v _ => v = .int .i64 lo, fun v _ => v = .int .i64 (hi - lo), fun v _ => v = .int .i64 (hi - lo + 1), fun v _ => v = .int .i64 kk] (by kernel_rfl) (by kernel_rfl) ⟨st_eq _, st_eq _, st_eq _, st_eq _, st_eq _, st_eq _, st_eq _, st_eq _, st_eq _, st_eq _, st_eq _, st_eq _, st_eq _, st_eq _, st_eq _, st_eq _, st_eq _, st_eq _, st_eq _, st_eq _, trivial⟩ ?_ ?_
        · simp only [List.take_succ_cons, List.take_zero, steps, and_true]
          refine ⟨?_, ?_, ?_, ?_, ?_, ?_, ?_, ?_, ?_, ?_, ?_, ?_, ?_, ?_, ?_, ?_, ?_, ?_, ?_, ?_⟩
          · intro x W hB _; simp only [putX, setX, List.foldl_cons, List.foldl_nil]; refine ⟨?_⟩; go_simp; exact ⟨rfl, Below.refl _ _⟩
          · intro x W hB _; simp only [putX, setX, List.foldl_cons, List.foldl_nil]; refine ⟨?_⟩; go_simp; exact ⟨rfl, Below.refl _ _⟩
          · intro x W hB _; simp only [putX, setX, List.foldl_cons, List.foldl_nil]; refine ⟨?_⟩; go_simp; exact ⟨rfl, Below.refl _ _⟩
          · intro x W hB hN; simp only [needs, sAt, dAt] at hN; simp only [putX, setX, List.foldl_cons, List.foldl_nil]; refine ⟨?_⟩; go_simp; exact ⟨rfl, Below.refl _ _⟩
          · intro x W hB hN; simp only [needs, sAt, dAt] at hN; simp only [putX, setX, List.foldl_cons, List.foldl_nil]; refine ⟨?_⟩; go_simp; exact ⟨rfl, Below.refl _ _⟩
          · intro x W hB hN; simp only [needs, sAt, dAt] at hN; simp only [putX, setX, List.foldl_cons, List.foldl_nil]; refine ⟨?_⟩; go_simp; exact ⟨rfl, Below.refl _ _⟩
          · intro x W hB hN; simp only [needs, sAt, dAt] at hN; simp only [putX, setX, List.foldl_cons, List.foldl_nil]; obtain ⟨d0, d1, d2, _⟩ := HXC.out W (Below.trans (Below.drew (Below.refl _ _)) hB); refine ⟨?_⟩; go_simp; exact ⟨rfl, Below.refl _ _⟩
          · intro x W hB _; simp only [putX, setX, List.foldl_cons, List.foldl_nil]; refine ⟨?_⟩; go_simp; exact ⟨rfl, Below.refl _ _⟩
          · intro x W hB _; simp only [putX, setX, List.foldl_cons, List.foldl_nil]; refine ⟨?_⟩; go_simp; exact ⟨rfl, Below.refl _ _⟩
          · intro x W hB hN; simp only [needs, sAt, dAt] at hN; simp only [putX, setX, List.foldl_cons, List.foldl_nil]; refine ⟨?_⟩; go_simp; exact ⟨rfl, Below.refl _ _⟩
          · intro x W hB hN; simp only [needs, sAt, dAt] at hN; simp only [putX, setX, List.foldl_cons, List.foldl_nil]; refine ⟨?_⟩; go_simp; exact ⟨rfl, Below.refl _ _⟩
          · intro x W hB hN; simp only [needs, sAt, dAt] at hN; simp only [putX, setX, List.foldl_cons, List.foldl_nil]; obtain ⟨d0, d1, d2, _⟩ := HXC.out W (Below.trans (Below.drew (Below.refl _ _)) hB); refine ⟨?_⟩; go_simp; exact ⟨rfl, Below.refl _ _⟩
          · intro x W hB _; simp only [putX, setX, List.foldl_cons, List.foldl_nil]; refine ⟨?_⟩; go_simp; exact ⟨rfl, Below.refl _ _⟩
          · intro x W hB _; simp only [putX, setX, List.foldl_cons, List.foldl_nil]; refine ⟨?_⟩; go_simp; exact ⟨rfl, Below.refl _ _⟩
          · intro x W hB hN; simp only [needs, sAt, dAt] at hN; simp only [putX, setX, List.foldl_cons, List.foldl_nil]; refine ⟨?_⟩; go_simp; exact ⟨rfl, Below.refl _ _⟩
          · intro x W hB hN; simp only [needs, sAt, dAt] at hN; simp only [putX, setX, List.foldl_cons, List.foldl_nil]; refine ⟨?_⟩; go_simp; exact ⟨rfl, Below.refl _ _⟩
          · intro x W hB hN; simp only [needs, sAt, dAt] at hN; simp only [putX, setX, List.foldl_cons, List.foldl_nil]; obtain ⟨d0, d1, d2, _⟩ := HXC.out W (Below.trans (Below.drew (Below.refl _ _)) hB); refine ⟨?_⟩; go_simp; exact ⟨rfl, Below.refl _ _⟩
          · intro x W hB hN; simp only [needs, sAt, dAt] at hN; simp only [putX, setX, List.foldl_cons, List.foldl_nil]; refine ⟨?_⟩; go_simp; exact ⟨rfl, Below.refl _ _⟩
          · intro x W hB hN; simp only [needs, sAt, dAt] at hN; simp only [putX, setX, List.foldl_cons, List.foldl_nil]; refine ⟨?_⟩; go_simp; exact ⟨rfl, Below.refl _ _⟩
          · intro x W hB hN; simp only [needs, sAt, dAt] at hN; simp only [putX, setX, List.foldl_cons, List.foldl_nil]; refine ⟨?_⟩; go_simp; refine (HMD.out _).mono ?_; rintro e w' ⟨rfl, rfl⟩; exact ⟨_, rfl, rfl, Below.refl _ _⟩
        · intro x W12 hB hA
          simp only [allSp] at hA
          have s1 := hA.2.2.2.2.2.2.2.2.2.2.2.2.2.2.2.2.2.2.2.1
          have hbr : Below wr.heap.size wr W12 := Below.trans (Below.drew (Below.refl _ _)) hB
          have HBW := Lib.hid (below_tr HB.out hbr)
          have HOP := Lib.hid (HO0.out.1.below hbr)
          have HOQ := Lib.hid (HO0.out.2.1.below hbr)
          have HOR := Lib.hid (HO0.out.2.2.below hbr)
          obtain ⟨d0, d1, d2, _⟩ := HXC.out W12 hbr
          have hz12 := HBW.out.size
          clear hA hB hbr
          simp only [putX, setX, List.foldl_cons, List.foldl_nil, List.drop_succ_cons, List.drop_zero, s1, List.setIfInBounds_toArray, List.set_cons_succ, List.set_cons_zero]
          clear s1
          have T20 : Hid True := trivial
          have T21 : Hid True := trivial
          go_wp2_with (first
            | (at_builtin; clear T20; refine wpList_append_at _ rfl _ _ 36 rfl w4.heap.size 3 i0 _ 1 8 Try.underlying36 hi0 hz0 hz1 hz2 rfl (by decide) _ _ _ rfl (HOP.out.own.alloc _) ⟨_, 0, none⟩ 1 1 (e1 n) rfl rfl (cells_new _ _ _) (e1_one _) (by simp only [maxLen]; omega) (by omega) (by simp; omega) ?_; intro v1 wa hown1 hg hblk; have HO1 := Lib.hid (Ow.snoc hown1); have HQ1 := Lib.hid ((HOQ.out.alloc (.cells #[.int .i64 n] 3)).beside HPQ.out.symm hg); have HR1 := Lib.hid ((HOR.out.alloc (.cells #[.int .i64 n] 3)).beside HPR.out.symm hg); have HPQ1 : Hid (Apart v1 u8) := Apart.grown HPQ.out (HOQ.out.alloc (.cells #[.int .i64 n] 3)) (Nat.le_refl _) hblk; have HPR1 : Hid (Apart v1 u9) := Apart.grown HPR.out (HOR.out.alloc (.cells #[.int .i64 n] 3)) (Nat.le_refl _) hblk; have HBa := Lib.hid ((HOP.out.alloc (.cells #[.int .i64 n] 3)).grown hg (below_al HBW.out _) (Nat.le_refl _)); have hza := HBa.out.size; clear hown1 hg hblk)
            | (at_builtin; clear T21; refine wpList_append_at _ rfl _ _ 27 rfl w4.heap.size 66 i1 _ 2 16 Try.underlying27 hi1 hy0 hy1 hy2 rfl (by decide) _ _ _ rfl (HQ1.out.own.alloc _) ⟨_, 0, none⟩ 1 1 (e2 ((n - kk / 2), n)) rfl rfl (cells_new _ _ _) (e2_one _) (by simp only [maxLen]; omega) (by omega) (by simp; omega) ?_; intro v2 wb hown2 hg hblk; have HO2 := Lib.hid (Ow.snoc hown2); have HP2 := Lib.hid ((HO1.out.alloc (.cells #[.int .i64 (n - kk / 2), .int .i64 n] 66)).beside HPQ1.out hg); have HR2 := Lib.hid ((HR1.out.alloc (.cells #[.int .i64 (n - kk / 2), .int .i64 n] 66)).beside HQR.out.symm hg); have HPQ2 : Hid (Apart v1 v2) := (Apart.grown HPQ1.out.symm (HO1.out.alloc (.cells #[.int .i64 (n - kk / 2), .int .i64 n] 66)) (Nat.le_refl _) hblk).symm; have HQR2 : Hid (Apart v2 u9) := Apart.grown HQR.out (HR1.out.alloc (.cells #[.int .i64 (n - kk / 2), .int .i64 n] 66)) (Nat.le_refl _) hblk; have HBb := Lib.hid ((HQ1.out.alloc (.cells #[.int .i64 (n - kk / 2), .int .i64 n] 66)).grown hg (below_al HBa.out _) (Nat.le_refl _)); have hzb := HBb.out.size; clear hown2 hg hblk)
            | (at_builtin; refine wpList_append_at _ rfl _ _ 27 rfl w4.heap.size 66 i1 _ 2 16 Try.underlying27 hi1 hy0 hy1 hy2 rfl (by decide) _ _ _ rfl (HR2.out.own.alloc _) ⟨_, 0, none⟩ 1 1 (e2 (n, n)) rfl rfl (cells_new _ _ _) (e2_one _) (by simp only [maxLen]; omega) (by omega) (by simp; omega) ?_; intro v3 wc hown3 hg hblk; have HO3 := Lib.hid (Ow.snoc hown3); have HP3 := Lib.hid ((HP2.out.alloc (.cells #[.int .i64 n, .int .i64 n] 66)).beside HPR1.out hg); have HQ3 := Lib.hid ((HO2.out.alloc (.cells #[.int .i64 n, .int .i64 n] 66)).beside HQR2.out hg); have HPR3 : Hid (Apart v1 v3) := (Apart.grown HPR1.out.symm (HP2.out.alloc (.cells #[.int .i64 n, .int .i64 n] 66)) (Nat.le_refl _) hblk).symm; have HQR3 : Hid (Apart v2 v3) := (Apart.grown HQR2.out.symm (HO2.out.alloc (.cells #[.int .i64 n, .int .i64 n] 66)) (Nat.le_refl _) hblk).symm; have HBc := Lib.hid ((HR2.out.alloc (.cells #[.int .i64 n, .int .i64 n] 66)).grown hg (below_al HBb.out _) (Nat.le_refl _)); clear hown3 hg hblk))
          go_roundw
          case rel => exact ⟨k + 1, by omega, by go_num, by rw [HTK.out.1]; exact HP3.out, by rw [HTK.out.2.1]; exact HQ3.out, by rw [HTK.out.2.2]; exact HO3.out, HPQ2.out, HPR3.out, HQR3.out, HBc.out⟩
          case measure => simp [intOf]; omega
      · rw [if_neg hpp] at hk0'
        obtain rfl := hk0'
        have hn0 : n = lo := by omega
        subst hn0
        have hp0 : ¬ (0 : Int) < (ps.length : Int) := by omega
        have hp0' : decide ((0 : Int) < (ps.length : Int)) = false := decide_eq_false hp0
        have hw0 : IntKind.i64.wrap 0 = 0 := rfl
        have hwn : IntKind.i64.wrap n = n := IntWalk.i64_in _ (by omega)
        rw [show n - 0 / 2 = n by omega] at HTK
        have HBW := Lib.hid hb
        have HOP := Lib.hid ho1
        have HOQ := Lib.hid ho2
        have HOR := Lib.hid ho3
        have HPQ := Lib.hid ha1
        have HPR := Lib.hid ha2
        have HQR := Lib.hid ha3
        obtain ⟨b0, o0, e0, _, d0, d1⟩ := HBK.out wr hb
        injection e0 with e0
        injection e0 with e01 e02
        subst e01; subst e02
        have hz12 := hb.size
        clear ho1 ho2 ho3 ha1 ha2 ha3 hc0 e1' e2' e3' e4' e5' e6' e7' e8' hb
        have T20 : Hid True := trivial
        have T21 : Hid True := trivial
        go_wp2_with (first
          | (at_builtin; clear T20; refine wpList_append_at _ rfl _ _ 36 rfl w4.heap.size 3 i0 _ 1 8 Try.underlying36 hi0 hz0 hz1 hz2 rfl (by decide) _ _ _ rfl (HOP.out.own.alloc _) ⟨_, 0, none⟩ 1 1 (e1 n) rfl rfl (cells_new _ _ _) (e1_one _) (by simp only [maxLen]; omega) (by omega) (by simp; omega) ?_; intro v1 wa hown1 hg hblk; have HO1 := Lib.hid (Ow.snoc hown1); have HQ1 := Lib.hid ((HOQ.out.alloc (.cells #[.int .i64 n] 3)).beside HPQ.out.symm hg); have HR1 := Lib.hid ((HOR.out.alloc (.cells #[.int .i64 n] 3)).beside HPR.out.symm hg); have HPQ1 : Hid (Apart v1 u8) := Apart.grown HPQ.out (HOQ.out.alloc (.cells #[.int .i64 n] 3)) (Nat.le_refl _) hblk; have HPR1 : Hid (Apart v1 u9) := Apart.grown HPR.out (HOR.out.alloc (.cells #[.int .i64 n] 3)) (Nat.le_refl _) hblk; have HBa := Lib.hid ((HOP.out.alloc (.cells #[.int .i64 n] 3)).grown hg (below_al HBW.out _) (Nat.le_refl _)); have hza := HBa.out.size; clear hown1 hg hblk)
          | (at_builtin; clear T21; refine wpList_append_at _ rfl _ _ 27 rfl w4.heap.size 66 i1 _ 2 16 Try.underlying27 hi1 hy0 hy1 hy2 rfl (by decide) _ _ _ rfl (HQ1.out.own.alloc _) ⟨_, 0, none⟩ 1 1 (e2 (n, n)) rfl rfl (cells_new _ _ _) (e2_one _) (by simp only [maxLen]; omega) (by omega) (by simp; omega) ?_; intro v2 wb hown2 hg hblk; have HO2 := Lib.hid (Ow.snoc hown2); have HP2 := Lib.hid ((HO1.out.alloc (.cells #[.int .i64 n, .int .i64 n] 66)).beside HPQ1.out hg); have HR2 := Lib.hid ((HR1.out.alloc (.cells #[.int .i64 n, .int .i64 n] 66)).beside HQR.out.symm hg); have HPQ2 : Hid (Apart v1 v2) := (Apart.grown HPQ1.out.symm (HO1.out.alloc (.cells #[.int .i64 n, .int .i64 n] 66)) (Nat.le_refl _) hblk).symm; have HQR2 : Hid (Apart v2 u9) := Apart.grown HQR.out (HR1.out.alloc (.cells #[.int .i64 n, .int .i64 n] 66)) (Nat.le_refl _) hblk; have HBb := Lib.hid ((HQ1.out.alloc (.cells #[.int .i64 n, .int .i64 n] 66)).grown hg (below_al HBa.out _) (Nat.le_refl _)); have hzb := HBb.out.size; clear hown2 hg hblk)
          | (at_builtin; refine wpList_append_at _ rfl _ _ 27 rfl w4.heap.size 66 i1 _ 2 16 Try.underlying27 hi1 hy0 hy1 hy2 rfl (by decide) _ _ _ rfl (HR2.out.own.alloc _) ⟨_, 0, none⟩ 1 1 (e2 (n, n)) rfl rfl (cells_new _ _ _) (e2_one _) (by simp only [maxLen]; omega) (by omega) (by simp; omega) ?_; intro v3 wc hown3 hg hblk; have HO3 := Lib.hid (Ow.snoc hown3); have HP3 := Lib.hid ((HP2.out.alloc (.cells #[.int .i64 n, .int .i64 n] 66)).beside HPR1.out hg); have HQ3 := Lib.hid ((HO2.out.alloc (.cells #[.int .i64 n, .int .i64 n] 66)).beside HQR2.out hg); have HPR3 : Hid (Apart v1 v3) := (Apart.grown HPR1.out.symm (HP2.out.alloc (.cells #[.int .i64 n, .int .i64 n] 66)) (Nat.le_refl _) hblk).symm; have HQR3 : Hid (Apart v2 v3) := (Apart.grown HQR2.out.symm (HO2.out.alloc (.cells #[.int .i64 n, .int .i64 n] 66)) (Nat.le_refl _) hblk).symm; have HBc := Lib.hid ((HR2.out.alloc (.cells #[.int .i64 n, .int .i64 n] 66)).grown hg (below_al HBb.out _) (Nat.le_refl _)); clear hown3 hg hblk))
        go_roundw
        case rel => exact ⟨k + 1, by omega, by go_num, by rw [HTK.out.1]; exact HP3.out, by rw [HTK.out.2.1]; exact HQ3.out, by rw [HTK.out.2.2]; exact HO3.out, HPQ2.out, HPR3.out, HQR3.out, HBc.out⟩
        case measure => simp [intOf]; omega
    · obtain rfl : k = b.length := by omega
      rw [show cs.take b.length = cs from List.take_of_length_le (by omega)] at ho1
      rw [show ib.take b.length = ib from List.take_of_length_le (by omega)] at ho2
      rw [show sb.take b.length = sb from List.take_of_length_le (by omega)] at ho3
      have HXL := HPE.out _ (K0.out _ _ Q4.out hb)
      have HXP : ∃ P : World → Prop, Keeps P ∧ P wr ∧ ∀ W, P W → (W.cell? ⟨w.heap.size, 0, none⟩ = some (.int .i64 l.x) ∧ W.cell? ⟨w.heap.size, 1, none⟩ = some (.int .i64 l.z) ∧ W.cell? ⟨w.heap.size, 2, none⟩ = some (.slice A l.ks.length c)) ∧ Sl e3 3 W (.slice A l.ks.length c) l.ks ∧ Sl e2 2 W (.slice (some ⟨bb, ob, none⟩) b.length c') b ∧ Sl e1 1 W u7 cs ∧ Sl e2 2 W u8 ib ∧ Sl e2 2 W u9 sb ∧ Below w.heap.size w W :=
        ⟨_, (keeps_cells _ _ _ _).and ((keeps_sl _ _ _ _).and ((keeps_sl _ _ _ _).and ((keeps_sl _ _ _ _).and ((keeps_sl _ _ _ _).and ((keeps_sl _ _ _ _).and (keeps_below _)))))),
          ⟨HXL.1, HXL.2.1, HXL.2.2.1.1, ho1.sl e1_len, ho2.sl e2_len, ho3.sl e2_len, HXL.2.2.2⟩, fun W h => h⟩
      clear HXL ho1 ho2 ho3 ha1 ha2 ha3 HPE Q1 Q2 Q3 Q4 K0 HB hb HKD HTA hkE hcE HLE HBE HS HU HV
      obtain ⟨P2, KP, hP, HPE⟩ := HXP
      have K10 := Lib.hid KP
      have HPE := Lib.hid HPE
      have Q10 := Lib.hid hP
      clear KP hP
      obtain ⟨g0, g1, g2⟩ := (HPE.out _ Q10.out).1
      have U1 : Hid True := trivial
      have U4 : Hid True := trivial
      have U5 : Hid True := trivial
      have U6 : Hid True := trivial
      have U7 : Hid True := trivial
      have U8 : Hid True := trivial
      have U10 : Hid True := trivial
      have U11 : Hid True := trivial
      have U12 : Hid True := trivial
      go_wp2_with (first
        | (go_at_call 17; clear U1; refine (CopyLine_any _ l _ (HPE.out _ Q10.out).2.1 (by omega)).mono ?_; rintro e w11 ⟨r11, rfl, s11, b11⟩; have K11 := Lib.hid (Keeps.and K10.out (keeps_sl e3 3 r11 l.ks)); have Q11 := Lib.hid (And.intro (K10.out _ _ Q10.out b11) s11); clear b11 s11 g0 g1 g2)
        | (go_at_call 29; refine (CopyInts_any _ cs _ (HPE.out _ Q11.out.1).2.2.2.1 (by omega)).mono ?_; rintro e w12 ⟨r12, rfl, o12, b12⟩; have s12 := o12.sl e1_len; clear o12; have K12 := Lib.hid (Keeps.and K11.out (keeps_sl e1 1 r12 cs)); have Q12 := Lib.hid (And.intro (K11.out _ _ Q11.out b12) s12); clear b12 s12)
        | (go_at_call 28; refine (HTO.out _ _ _ (Q12.out.1.2) (Q12.out.2)).mono ?_; rintro e w13 ⟨A13, c13, rfl, s13, b13⟩; have K13 := Lib.hid (Keeps.and K12.out (keeps_sl e2 2 (.slice A13 b.length c13) tl)); have Q13 := Lib.hid (And.intro (K12.out _ _ Q12.out b13) s13); clear b13 s13; obtain ⟨g0, g1, g2⟩ := (HPE.out _ Q13.out.1.1.1).1)
        | (go_at_call 17; clear U4; refine (CopyLine_any _ l _ (HPE.out _ Q13.out.1.1.1).2.1 (by omega)).mono ?_; rintro e w14 ⟨r14, rfl, s14, b14⟩; have K14 := Lib.hid (Keeps.and K13.out (keeps_sl e3 3 r14 l.ks)); have Q14 := Lib.hid (And.intro (K13.out _ _ Q13.out b14) s14); clear b14 s14 g0 g1 g2)
        | (go_at_call 19; clear U5; refine (CopyRanges_any _ b _ (HPE.out _ Q14.out.1.1.1.1).2.2.1 (by omega)).mono ?_; rintro e w15 ⟨r15, rfl, o15, b15⟩; have s15 := o15.sl e2_len; clear o15; have K15 := Lib.hid (Keeps.and K14.out (keeps_sl e2 2 r15 b)); have Q15 := Lib.hid (And.intro (K14.out _ _ Q14.out b15) s15); clear b15 s15)
        | (go_at_call 57; clear U6; refine (HPB.out _ _ _ (Q15.out.1.2) (Q15.out.2)).mono ?_; rintro e w16 ⟨A16, c16, rfl, s16, b16⟩; have K16 := Lib.hid (Keeps.and K15.out (keeps_sl e2 2 (.slice A16 b.length c16) pl)); have Q16 := Lib.hid (And.intro (K15.out _ _ Q15.out b16) s16); clear b16 s16; obtain ⟨g0, g1, g2⟩ := (HPE.out _ Q16.out.1.1.1.1.1.1).1)
        | (go_at_call 17; clear U7; refine (CopyLine_any _ l _ (HPE.out _ Q16.out.1.1.1.1.1.1).2.1 (by omega)).mono ?_; rintro e w17 ⟨r17, rfl, s17, b17⟩; have K17 := Lib.hid (Keeps.and K16.out (keeps_sl e3 3 r17 l.ks)); have Q17 := Lib.hid (And.intro (K16.out _ _ Q16.out b17) s17); clear b17 s17 g0 g1 g2)
        | (go_at_call 19; clear U8; refine (CopyRanges_any _ b _ (HPE.out _ Q17.out.1.1.1.1.1.1.1).2.2.1 (by omega)).mono ?_; rintro e w18 ⟨r18, rfl, o18, b18⟩; have s18 := o18.sl e2_len; clear o18; have K18 := Lib.hid (Keeps.and K17.out (keeps_sl e2 2 r18 b)); have Q18 := Lib.hid (And.intro (K17.out _ _ Q17.out b18) s18); clear b18 s18)
        | (go_at_call 58; refine (HSQ.out _ _ _ (Q18.out.1.2) (Q18.out.2)).mono ?_; rintro e w19 ⟨A19, c19, rfl, s19, b19⟩; have K19 := Lib.hid (Keeps.and K18.out (keeps_sl e2 2 (.slice A19 b.length c19) sl)); have Q19 := Lib.hid (And.intro (K18.out _ _ Q18.out b19) s19); clear b19 s19; obtain ⟨g0, g1, g2⟩ := (HPE.out _ Q19.out.1.1.1.1.1.1.1.1.1).1)
        | (go_at_call 17; clear U10; refine (CopyLine_any _ l _ (HPE.out _ Q19.out.1.1.1.1.1.1.1.1.1).2.1 (by omega)).mono ?_; rintro e w20 ⟨r20, rfl, s20, b20⟩; have K20 := Lib.hid (Keeps.and K19.out (keeps_sl e3 3 r20 l.ks)); have Q20 := Lib.hid (And.intro (K19.out _ _ Q19.out b20) s20); clear b20 s20 g0 g1 g2)
        | (go_at_call 19; clear U11; refine (CopyRanges_any _ ib _ (HPE.out _ Q20.out.1.1.1.1.1.1.1.1.1.1).2.2.2.2.1 (by omega)).mono ?_; rintro e w21 ⟨r21, rfl, o21, b21⟩; have s21 := o21.sl e2_len; clear o21; have K21 := Lib.hid (Keeps.and K20.out (keeps_sl e2 2 r21 ib)); have Q21 := Lib.hid (And.intro (K20.out _ _ Q20.out b21) s21); clear b21 s21)
        | (go_at_call 57; clear U12; refine (HPI.out _ _ _ (Q21.out.1.2) (Q21.out.2)).mono ?_; rintro e w22 ⟨A22, c22, rfl, s22, b22⟩; have K22 := Lib.hid (Keeps.and K21.out (keeps_sl e2 2 (.slice A22 b.length c22) ql)); have Q22 := Lib.hid (And.intro (K21.out _ _ Q21.out b22) s22); clear b22 s22; obtain ⟨g0, g1, g2⟩ := (HPE.out _ Q22.out.1.1.1.1.1.1.1.1.1.1.1.1).1)
        | (go_at_call 17; refine (CopyLine_any _ l _ (HPE.out _ Q22.out.1.1.1.1.1.1.1.1.1.1.1.1).2.1 (by omega)).mono ?_; rintro e w23 ⟨r23, rfl, s23, b23⟩; have K23 := Lib.hid (Keeps.and K22.out (keeps_sl e3 3 r23 l.ks)); have Q23 := Lib.hid (And.intro (K22.out _ _ Q22.out b23) s23); clear b23 s23 g0 g1 g2)
        | (go_at_call 19; refine (CopyRanges_any _ sb _ (HPE.out _ Q23.out.1.1.1.1.1.1.1.1.1.1.1.1.1).2.2.2.2.2.1 (by omega)).mono ?_; rintro e w24 ⟨r24, rfl, o24, b24⟩; have s24 := o24.sl e2_len; clear o24; have K24 := Lib.hid (Keeps.and K23.out (keeps_sl e2 2 r24 sb)); have Q24 := Lib.hid (And.intro (K23.out _ _ Q23.out b24) s24); clear b24 s24)
        | (go_at_call 57; refine (HPS.out _ _ _ (Q24.out.1.2) (Q24.out.2)).mono ?_; rintro e w25 ⟨A25, c25, rfl, s25, b25⟩; have K25 := Lib.hid (Keeps.and K24.out (keeps_sl e2 2 (.slice A25 b.length c25) ol)); have Q25 := Lib.hid (And.intro (K24.out _ _ Q24.out b25) s25); clear b25 s25))
      obtain ⟨bt', ot', rfl, hq1, hq2⟩ := (Q25.out.1.1.1.1.1.1.1.1.1.1.1.1.2).at2 (k := 0) (by rw [HL5.out.1]; exact hb0)
      clear hq1 hq2
      obtain ⟨bp', op', rfl, hq1, hq2⟩ := (Q25.out.1.1.1.1.1.1.1.1.1.2).at2 (k := 0) (by rw [HL5.out.2.1]; exact hb0)
      clear hq1 hq2
      obtain ⟨bs', os', rfl, hq1, hq2⟩ := (Q25.out.1.1.1.1.1.1.2).at2 (k := 0) (by rw [HL5.out.2.2.1]; exact hb0)
      clear hq1 hq2
      obtain ⟨bq', oq', rfl, hq1, hq2⟩ := (Q25.out.1.1.1.2).at2 (k := 0) (by rw [HL5.out.2.2.2.1]; exact hb0)
      clear hq1 hq2
      obtain ⟨bo', oo', rfl, hq1, hq2⟩ := (Q25.out.2).at2 (k := 0) (by rw [HL5.out.2.2.2.2]; exact hb0)
      clear hq1 hq2
      go_loopw [23, 24, 25] (fun i _ _ wx => ∃ k : Nat, k ≤ b.length ∧ i = .int .i64 k ∧ Below w25.heap.size w25 wx) (fun i _ _ _ => b.length - (intOf i).toNat)
      case atStart => exact ⟨0, Nat.zero_le _, rfl, Below.refl _ _⟩
      case round =>
        obtain ⟨k, hk, rfl, hb⟩ := hrel
        have HB := Lib.hid hb
        have Q60 := Lib.hid (K25.out _ _ Q25.out hb)
        clear hb
        by_cases hlt : k < b.length
        · obtain ⟨x, z, p1, p2, q1, q2, s1, s2, ht, hp, hq, hs, ho, ⟨hx1, hx2⟩, hpq, hqp, ⟨hn1, hn2⟩, ⟨hxa, hxb⟩, hza, hzb⟩ := HEA.out k hlt
          obtain ⟨htL, htE⟩ := List.getElem?_eq_some_iff.1 ht
          have ct := (Q60.out.1.1.1.1.1.1.1.1.1.1.1.1.2).at2 (k := k) htL
          rw [htE] at ct
          obtain ⟨b0, o0, e0, _, ct1, ct2⟩ := ct
          injection e0 with e0
          injection e0 with e01 e02
          subst e01; subst e02
          simp only at ct1 ct2
          clear ht htE htL
          obtain ⟨hpL, hpE⟩ := List.getElem?_eq_some_iff.1 hp
          have cp := (Q60.out.1.1.1.1.1.1.1.1.1.2).at2 (k := k) hpL
          rw [hpE] at cp
          obtain ⟨b0, o0, e0, _, cp1, cp2⟩ := cp
          injection e0 with e0
          injection e0 with e01 e02
          subst e01; subst e02
          simp only at cp1 cp2
          clear hp hpE hpL
          obtain ⟨hsL, hsE⟩ := List.getElem?_eq_some_iff.1 hs
          have cs := (Q60.out.1.1.1.1.1.1.2).at2 (k := k) hsL
          rw [hsE] at cs
          obtain ⟨b0, o0, e0, _, cs1, cs2⟩ := cs
          injection e0 with e0
          injection e0 with e01 e02
          subst e01; subst e02
          simp only at cs1 cs2
          clear hs hsE hsL
          obtain ⟨hqL, hqE⟩ := List.getElem?_eq_some_iff.1 hq
          have cq := (Q60.out.1.1.1.2).at2 (k := k) hqL
          rw [hqE] at cq
          obtain ⟨b0, o0, e0, _, cq1, cq2⟩ := cq
          injection e0 with e0
          injection e0 with e01 e02
          subst e01; subst e02
          simp only at cq1 cq2
          clear hq hqE hqL
          obtain ⟨hoL, hoE⟩ := List.getElem?_eq_some_iff.1 ho
          have co := (Q60.out.2).at2 (k := k) hoL
          rw [hoE] at co
          obtain ⟨b0, o0, e0, _, co1, co2⟩ := co
          injection e0 with e0
          injection e0 with e01 e02
          subst e01; subst e02
          simp only at co1 co2
          clear ho hoE hoL
          have mx := mul_bd x x 20000 20000 ⟨hxa, hxb⟩ ⟨hxa, hxb⟩
          have mz := mul_bd z z 20000 20000 ⟨hza, hzb⟩ ⟨hza, hzb⟩
          have hwx : IntKind.i64.wrap (x * x) = x * x := IntWalk.i64_in _ (by omega)
          have hwz : IntKind.i64.wrap (z * z) = z * z := IntWalk.i64_in _ (by omega)
          obtain ⟨nn, hnn⟩ : ∃ nn, nn = x * x + z * z := ⟨_, rfl⟩
          have hws : IntKind.i64.wrap (x * x + z * z) = nn := by rw [hnn]; exact IntWalk.i64_in _ (by omega)
          rw [← hnn] at hn1 hn2
          have hin1 : inB x q1 q2 = true := by simp [inB, hx1, hx2]
          have hin2 : inB nn s1 s2 = true := by simp [inB, hn1, hn2]
          have hlt1 : ¬ q1 < p1 := by omega
          have hd1 : decide (q1 < p1) = false := decide_eq_false hlt1
          have hlt2 : ¬ p2 < q2 := by omega
          have hd2 : decide (p2 < q2) = false := decide_eq_false hlt2
          have q3 := neq_range
          have hp3 := pne0 (x := (x, x)) rfl
          simp only at hp3
          have hkb : (k : Int) < (b.length : Int) := by omega
          have hk0 : (0 : Int) ≤ (k : Int) := by omega
          clear hnn mx mz hn1 hn2 hx1 hx2 hpq hqp hxa hxb hza hzb Q60 HFI HLB HLO HLI HEN HLN HTO HPB HSQ HPI HPS HEA
          go_wp2_with fail
          go_quiet (fail)
          go_wp2_with fail
          go_quiet (exact (Within_true (by assumption) _).mono fun e w' hh => ⟨hh.1, _, hh.2⟩)
          go_wp2_with fail
          go_roundw
          case rel => exact ⟨k + 1, by omega, by go_num, below_drN HB.out _⟩
          case measure => simp [intOf]; omega
        · obtain rfl : k = b.length := by omega
          obtain ⟨g0, g1, g2⟩ := (HPE.out _ Q60.out.1.1.1.1.1.1.1.1.1.1.1.1.1.1.1).1
          have V1 : Hid True := trivial
          have V2 : Hid True := trivial
          have V3 : Hid True := trivial
          have V4 : Hid True := trivial
          have V5 : Hid True := trivial
          have V7 : Hid True := trivial
          have V8 : Hid True := trivial
          have V10 : Hid True := trivial
          by_cases hse : se = 0
          · obtain ⟨y1, y2, y3, y4, y5, y6⟩ := HFI.out hse
            subst hse
            go_wp2_with (first
            | (go_at_call 17; clear V1; refine (CopyLine_any _ l _ (HPE.out _ Q60.out.1.1.1.1.1.1.1.1.1.1.1.1.1.1.1).2.1 (by omega)).mono ?_; rintro e w61 ⟨r61, rfl, s61, b61⟩; have K61 := Lib.hid (Keeps.and K25.out (keeps_sl e3 3 r61 l.ks)); have Q61 := Lib.hid (And.intro (K25.out _ _ Q60.out b61) s61); clear b61 s61 g0 g1 g2)
            | (go_at_call 19; clear V2; refine (CopyRanges_any _ b _ (HPE.out _ Q61.out.1.1.1.1.1.1.1.1.1.1.1.1.1.1.1.1).2.2.1 (by omega)).mono ?_; rintro e w62 ⟨r62, rfl, o62, b62⟩; have s62 := o62.sl e2_len; clear o62; have K62 := Lib.hid (Keeps.and K61.out (keeps_sl e2 2 r62 b)); have Q62 := Lib.hid (And.intro (K61.out _ _ Q61.out b62) s62); clear b62 s62)
            | (go_at_call 59; clear V3; refine (HLB.out _ _ _ (Q62.out.1.2) (Q62.out.2)).mono ?_; rintro e w63 ⟨rfl, b63⟩; have K63 := Lib.hid (Keeps.and K62.out (keeps_sl e1 1 (.slice (some ⟨w63.heap.size, 0, none⟩) 2 2) [ra, rb])); have Q63 := Lib.hid (And.intro (K62.out _ _ (K62.out _ _ Q62.out b63) (below_alloc1 w63 (.cells #[.int .i64 ra, .int .i64 rb] 66))) (sl2 w63 ra rb 66)); clear b63; obtain ⟨g0, g1, g2⟩ := (HPE.out _ Q63.out.1.1.1.1.1.1.1.1.1.1.1.1.1.1.1.1.1.1).1)
            | (go_at_call 17; clear V4; refine (CopyLine_any _ l _ (HPE.out _ Q63.out.1.1.1.1.1.1.1.1.1.1.1.1.1.1.1.1.1.1).2.1 (by omega)).mono ?_; rintro e w64 ⟨r64, rfl, s64, b64⟩; have K64 := Lib.hid (Keeps.and K63.out (keeps_sl e3 3 r64 l.ks)); have Q64 := Lib.hid (And.intro (K63.out _ _ Q63.out b64) s64); clear b64 s64 g0 g1 g2)
            | (go_at_call 29; clear V5; refine (CopyInts_any _ cs _ (HPE.out _ Q64.out.1.1.1.1.1.1.1.1.1.1.1.1.1.1.1.1.1.1.1).2.2.2.1 (by omega)).mono ?_; rintro e w65 ⟨r65, rfl, o65, b65⟩; have s65 := o65.sl e1_len; clear o65; have K65 := Lib.hid (Keeps.and K64.out (keeps_sl e1 1 r65 cs)); have Q65 := Lib.hid (And.intro (K64.out _ _ Q64.out b65) s65); clear b65 s65)
            | (go_at_call 40; refine (HLO.out _ _ _ (Q65.out.1.2) (Q65.out.2)).mono ?_; rintro e w66 ⟨rfl, b66⟩; have K66 := Lib.hid (Keeps.and K65.out (keeps_sl e1 1 (.slice (some ⟨w66.heap.size, 0, none⟩) 2 2) [ua, ub])); have Q66 := Lib.hid (And.intro (K65.out _ _ (K65.out _ _ Q65.out b66) (below_alloc1 w66 (.cells #[.int .i64 ua, .int .i64 ub] 66))) (sl2 w66 ua ub 66)); clear b66; obtain ⟨g0, g1, g2⟩ := (HPE.out _ Q66.out.1.1.1.1.1.1.1.1.1.1.1.1.1.1.1.1.1.1.1.1.1).1)
            | (go_at_call 17; clear V7; refine (CopyLine_any _ l _ (HPE.out _ Q66.out.1.1.1.1.1.1.1.1.1.1.1.1.1.1.1.1.1.1.1.1.1).2.1 (by omega)).mono ?_; rintro e w67 ⟨r67, rfl, s67, b67⟩; have K67 := Lib.hid (Keeps.and K66.out (keeps_sl e3 3 r67 l.ks)); have Q67 := Lib.hid (And.intro (K66.out _ _ Q66.out b67) s67); clear b67 s67 g0 g1 g2)
            | (go_at_call 19; clear V8; refine (CopyRanges_any _ ib _ (HPE.out _ Q67.out.1.1.1.1.1.1.1.1.1.1.1.1.1.1.1.1.1.1.1.1.1.1).2.2.2.2.1 (by omega)).mono ?_; rintro e w68 ⟨r68, rfl, o68, b68⟩; have s68 := o68.sl e2_len; clear o68; have K68 := Lib.hid (Keeps.and K67.out (keeps_sl e2 2 r68 ib)); have Q68 := Lib.hid (And.intro (K67.out _ _ Q67.out b68) s68); clear b68 s68)
            | (go_at_call 59; refine (HLI.out _ _ _ (Q68.out.1.2) (Q68.out.2)).mono ?_; rintro e w69 ⟨rfl, b69⟩; have K69 := Lib.hid (Keeps.and K68.out (keeps_sl e1 1 (.slice (some ⟨w69.heap.size, 0, none⟩) 2 2) [va, vb])); have Q69 := Lib.hid (And.intro (K68.out _ _ (K68.out _ _ Q68.out b69) (below_alloc1 w69 (.cells #[.int .i64 va, .int .i64 vb] 66))) (sl2 w69 va vb 66)); clear b69; obtain ⟨g0, g1, g2⟩ := (HPE.out _ Q69.out.1.1.1.1.1.1.1.1.1.1.1.1.1.1.1.1.1.1.1.1.1.1.1.1).1)
            | (go_at_call 17; clear V10; refine (CopyLine_any _ l _ (HPE.out _ Q69.out.1.1.1.1.1.1.1.1.1.1.1.1.1.1.1.1.1.1.1.1.1.1.1.1).2.1 (by omega)).mono ?_; rintro e w70 ⟨r70, rfl, s70, b70⟩; have K70 := Lib.hid (Keeps.and K69.out (keeps_sl e3 3 r70 l.ks)); have Q70 := Lib.hid (And.intro (K69.out _ _ Q69.out b70) s70); clear b70 s70 g0 g1 g2)
            | (go_at_call 19; refine (CopyRanges_any _ b _ (HPE.out _ Q70.out.1.1.1.1.1.1.1.1.1.1.1.1.1.1.1.1.1.1.1.1.1.1.1.1.1).2.2.1 (by omega)).mono ?_; rintro e w71 ⟨r71, rfl, o71, b71⟩; have s71 := o71.sl e2_len; clear o71; have K71 := Lib.hid (Keeps.and K70.out (keeps_sl e2 2 r71 b)); have Q71 := Lib.hid (And.intro (K70.out _ _ Q70.out b71) s71); clear b71 s71)
            | (go_at_call 60; refine (HEN.out _ _ _ (Q71.out.1.2) (Q71.out.2)).mono ?_; rintro e w72 ⟨rfl, b72⟩; have Q72 := Lib.hid (K71.out _ _ Q71.out b72); clear b72; obtain ⟨g0, g1, g2⟩ := (HPE.out _ Q72.out.1.1.1.1.1.1.1.1.1.1.1.1.1.1.1.1.1.1.1.1.1.1.1.1.1.1).1)
            | (go_at_call 17; refine (CopyLine_any _ l _ (HPE.out _ Q72.out.1.1.1.1.1.1.1.1.1.1.1.1.1.1.1.1.1.1.1.1.1.1.1.1.1.1).2.1 (by omega)).mono ?_; rintro e w73 ⟨r73, rfl, s73, b73⟩; have K73 := Lib.hid (Keeps.and K71.out (keeps_sl e3 3 r73 l.ks)); have Q73 := Lib.hid (And.intro (K71.out _ _ Q72.out b73) s73); clear b73 s73 g0 g1 g2)
            | (go_at_call 29; refine (CopyInts_any _ cs _ (HPE.out _ Q73.out.1.1.1.1.1.1.1.1.1.1.1.1.1.1.1.1.1.1.1.1.1.1.1.1.1.1.1).2.2.2.1 (by omega)).mono ?_; rintro e w74 ⟨r74, rfl, o74, b74⟩; have s74 := o74.sl e1_len; clear o74; have K74 := Lib.hid (Keeps.and K73.out (keeps_sl e1 1 r74 cs)); have Q74 := Lib.hid (And.intro (K73.out _ _ Q73.out b74) s74); clear b74 s74)
            | (go_at_call 41; refine (HLN.out _ _ _ (Q74.out.1.2) (Q74.out.2)).mono ?_; rintro e w75 ⟨rfl, b75⟩; have K75 := Lib.hid (Keeps.and K74.out (keeps_sl e1 1 (.slice (some ⟨w75.heap.size, 0, none⟩) 2 2) [za, zb])); have Q75 := Lib.hid (And.intro (K74.out _ _ (K74.out _ _ Q74.out b75) (below_alloc1 w75 (.cells #[.int .i64 za, .int .i64 zb] 66))) (sl2 w75 za zb 66)); clear b75; obtain ⟨x0, x1⟩ := box_cells (Q75.out.1.1.1.1.1.1.1.1.1.1.1.2); obtain ⟨x2, x3⟩ := box_cells (Q75.out.1.1.1.1.1.1.1.1.2); obtain ⟨x4, x5⟩ := box_cells (Q75.out.1.1.1.1.1.2); obtain ⟨x6, x7⟩ := box_cells (Q75.out.2)))
            go_ret
            exact ⟨rfl, (HPE.out _ Q75.out.1.1.1.1.1.1.1.1.1.1.1.1.1.1.1.1.1.1.1.1.1.1.1.1.1.1.1.1.1).2.2.2.2.2.2⟩
          · have hse' := ne1 hse
            go_wp2_with (first
            | (go_at_call 17; clear V1; refine (CopyLine_any _ l _ (HPE.out _ Q60.out.1.1.1.1.1.1.1.1.1.1.1.1.1.1.1).2.1 (by omega)).mono ?_; rintro e w61 ⟨r61, rfl, s61, b61⟩; have K61 := Lib.hid (Keeps.and K25.out (keeps_sl e3 3 r61 l.ks)); have Q61 := Lib.hid (And.intro (K25.out _ _ Q60.out b61) s61); clear b61 s61 g0 g1 g2)
            | (go_at_call 19; clear V2; refine (CopyRanges_any _ b _ (HPE.out _ Q61.out.1.1.1.1.1.1.1.1.1.1.1.1.1.1.1.1).2.2.1 (by omega)).mono ?_; rintro e w62 ⟨r62, rfl, o62, b62⟩; have s62 := o62.sl e2_len; clear o62; have K62 := Lib.hid (Keeps.and K61.out (keeps_sl e2 2 r62 b)); have Q62 := Lib.hid (And.intro (K61.out _ _ Q61.out b62) s62); clear b62 s62)
            | (go_at_call 59; clear V3; refine (HLB.out _ _ _ (Q62.out.1.2) (Q62.out.2)).mono ?_; rintro e w63 ⟨rfl, b63⟩; have K63 := Lib.hid (Keeps.and K62.out (keeps_sl e1 1 (.slice (some ⟨w63.heap.size, 0, none⟩) 2 2) [ra, rb])); have Q63 := Lib.hid (And.intro (K62.out _ _ (K62.out _ _ Q62.out b63) (below_alloc1 w63 (.cells #[.int .i64 ra, .int .i64 rb] 66))) (sl2 w63 ra rb 66)); clear b63; obtain ⟨g0, g1, g2⟩ := (HPE.out _ Q63.out.1.1.1.1.1.1.1.1.1.1.1.1.1.1.1.1.1.1).1)
            | (go_at_call 17; clear V4; refine (CopyLine_any _ l _ (HPE.out _ Q63.out.1.1.1.1.1.1.1.1.1.1.1.1.1.1.1.1.1.1).2.1 (by omega)).mono ?_; rintro e w64 ⟨r64, rfl, s64, b64⟩; have K64 := Lib.hid (Keeps.and K63.out (keeps_sl e3 3 r64 l.ks)); have Q64 := Lib.hid (And.intro (K63.out _ _ Q63.out b64) s64); clear b64 s64 g0 g1 g2)
            | (go_at_call 29; clear V5; refine (CopyInts_any _ cs _ (HPE.out _ Q64.out.1.1.1.1.1.1.1.1.1.1.1.1.1.1.1.1.1.1.1).2.2.2.1 (by omega)).mono ?_; rintro e w65 ⟨r65, rfl, o65, b65⟩; have s65 := o65.sl e1_len; clear o65; have K65 := Lib.hid (Keeps.and K64.out (keeps_sl e1 1 r65 cs)); have Q65 := Lib.hid (And.intro (K64.out _ _ Q64.out b65) s65); clear b65 s65)
            | (go_at_call 40; refine (HLO.out _ _ _ (Q65.out.1.2) (Q65.out.2)).mono ?_; rintro e w66 ⟨rfl, b66⟩; have K66 := Lib.hid (Keeps.and K65.out (keeps_sl e1 1 (.slice (some ⟨w66.heap.size, 0, none⟩) 2 2) [ua, ub])); have Q66 := Lib.hid (And.intro (K65.out _ _ (K65.out _ _ Q65.out b66) (below_alloc1 w66 (.cells #[.int .i64 ua, .int .i64 ub] 66))) (sl2 w66 ua ub 66)); clear b66; obtain ⟨g0, g1, g2⟩ := (HPE.out _ Q66.out.1.1.1.1.1.1.1.1.1.1.1.1.1.1.1.1.1.1.1.1.1).1)
            | (go_at_call 17; clear V7; refine (CopyLine_any _ l _ (HPE.out _ Q66.out.1.1.1.1.1.1.1.1.1.1.1.1.1.1.1.1.1.1.1.1.1).2.1 (by omega)).mono ?_; rintro e w67 ⟨r67, rfl, s67, b67⟩; have K67 := Lib.hid (Keeps.and K66.out (keeps_sl e3 3 r67 l.ks)); have Q67 := Lib.hid (And.intro (K66.out _ _ Q66.out b67) s67); clear b67 s67 g0 g1 g2)
            | (go_at_call 19; clear V8; refine (CopyRanges_any _ ib _ (HPE.out _ Q67.out.1.1.1.1.1.1.1.1.1.1.1.1.1.1.1.1.1.1.1.1.1.1).2.2.2.2.1 (by omega)).mono ?_; rintro e w68 ⟨r68, rfl, o68, b68⟩; have s68 := o68.sl e2_len; clear o68; have K68 := Lib.hid (Keeps.and K67.out (keeps_sl e2 2 r68 ib)); have Q68 := Lib.hid (And.intro (K67.out _ _ Q67.out b68) s68); clear b68 s68)
            | (go_at_call 59; refine (HLI.out _ _ _ (Q68.out.1.2) (Q68.out.2)).mono ?_; rintro e w69 ⟨rfl, b69⟩; have K69 := Lib.hid (Keeps.and K68.out (keeps_sl e1 1 (.slice (some ⟨w69.heap.size, 0, none⟩) 2 2) [va, vb])); have Q69 := Lib.hid (And.intro (K68.out _ _ (K68.out _ _ Q68.out b69) (below_alloc1 w69 (.cells #[.int .i64 va, .int .i64 vb] 66))) (sl2 w69 va vb 66)); clear b69; obtain ⟨g0, g1, g2⟩ := (HPE.out _ Q69.out.1.1.1.1.1.1.1.1.1.1.1.1.1.1.1.1.1.1.1.1.1.1.1.1).1)
            | (go_at_call 17; clear V10; refine (CopyLine_any _ l _ (HPE.out _ Q69.out.1.1.1.1.1.1.1.1.1.1.1.1.1.1.1.1.1.1.1.1.1.1.1.1).2.1 (by omega)).mono ?_; rintro e w70 ⟨r70, rfl, s70, b70⟩; have K70 := Lib.hid (Keeps.and K69.out (keeps_sl e3 3 r70 l.ks)); have Q70 := Lib.hid (And.intro (K69.out _ _ Q69.out b70) s70); clear b70 s70 g0 g1 g2)
            | (go_at_call 19; refine (CopyRanges_any _ b _ (HPE.out _ Q70.out.1.1.1.1.1.1.1.1.1.1.1.1.1.1.1.1.1.1.1.1.1.1.1.1.1).2.2.1 (by omega)).mono ?_; rintro e w71 ⟨r71, rfl, o71, b71⟩; have s71 := o71.sl e2_len; clear o71; have K71 := Lib.hid (Keeps.and K70.out (keeps_sl e2 2 r71 b)); have Q71 := Lib.hid (And.intro (K70.out _ _ Q70.out b71) s71); clear b71 s71)
            | (go_at_call 60; refine (HEN.out _ _ _ (Q71.out.1.2) (Q71.out.2)).mono ?_; rintro e w72 ⟨rfl, b72⟩; have Q72 := Lib.hid (K71.out _ _ Q71.out b72); clear b72; obtain ⟨g0, g1, g2⟩ := (HPE.out _ Q72.out.1.1.1.1.1.1.1.1.1.1.1.1.1.1.1.1.1.1.1.1.1.1.1.1.1.1).1)
            | (go_at_call 17; refine (CopyLine_any _ l _ (HPE.out _ Q72.out.1.1.1.1.1.1.1.1.1.1.1.1.1.1.1.1.1.1.1.1.1.1.1.1.1.1).2.1 (by omega)).mono ?_; rintro e w73 ⟨r73, rfl, s73, b73⟩; have K73 := Lib.hid (Keeps.and K71.out (keeps_sl e3 3 r73 l.ks)); have Q73 := Lib.hid (And.intro (K71.out _ _ Q72.out b73) s73); clear b73 s73 g0 g1 g2)
            | (go_at_call 29; refine (CopyInts_any _ cs _ (HPE.out _ Q73.out.1.1.1.1.1.1.1.1.1.1.1.1.1.1.1.1.1.1.1.1.1.1.1.1.1.1.1).2.2.2.1 (by omega)).mono ?_; rintro e w74 ⟨r74, rfl, o74, b74⟩; have s74 := o74.sl e1_len; clear o74; have K74 := Lib.hid (Keeps.and K73.out (keeps_sl e1 1 r74 cs)); have Q74 := Lib.hid (And.intro (K73.out _ _ Q73.out b74) s74); clear b74 s74)
            | (go_at_call 41; refine (HLN.out _ _ _ (Q74.out.1.2) (Q74.out.2)).mono ?_; rintro e w75 ⟨rfl, b75⟩; have K75 := Lib.hid (Keeps.and K74.out (keeps_sl e1 1 (.slice (some ⟨w75.heap.size, 0, none⟩) 2 2) [za, zb])); have Q75 := Lib.hid (And.intro (K74.out _ _ (K74.out _ _ Q74.out b75) (below_alloc1 w75 (.cells #[.int .i64 za, .int .i64 zb] 66))) (sl2 w75 za zb 66)); clear b75; obtain ⟨x0, x1⟩ := box_cells (Q75.out.1.1.1.1.1.1.1.1.1.1.1.2); obtain ⟨x2, x3⟩ := box_cells (Q75.out.1.1.1.1.1.1.1.1.2); obtain ⟨x4, x5⟩ := box_cells (Q75.out.1.1.1.1.1.2); obtain ⟨x6, x7⟩ := box_cells (Q75.out.2)))
            go_ret
            exact ⟨rfl, (HPE.out _ Q75.out.1.1.1.1.1.1.1.1.1.1.1.1.1.1.1.1.1.1.1.1.1.1.1.1.1.1.1.1.1).2.2.2.2.2.2⟩
end Go.Proofs.Ytghglgaimhfedaa
