/-
  Walks of chapter 1's pulls: the iterator over pulls, which ranges over the iterator of lifts.
-/
import Derived.Test.YtghglgaimhfedaaZLi
import Derived.Test.YtghglgaimhfedaaQB
namespace Go.Proofs.Ytghglgaimhfedaa
open Go.RowKit Go.Shelf
attribute [local go_sem] Oper.semAt_some wide_fn wide_depth round_fn round_depth

theorem pre_get {α : Type} {pre xs : List α} {x : α} (h : (pre ++ [x]) <+: xs) : ∃ hl : pre.length < xs.length, xs[pre.length] = x := by
  obtain ⟨t, rfl⟩ := h
  exact ⟨by simp, by simp⟩
theorem Out.kep {F S : Nat → Prop} {N : Nat} {W W' : World} (h : Out F W W') (hF : Foot F W) (hS : ∀ k, S k → ¬ F k) : Kep N S W W' :=
  ⟨⟨h.size, fun k h1 h2 => h.block k h2 (hS k h1)⟩, fun i o _ h1 h2 => (h.block i (heap_lt h1) (hF.no h1 h2)).trans h1⟩
/-- What a loop within an iterator keeps: the body's footprint, and the iterator's own boxes. -/
def Mid {α β : Type} (J : (Nat → Prop) → List α → World → Prop) (xs : List α) (Pr T : Nat → Prop) (W0 : World) (pre : List β) (A : World) : Prop :=
  (∃ F, J F (xs.take pre.length) A ∧ Foot F A ∧ ∀ k, F k → ¬ Pr k) ∧ Kpt T W0 A
theorem own_mid {α β : Type} {B N : Nat} {J : (Nat → Prop) → List α → World → Prop} {xs : List α} {Pr T : Nat → Prop} {W0 : World} (hJ : OwnF B J) (hB : B ≤ N) (hN : N ≤ W0.heap.size) (hT : ∀ k, T k → k < N) :
    OwnFrom N (fun (pre : List β) A => Mid J xs Pr T W0 pre A) := by
  rintro s A C row ⟨⟨F, h1, h2, h3⟩, hk⟩ hg hr
  have hsame : ∀ k, F k → C.heap[k]? = A.heap[k]? := fun k hk => hg.block k (h2.lt hk) fun e => by
    obtain ⟨_, o, ho, hc⟩ := hr k e.symm
    exact h2.no ho hc hk
  exact ⟨⟨F, hJ F _ A C h1 ((Below.refl B A).grown hg (Nat.le_trans hB (Nat.le_trans hN hk.size)) (fun k e => Nat.le_trans hB (hr k e).1)) hsame, h2.same hsame, h3⟩,
    hk.trans ⟨hg.size, fun k h1 h2 => hg.block k h2 fun e => by have := (hr k e.symm).1; have := hT k h1; omega⟩⟩

set_option maxRecDepth 100000 in
set_option maxHeartbeats 4000000 in
theorem pulls_seq (Lx Bx : Nat) (v vb : Value) (l : Ln) (b : List (Int × Int)) (w : World) (hl : LnOk l) (hb : BoxOk l b)
    (hx : w.cell? ⟨Lx, 0, none⟩ = some (.int .i64 l.x)) (hz : w.cell? ⟨Lx, 1, none⟩ = some (.int .i64 l.z)) (hv : w.cell? ⟨Lx, 2, none⟩ = some v) (hvb : w.cell? ⟨Bx, 0, none⟩ = some vb)
    (hs : Sl e3 3 w v l.ks) (hu : Sl e2 2 w vb b)
    (S : Nat → Prop) (hSL : S Lx) (hSB : S Bx) (hSv : ∀ k, v.ownBlock = some k → S k) (hSb : ∀ k, vb.ownBlock = some k → S k) (hSlt : ∀ k, S k → k < w.heap.size) :
    SeqF Try.prog 140 #[.pointer (some ⟨Lx, 0, none⟩), .pointer (some ⟨Bx, 0, none⟩)] encP S (pulls l b) w := by
  intro lp J F0 W hW hJ hF0 hFS hY h0
  obtain ⟨A, c, rfl, hcap⟩ := hs.form
  obtain ⟨A', c', rfl, hcap'⟩ := hu.form
  have hLx : Lx < w.heap.size := hSlt _ hSL
  have hBx : Bx < w.heap.size := hSlt _ hSB
  have x0 := (hW.cell (p := ⟨Lx, 0, none⟩) hLx).trans hx
  have x1 := (hW.cell (p := ⟨Lx, 1, none⟩) hLx).trans hz
  have x2 := (hW.cell (p := ⟨Lx, 2, none⟩) hLx).trans hv
  have x3 := (hW.cell (p := ⟨Bx, 0, none⟩) hBx).trans hvb
  have hWs := hW.size
  have hLW : Lx < W.heap.size := by omega
  have hBW : Bx < W.heap.size := by omega
  have HS := Lib.hid (hs.below hW)
  have HU := Lib.hid (hu.below hW)
  have HL := Lib.hid hl
  have HB := Lib.hid hb
  have HY := Lib.hid hY
  have HJ := Lib.hid hJ
  have HSW : Hid (∀ k, S k → k < W.heap.size) := fun k hk => Nat.lt_of_lt_of_le (hSlt k hk) hWs
  have HSs := Lib.hid (And.intro hSL (And.intro hSB (And.intro hSv hSb)))
  have HF0 := Lib.hid (And.intro hF0 (And.intro hFS h0))
  clear hx hz hv hvb hs hu hl hb hY hJ hSlt hSL hSB hSv hSb hF0 hFS h0 hW
  refine callsIn_of_wp_marks Try.func140 rfl trivial ?_ rfl
  simp only [Try.ntmps140, List.size_toArray, List.length_cons, List.length_nil, Nat.reduceAdd, Nat.reduceSub, Array.replicate_succ, Array.replicate_zero, List.push_toArray, List.append_toArray, List.nil_append, List.cons_append]
  gi_wp2_with (gi_at_call 96; refine (atWide (lifts_any l _ _ ⟨_, _, _, rfl⟩)).mono ?_; rintro e w2 ⟨rfl, rfl⟩)
  obtain ⟨W1, hW1⟩ : ∃ W1, W1 = (W.alloc (.cells #[.func (.yield lp) #[] #[]] 175)).alloc (.cells #[.int .i64 l.x, .int .i64 l.x] 66) := ⟨_, rfl⟩
  obtain ⟨W0, hW0⟩ : ∃ W0, W0 = W1.alloc (.cells #[.int .i64 l.x, .int .i64 l.z, .slice A l.ks.length c] 137) := ⟨_, rfl⟩
  rw [← hW1, ← hW0]
  have z1 : W1.heap.size = W.heap.size + 2 := by rw [hW1]; simp
  have z0 : W0.heap.size = W.heap.size + 3 := by rw [hW0]; simp [z1]
  have hWb : Below W.heap.size W W0 := by rw [hW0, hW1]; exact below_al (below_al (below_alloc1 _ _) _) _
  obtain ⟨bx, by'⟩ := box2 W #[.func (.yield lp) #[] #[]] #[.int .i64 l.x, .int .i64 l.x] 175 66
  have aY : At W0 ⟨W.heap.size, 0, none⟩ (.func (.yield lp) #[] #[]) := by rw [hW0, hW1]; exact (bx 0 _ rfl).al _
  have aX0 : At W0 ⟨W.heap.size + 1, 0, none⟩ (.int .i64 (xb l b 0).1) := by rw [hW0, hW1]; exact (by' 0 _ rfl).al _
  have aX1 : At W0 ⟨W.heap.size + 1, 1, none⟩ (.int .i64 (xb l b 0).2) := by rw [hW0, hW1]; exact (by' 1 _ rfl).al _
  have aL : ∀ j v, (#[Value.int .i64 l.x, .int .i64 l.z, .slice A l.ks.length c] : Array Value)[j]? = some v → W0.cell? ⟨W1.heap.size, j, none⟩ = some v := by
    intro j v hv
    rw [hW0]; exact (At.new W1 _ 137 j v hv).1
  have aL1 := aL 1 _ rfl
  have aL2 := aL 2 _ rfl
  clear aL bx by' hW0 hW1
  have hsW := HS.out.below hWb
  have hxe : (⟨W.heap.size + 1 + 1, 0, none⟩ : Addr) = ⟨W1.heap.size, 0, none⟩ := by rw [z1]
  rw [hxe]
  obtain ⟨T, hT⟩ : ∃ T : Nat → Prop, T = fun k => S k ∨ k = W.heap.size ∨ k = W1.heap.size := ⟨_, rfl⟩
  obtain ⟨Pr, hPr⟩ : ∃ Pr : Nat → Prop, Pr = fun k => S k ∨ (W.heap.size ≤ k ∧ k < W0.heap.size) := ⟨_, rfl⟩
  have hTlt : ∀ k, T k → k < W0.heap.size := by
    rw [hT]
    rintro k (h | rfl | rfl)
    · have := HSW.out k h; omega
    · omega
    · omega
  have hTPr : ∀ k, T k → Pr k := by
    rw [hT, hPr]
    rintro k (h | rfl | rfl)
    · exact .inl h
    · exact .inr ⟨by omega, by omega⟩
    · exact .inr ⟨by omega, by omega⟩
  have HT := Lib.hid (And.intro hTlt hTPr)
  have hM0 : Mid J (pulls l b) Pr T W0 ([] : List (Nat × Int)) W0 := by
    refine ⟨⟨F0, ?_, HF0.out.1.below hWb, fun k hk => ?_⟩, ⟨Nat.le_refl _, fun _ _ _ => rfl⟩⟩
    · exact HJ.out.call HF0.out.2.2 HF0.out.1 hWb (Nat.le_refl _)
    · rw [hPr]
      rintro (h | h)
      · exact HF0.out.2.1 k hk h
      · have := HF0.out.1.lt hk; omega
  refine wp_rangeX (gf := 139) (lb := #[.pointer (some ⟨W1.heap.size, 0, none⟩)]) rfl (enters_of Try.func139 (by kernel_rfl) rfl)
    (lifts_seq W1.heap.size _ l W0 HL.out aL1 aL2 hsW T (by rw [hT]; exact .inr (.inr rfl)) (fun k hk => by rw [hT]; exact .inl (HSs.out.2.2.1 k hk))) (Below.refl _ _)
    hTlt (fun _ => rfl)
    (fun pre A => Mid J (pulls l b) Pr T W0 pre A ∧ At A ⟨W.heap.size + 1, 0, none⟩ (.int .i64 (xb l b pre.length).1) ∧ At A ⟨W.heap.size + 1, 1, none⟩ (.int .i64 (xb l b pre.length).2))
    (fun _ _ _ => False)
    (OwnFrom.and (own_mid HJ.out (by omega) (Nat.le_refl _) hTlt) (OwnFrom.and (own_at _ _ fun pre => _) (own_at _ _ fun pre => _)))
    (fun _ _ _ _ _ h _ _ => h) ⟨hM0, aX0, aX1⟩ ?round ?done ?stop
  case round =>
    rintro lr pre ⟨i, z⟩ W2 hlr hlt hpre ⟨hM, hX0, hX1⟩
    obtain ⟨hkl, hget⟩ := pre_get hpre
    rw [lifts_at] at hget
    obtain ⟨hi, hz⟩ : pre.length = i ∧ (zs l).getD pre.length 0 = z := by
      injection hget with h1 h2
      exact ⟨h1, h2⟩
    have hkn : pre.length < l.ks.length := by rwa [lifts_len] at hkl
    have zs2 := (zb_succ l pre.length hkn).2
    rw [hz] at zs2
    have HLS : Hid ((pre ++ [(i, z)]).length = pre.length + 1) := by show _ = _; simp
    clear hget hkl hpre hlt hz
    generalize pre ++ [(i, z)] = pre' at *
    obtain ⟨k, hk⟩ : ∃ k, k = pre.length := ⟨_, rfl⟩
    rw [← hk] at hkn hi zs2 hX0 hX1
    rw [← hk] at HLS
    subst hi
    have HK := Lib.hid hk
    clear hk
    simp only [encL]
    gi_wp2
    refine ⟨Kep.refl _ _ _, fun W3 hTn => ?_⟩
    have hM3 := hTn.own (own_mid HJ.out (by omega) (Nat.le_refl _) HT.out.1) hM
    have hX03 := hX0.turn hTn
    have hX13 := hX1.turn hTn
    obtain ⟨⟨F, hJF, hFF, hFP⟩, hKT⟩ := hM3
    rw [← HK.out] at hJF
    have hT' := hT
    have tL : T Lx := by rw [hT]; exact .inl HSs.out.1
    have tB : T Bx := by rw [hT]; exact .inl HSs.out.2.1
    have tY : T W.heap.size := by rw [hT]; exact .inr (.inl rfl)
    have q0 := ((hKT.cell (p := ⟨Lx, 0, none⟩) tL (by show Lx < _; omega)).trans (hWb.cell (p := ⟨Lx, 0, none⟩) hLW)).trans x0
    have q1 := ((hKT.cell (p := ⟨Lx, 1, none⟩) tL (by show Lx < _; omega)).trans (hWb.cell (p := ⟨Lx, 1, none⟩) hLW)).trans x1
    have q2 := ((hKT.cell (p := ⟨Lx, 2, none⟩) tL (by show Lx < _; omega)).trans (hWb.cell (p := ⟨Lx, 2, none⟩) hLW)).trans x2
    have q3 := ((hKT.cell (p := ⟨Bx, 0, none⟩) tB (by show Bx < _; omega)).trans (hWb.cell (p := ⟨Bx, 0, none⟩) hBW)).trans x3
    have q4 := (hKT.cell (p := ⟨W.heap.size, 0, none⟩) tY (by show W.heap.size < _; omega)).trans aY.1
    have hs3 := Sl.kpt (HS.out.below hWb) hKT (fun k hk => by rw [hT]; exact .inl (HSs.out.2.2.1 k hk))
    have hu3 := Sl.kpt (HU.out.below hWb) hKT (fun k hk => by rw [hT]; exact .inl (HSs.out.2.2.2 k hk))
    have hz3 := hKT.size
    obtain ⟨⟨g1, g2⟩, g3, g4⟩ := xb_bd HL.out HB.out k (by omega)
    have HC := Lib.hid (carried_any _ _ l b (xb l b k) k 1 ((k : Int) + 1) (by omega) W3 hs3 hu3 HL.out HB.out ⟨⟨by omega, by omega⟩, by omega, by omega⟩ hkn)
    have HM := Lib.hid (And.intro hJF (And.intro hFF (And.intro hFP hKT)))
    have HX := Lib.hid (And.intro hX03 hX13)
    have KS := Lib.hid (And.intro hs3 hu3)
    have r0 := hX03.1
    have r1 := hX13.1
    have r2 := hX03.2
    have r3 := hX13.2
    have HZ := Lib.hid zs2
    have HP := Lib.hid (pulls_succ HB.out k hkn (by rw [pulls_len HB.out]; exact hkn))
    have HTe := Lib.hid hT
    have HPe := Lib.hid hPr
    clear hM hX0 hX1 hTn hX03 hX13 hJF hFF hFP hKT hs3 hu3 zs2 x0 x1 x2 x3 aL1 aL2 hsW hM0 aX0 aX1 hT' hT hPr hTlt hTPr tL tB tY aY
    generalize xb l b k = xk at *
    generalize carr l.ks b xk k 1 = yk at *
    obtain ⟨xlo, xhi⟩ := xk
    obtain ⟨ylo, yhi⟩ := yk
    simp only at *
    have hw1 : IntKind.i64.wrap ((k : Int) + 1) = (k : Int) + 1 := IntWalk.i64_in _ (by have := HL.out.n1; omega)
    gi_wp2_with (gi_at_call 141; refine (inRnd lr HC.out).mono ?_; rintro e W4 ⟨rfl, hb4⟩; obtain ⟨e0, e1, e2⟩ := bcell hb4; have e3 : W.heap.size + 1 < W3.heap.size := by omega)
    obtain ⟨W5, hW5⟩ : ∃ W5, W5 = (W4.setCell ⟨W.heap.size + 1, 0, none⟩ (.int .i64 ylo)).setCell ⟨W.heap.size + 1, 1, none⟩ (.int .i64 yhi) := ⟨_, rfl⟩
    rw [← hW5]
    have nT : ¬ T (W.heap.size + 1) := by
      rw [HTe.out]
      rintro (h | h | h)
      · have := HSW.out _ h; omega
      · omega
      · omega
    have pX : Pr (W.heap.size + 1) := by rw [HPe.out]; exact .inr ⟨by omega, by omega⟩
    have hX5 : At W5 ⟨W.heap.size + 1, 0, none⟩ (.int .i64 ylo) ∧ At W5 ⟨W.heap.size + 1, 1, none⟩ (.int .i64 yhi) := by
      rw [hW5]; exact ⟨((HX.out.1.below hb4).set).other (by simp), ((HX.out.2.below hb4).other (by simp)).set⟩
    have hk5 : Kep W0.heap.size T W3 W5 := by rw [hW5]; exact Kep.setCell (Kep.setCell ((Kep.refl _ _ _).call hb4) nT _) nT _
    have hb5 : Below W.heap.size W3 W5 := by rw [hW5]; exact ((hb4.mono (by omega)).setCell (p := ⟨W.heap.size + 1, 0, none⟩) (by simp) _).setCell (p := ⟨W.heap.size + 1, 1, none⟩) (by simp) _
    obtain ⟨hJF, hFF, hFP, hKT⟩ := HM.out
    have hF5 : ∀ j, F j → W5.heap[j]? = W3.heap[j]? := by
      intro j hj
      have hne : j ≠ W.heap.size + 1 := fun e => hFP j hj (e ▸ pX)
      rw [hW5, Below.heap_setCell _ _ _ _ hne, Below.heap_setCell _ _ _ _ hne]
      exact hb4.block j (hFF.lt hj)
    have hJ6 : J F ((pulls l b).take k) W5.drew := HJ.out F _ W3 _ hJF hb5.drew hF5
    have hF6 : Foot F W5.drew := hFF.same hF5
    have hkp : k < (pulls l b).length := by rw [pulls_len HB.out]; exact hkn
    obtain ⟨fn, tmps, assign, body, hy, hR⟩ := HY.out F _ _ _ (take_pre (pulls l b) k hkp) hJ6 hF6
    rw [HP.out.1] at hy
    dsimp only [encP] at hy
    have hR1 : RoundIn (Fence.wide.inRound lr) 0 Try.prog lp fn tmps assign body W5.drew _ := hR
    obtain ⟨b1, off, rfl, hbl, hc0', hc1', hc2'⟩ := KS.out.1.at3 hkn
    have tL : T Lx := by rw [HTe.out]; exact .inl HSs.out.1
    have tY : T W.heap.size := by rw [HTe.out]; exact .inr (.inl rfl)
    have t1 : T b1 := by rw [HTe.out]; exact .inl (HSs.out.2.2.1 b1 rfl)
    have hc0 := (hk5.kpt.cell (p := ⟨b1, off + k * 3, none⟩) t1 hbl).trans hc0'
    have hc1 := (hk5.kpt.cell (p := ⟨b1, off + k * 3 + 1, none⟩) t1 hbl).trans hc1'
    have hc2 := (hk5.kpt.cell (p := ⟨b1, off + k * 3 + 2, none⟩) t1 hbl).trans hc2'
    have p0 := (hk5.kpt.cell (p := ⟨Lx, 0, none⟩) tL (by show Lx < _; omega)).trans q0
    have p1 := (hk5.kpt.cell (p := ⟨Lx, 1, none⟩) tL (by show Lx < _; omega)).trans q1
    have p2 := (hk5.kpt.cell (p := ⟨Lx, 2, none⟩) tL (by show Lx < _; omega)).trans q2
    have p4 := (hk5.kpt.cell (p := ⟨W.heap.size, 0, none⟩) tY (by show W.heap.size < _; omega)).trans q4
    have p5 := hX5.1.1
    have p6 := hX5.2.1
    have hkl' : (k : Int) < (l.ks.length : Int) := by omega
    have hne : l.ks ≠ [] := by rintro h; rw [h] at hkn; simp at hkn
    have H5 := Lib.hid (And.intro hX5 (And.intro hk5 (And.intro hF6 (And.intro hFP hKT))))
    clear q0 q1 q2 q3 q4 r0 r1 r2 r3 hc0' hc1' hc2' hX5 hk5 hb5 hF5 hJ6 hF6 hJF hFF hFP hKT hW5 hb4 e0 e1 e2 e3 hR HC hw1 nT pX t1 tL tY
    have hmix : Try.prog.follows .mixedOrders = true := by kernel_rfl
    refine wpIn_region_still_tail (open_round lr) 10 hmix (by kernel_rfl) (by kernel_rfl) ?_
    simp only [List.take_succ_cons, List.take_zero, List.drop_succ_cons, List.drop_zero]
    repeat still_step
    try refine wpStill_nil ?_
    gi_wp2_with (refine hR1.mono ?_; rintro e W6 ⟨rfl, hO⟩)
    obtain ⟨F', hJ7, hF7, hfr, hout⟩ := hO
    obtain ⟨hX5, hk5, hF6, hFP, hKT⟩ := H5.out
    have hk6 : Kep W0.heap.size T W3 W6 := hk5.drew.trans (hout.kep hF6 (fun j hj hf => hFP j hf (HT.out.2 j hj)))
    have xlt : W.heap.size + 1 < W5.heap.size := hX5.1.lt
    have hk5s := hk5.kpt.size
    have nF : ¬ F (W.heap.size + 1) := fun h => hFP _ h (by rw [HPe.out]; exact .inr ⟨by omega, by omega⟩)
    have hsame := hout.block (W.heap.size + 1) xlt nF
    refine ⟨hk6, ⟨⟨F', ?_, hF7, ?_⟩, hKT.trans hk6.kpt⟩, ?_, ?_⟩
    · rw [HLS.out, List.take_succ_eq_append_getElem hkp]; exact hJ7
    · intro j hj hp
      rcases hfr j hj with h | h
      · exact hFP j h hp
      · rw [HPe.out] at hp
        have h' : W5.heap.size ≤ j := h
        rcases hp with hp | hp
        · have := HSW.out j hp; omega
        · omega
    · rw [HLS.out, HP.out.2]; exact At.same (W := W5) hX5.1 hsame
    · rw [HLS.out, HP.out.2]; exact At.same (W := W5) hX5.2 hsame
  case done =>
    rintro D Wd hD ⟨hM, hX0, hX1⟩ hK
    obtain ⟨⟨F, hJF, hFF, _⟩, _⟩ := hM
    have hfin : (pulls l b).take (lifts l).length = pulls l b := List.take_of_length_le (by rw [lifts_len, pulls_len HB.out]; omega)
    rw [hfin] at hJF
    have hT9 : Turn D Wd (Wd.putObj D (.deferred none)) := ⟨D, _, _, Nat.le_refl _, hK, rfl, rfl, rfl⟩
    have h1 := HJ.out.turn hJF hFF hT9 (by omega)
    have h2 := hFF.turn hT9
    have H9 := Lib.hid (And.intro h1 h2)
    clear hJF hFF h1 h2 hX0 hX1 hT9 hfin x0 x1 x2 x3 aL1 aL2 hsW hM0 aX0 aX1 hT hPr hTlt hTPr aY
    gi_wp2
    refine ⟨by simp, .inl ⟨_, _, rfl, run_takeDeferred hK, ?_⟩⟩
    exact ⟨_, results_none rfl _ _ _, ⟨_, rfl⟩, F, H9.out.1, H9.out.2⟩
  case stop =>
    rintro D c pre W _ _ h _
    exact h.elim
end Go.Proofs.Ytghglgaimhfedaa
