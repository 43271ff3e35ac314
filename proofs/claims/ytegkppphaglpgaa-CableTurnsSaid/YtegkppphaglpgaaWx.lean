/-
  Walks of chapter 1's turns: what ranges over the ways of a path: the winding, and whether a post lies on the path.
-/
import Derived.Test.YtegkppphaglpgaaWv
namespace Go.Proofs.Ytegkppphaglpgaa
open Go.RowKit Go.Shelf
attribute [local go_sem] Oper.semAt_some wide_fn wide_depth round_fn round_depth

theorem sum_snoc (l : List Int) (x : Int) : (l ++ [x]).sum = l.sum + x := by simp
theorem pre_len {α : Type} {pre xs : List α} {x : α} (h : pre ++ [x] <+: xs) : pre.length < xs.length := by have := h.length_le; simp at this; omega
theorem pre_mem {α : Type} {pre xs : List α} {x : α} (h : pre ++ [x] <+: xs) : x ∈ xs := h.subset (by simp)

set_option maxHeartbeats 400000 in
theorem winding_any (v : Value) (path : List Pt) (p : Pt) (w : World) (hs : Sl e2 2 w v path) (h0 : 0 < path.length) (h30 : path.length ≤ 30) (hsm : ∀ x ∈ ways path, Sm x.1 ∧ Sm x.2) (hp : Sm p) :
    Calls Try.prog 129 #[v, .agg #[.int .i64 p.1, .int .i64 p.2]] w fun e w' => e = .returned (.int .i64 (winding path p)) ∧ Below w.heap.size w w' := by
  have hvb := hs.blk h0
  obtain ⟨A, c, rfl, hcap⟩ := hs.form
  refine (callsIn_wide (n := 0)).1 ?_
  refine callsIn_of_wp_marks Try.func129 rfl trivial ?_ rfl
  simp only [Try.ntmps129, List.size_toArray, List.length_cons, List.length_nil, Nat.reduceAdd, Nat.reduceSub, Array.replicate_succ, Array.replicate_zero, List.push_toArray, List.append_toArray, List.nil_append, List.cons_append]
  have HV := Lib.hid hvb
  have HS := Lib.hid hs
  have HM := Lib.hid hsm
  clear hvb hs hsm
  have h1 := h0
  gi_wp2_with (gi_at_call 156; refine (atWide (ways_any _ _ _ _)).mono ?_; rintro e w1 ⟨rfl, rfl⟩)
  obtain ⟨W0, hW0⟩ : ∃ W0, W0 = ((w.alloc (.cells #[.int .i64 p.1, .int .i64 p.2] 61)).alloc (.cells #[.int .i64 0] 3)).alloc (.cells #[.slice A path.length c] 112) := ⟨_, rfl⟩
  rw [← hW0]
  have hb0 : Below w.heap.size w W0 := by rw [hW0]; exact below_al (below_al (below_alloc1 _ _) _) _
  have hz0 : w.heap.size + 3 ≤ W0.heap.size := by rw [hW0]; simp
  have aT : At W0 ⟨w.heap.size + 1, 0, none⟩ (.int .i64 0) := by
    rw [hW0]; have := (At.new (w.alloc (.cells #[.int .i64 p.1, .int .i64 p.2] 61)) #[.int .i64 0] 3 0 _ rfl).below (below_alloc1 _ (.cells #[.slice A path.length c] 112)); simpa using this
  have aP : ∀ j v, (#[Value.int .i64 p.1, .int .i64 p.2] : Array Value)[j]? = some v → At W0 ⟨w.heap.size, j, none⟩ v := by
    intro j v hv
    rw [hW0]; exact ((At.new w _ 61 j v hv).below (below_alloc1 _ _)).below (below_alloc1 _ _)
  have aB : W0.cell? ⟨w.heap.size + 2, 0, none⟩ = some (.slice A path.length c) := by
    rw [hW0]; have := (At.new ((w.alloc (.cells #[.int .i64 p.1, .int .i64 p.2] 61)).alloc (.cells #[.int .i64 0] 3)) #[.slice A path.length c] 112 0 _ rfl).1; simpa using this
  have aP1 := aP 0 _ rfl
  have aP2 := aP 1 _ rfl
  have hsW := HS.out.below hb0
  clear aP hW0
  refine wp_rangeX (gf := 159) (lb := #[.pointer (some ⟨w.heap.size + 1 + 1, 0, none⟩)]) rfl (enters_of Try.func159 (by kernel_rfl) rfl)
    (ways_seq (w.heap.size + 2) _ path W0 h30 (by omega) aB hsW (fun k => k = w.heap.size + 2 ∨ (Value.slice A path.length c).ownBlock = some k) (.inl rfl) (fun b hb => .inr hb)) (Below.refl _ _)
    (by
      rintro k (rfl | hk)
      · omega
      · have := HV.out k hk; omega) (fun _ => rfl)
    (fun pre W => (At W ⟨w.heap.size + 1, 0, none⟩ (.int .i64 (pre.map fun x => cross x.1 x.2 p).sum) ∧ At W ⟨w.heap.size, 0, none⟩ (.int .i64 p.1) ∧ At W ⟨w.heap.size, 1, none⟩ (.int .i64 p.2)) ∧ Below w.heap.size w W)
    (fun _ _ _ => False)
    (OwnFrom.and (OwnFrom.and (own_at _ _ _) (OwnFrom.and (own_at _ _ fun _ => _) (own_at _ _ fun _ => _))) (ownFrom_below (Nat.le_refl _) (by omega)))
    (fun _ _ _ _ _ h _ _ => h) ⟨⟨aT, aP1, aP2⟩, hb0⟩ ?round ?done ?stop
  case round =>
    rintro l pre ⟨⟨a1, a2⟩, ⟨b1, b2⟩⟩ W hl hlt hpre ⟨⟨hT, hP1, hP2⟩, hB⟩
    have hsm := HM.out _ (pre_mem hpre)
    have hn := pre_len hpre
    rw [ways_len] at hn
    have hcr := fun w => crossing_any (a1, a2) (b1, b2) p w hsm.1 hsm.2 hp
    have hbd := sum_bd (pre.map fun x => cross x.1 x.2 p) (by intro y hy; obtain ⟨x, _, rfl⟩ := List.mem_map.1 hy; exact cross_bd _ _ _)
    rw [List.length_map] at hbd
    have hbc := cross_bd (a1, a2) (b1, b2) p
    have HC := Lib.hid hcr
    clear hcr hsm
    have hsn : ((pre ++ [((a1, a2), (b1, b2))]).map fun x => cross x.1 x.2 p).sum = (pre.map fun x => cross x.1 x.2 p).sum + cross (a1, a2) (b1, b2) p := by simp
    have HN := Lib.hid hsn
    clear hsn
    generalize (pre.map fun x => cross x.1 x.2 p).sum = sm at *
    generalize cross (a1, a2) (b1, b2) p = cr at *
    simp only [encW]
    gi_wp2
    refine ⟨((Kep.refl _ _ _).alloc _).alloc _, fun W2 hTn => ?_⟩
    obtain ⟨x1, y1⟩ := box2 W #[.int .i64 a1, .int .i64 a2] #[.int .i64 b1, .int .i64 b2] 61 61
    obtain ⟨c1, f1⟩ := (x1 0 _ rfl).turn hTn
    obtain ⟨c2, f2⟩ := (x1 1 _ rfl).turn hTn
    obtain ⟨c3, f3⟩ := (y1 0 _ rfl).turn hTn
    obtain ⟨c4, f4⟩ := (y1 1 _ rfl).turn hTn
    have hT2 := ((hT.al (.cells #[.int .i64 a1, .int .i64 a2] 61)).al (.cells #[.int .i64 b1, .int .i64 b2] 61)).turn hTn
    have hP12 := ((hP1.al (.cells #[.int .i64 a1, .int .i64 a2] 61)).al (.cells #[.int .i64 b1, .int .i64 b2] 61)).turn hTn
    have hP22 := ((hP2.al (.cells #[.int .i64 a1, .int .i64 a2] 61)).al (.cells #[.int .i64 b1, .int .i64 b2] 61)).turn hTn
    have hB2 : Below w.heap.size w W2 := (below_al (below_al hB _) _).trans (hTn.below (by omega))
    have hz2 := hTn.size
    simp at hz2
    have hWs := hT.lt
    simp only at hWs
    have g1 : w.heap.size + 1 < W2.heap.size := by omega
    have g2 : w.heap.size < W2.heap.size := by omega
    have g3 : W.heap.size < W2.heap.size := by omega
    have g4 : W.heap.size + 1 < W2.heap.size := by omega
    clear hz2
    obtain ⟨c5, f5⟩ := hT2
    have c6 := hP12.1
    have c7 := hP22.1
    have KB := Lib.hid hB2
    have KT := Lib.hid hTn
    have KP := Lib.hid (And.intro hP12 hP22)
    clear x1 y1 hT hP1 hP2 hB hB2 hTn hP12 hP22 f1 f2 f3 f4
    have hw : IntKind.i64.wrap (sm + cr) = sm + cr := IntWalk.i64_in _ (by omega)
    have fin : ∀ W3, Below W2.drew.heap.size W2.drew W3 → Kep W0.heap.size (fun k => k = w.heap.size + 2 ∨ (Value.slice A path.length c).ownBlock = some k) W2 (W3.setCell ⟨w.heap.size + 1, 0, none⟩ (.int .i64 (sm + cr))) ∧
        (At (W3.setCell ⟨w.heap.size + 1, 0, none⟩ (.int .i64 (sm + cr))) ⟨w.heap.size + 1, 0, none⟩ (.int .i64 (((pre ++ [((a1, a2), (b1, b2))]).map fun x => cross x.1 x.2 p).sum)) ∧
          At (W3.setCell ⟨w.heap.size + 1, 0, none⟩ (.int .i64 (sm + cr))) ⟨w.heap.size, 0, none⟩ (.int .i64 p.1) ∧ At (W3.setCell ⟨w.heap.size + 1, 0, none⟩ (.int .i64 (sm + cr))) ⟨w.heap.size, 1, none⟩ (.int .i64 p.2)) ∧
        Below w.heap.size w (W3.setCell ⟨w.heap.size + 1, 0, none⟩ (.int .i64 (sm + cr))) := by
      intro W3 hb3
      refine ⟨Kep.setCell (((Kep.refl _ _ _).drew).call hb3) ?_ _, ⟨?_, ?_, ?_⟩, below_set (below_tr KB.out.drew hb3) (by show w.heap.size ≤ w.heap.size + 1; omega) _⟩
      · rintro (h | h)
        · simp at h
        · have := HV.out _ h; simp at this; omega
      · rw [HN.out]; exact (At.below (W := W2.drew) ⟨c5, f5⟩ hb3).set
      · exact (KP.out.1.drew.below hb3).other (by simp)
      · exact (KP.out.2.drew.below hb3).other (by simp)
    have HF := Lib.hid fin
    clear fin
    have hmix : Try.prog.follows .mixedOrders = true := by kernel_rfl
    gi_wp2
    gi_region_with_o (gi_at_call 158; refine (inRnd l (HC.out _)).mono ?_; rintro e W3 ⟨rfl, hb3⟩; have k5 := (hb3.cell (p := ⟨w.heap.size + 1, 0, none⟩) g1).trans c5; have j5 := (hb3.frozen (p := ⟨w.heap.size + 1, 0, none⟩) g1).trans f5)
    all_goals
      gi_wp2
      exact HF.out _ hb3
  case done =>
    rintro D W hD ⟨⟨hT, _⟩, hB⟩ hK
    obtain ⟨hT1, hT2⟩ := hT
    gi_wp2
    refine ⟨by simp, .inl ⟨_, _, rfl, run_takeDeferred hK, ?_⟩⟩
    exact ⟨_, results_tmp rfl _ _ _, rfl, below_put hB (Nat.le_refl _) (by omega) hK⟩
  case stop =>
    rintro D c pre W _ _ h _
    exact h.elim
end Go.Proofs.Ytegkppphaglpgaa
