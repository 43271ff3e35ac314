/-
  Walks of chapter 1's turns: posts that lie on a path (a range over the ways that is left early).
-/
import Derived.Test.YtegkppphaglpgaaWy
namespace Go.Proofs.Ytegkppphaglpgaa
open Go.RowKit Go.Shelf
attribute [local go_sem] Oper.semAt_some wide_fn wide_depth round_fn round_depth

theorem postErr_bad {path : List Pt} {p : Pt} (h : placeOk p = false) : postErr path p = 2 := by unfold postErr; rw [h]; rfl
theorem postErr_on {path : List Pt} {p : Pt} (h : placeOk p = true) (x : Pt × Pt) (hx : x ∈ ways path) (ho : onWay x.1 x.2 p = true) : postErr path p = 13 := by
  unfold postErr; rw [if_pos h, if_pos (List.any_eq_true.2 ⟨x, hx, ho⟩)]
theorem postErr_ok {path : List Pt} {p : Pt} (h : placeOk p = true) (ho : ∀ x ∈ ways path, onWay x.1 x.2 p = false) : postErr path p = 0 := by
  unfold postErr; rw [if_pos h, if_neg]
  intro hc
  obtain ⟨x, hx, h1⟩ := List.any_eq_true.1 hc
  rw [ho x hx] at h1; cases h1

def NoneOn (p : Pt) (l : List (Pt × Pt)) : Prop := ∀ x ∈ l, onWay x.1 x.2 p = false
def SomeOn (p : Pt) (l : List (Pt × Pt)) : Prop := ∃ x ∈ l, onWay x.1 x.2 p = true
theorem NoneOn.snoc {p : Pt} {l : List (Pt × Pt)} {x : Pt × Pt} (h : NoneOn p l) (hx : onWay x.1 x.2 p = false) : NoneOn p (l ++ [x]) := by
  intro y hy
  rcases List.mem_append.1 hy with hy | hy
  · exact h y hy
  · rw [List.mem_singleton.1 hy]; exact hx
theorem SomeOn.snoc {p : Pt} (l : List (Pt × Pt)) {x : Pt × Pt} (hx : onWay x.1 x.2 p = true) : SomeOn p (l ++ [x]) := ⟨x, by simp, hx⟩
set_option maxHeartbeats 2000000 in
theorem postError_any (v : Value) (path : List Pt) (p : Pt) (w : World) (hs : Sl e2 2 w v path) (h0 : 0 < path.length) (h30 : path.length ≤ 30) (hsm : ∀ x ∈ ways path, Sm x.1 ∧ Sm x.2) :
    Calls Try.prog 128 #[v, .agg #[.int .i64 p.1, .int .i64 p.2]] w fun e w' => e = .returned (.int .i64 (postErr path p)) ∧ Below w.heap.size w w' := by
  have hvb := hs.blk h0
  obtain ⟨A, c, rfl, hcap⟩ := hs.form
  have HP := Lib.hid (placeError_any p)
  cases hok : placeOk p
  · have E : Hid (postErr path p = 2) := postErr_bad hok
    have E2 : placeErr p = 2 := by unfold placeErr; rw [hok]; rfl
    rw [E2] at HP
    clear hok E2 hs hvb
    go_enter Try.func128, Try.ntmps128
    go_wp2_with (go_at_call 155; refine (HP.out _).mono ?_; rintro e w1 ⟨rfl, hb1⟩; have k5 := (hb1.cell (p := ⟨w.heap.size + 1, 0, none⟩) (by simp)); have j5 := (hb1.frozen (p := ⟨w.heap.size + 1, 0, none⟩) (by simp)); simp at k5 j5)
    refine bodyPost_ret (v := .int .i64 2) (by simp [results, Try.results128, go_sem, k5]) rfl ⟨ret_int E.out.symm, below_set (below_tr (below_al (below_alloc1 _ _) _) hb1) (by show w.heap.size ≤ w.heap.size + 1; omega) _⟩
  · have E0 : placeErr p = 0 := by unfold placeErr; rw [hok]; rfl
    rw [E0] at HP
    have hp := Sm.of hok
    have HO := Lib.hid hok
    have HV := Lib.hid hvb
    have HS := Lib.hid hs
    have HM := Lib.hid hsm
    clear E0 hok hvb hs hsm
    refine (callsIn_wide (n := 0)).1 ?_
    refine callsIn_of_wp_marks Try.func128 rfl trivial ?_ rfl
    simp only [Try.ntmps128, List.size_toArray, List.length_cons, List.length_nil, Nat.reduceAdd, Nat.reduceSub, Array.replicate_succ, Array.replicate_zero, List.push_toArray, List.append_toArray, List.nil_append, List.cons_append]
    gi_wp2_with (first
      | (gi_at_call 155; refine (atWide (HP.out _)).mono ?_; rintro e w1 ⟨rfl, hb1⟩)
      | (gi_at_call 156; refine (atWide (ways_any _ _ _ _)).mono ?_; rintro e w2 ⟨rfl, rfl⟩))
    obtain ⟨W0, hW0⟩ : ∃ W0, W0 = w1.alloc (.cells #[.slice A path.length c] 112) := ⟨_, rfl⟩
    rw [← hW0]
    have hb01 : Below w.heap.size w w1 := below_tr (below_al (below_alloc1 _ _) _) hb1
    have hb0 : Below w.heap.size w W0 := by rw [hW0]; exact below_al hb01 _
    have hz1 : w.heap.size + 2 ≤ w1.heap.size := by have := hb1.size; simpa using this
    have hz0 : w1.heap.size + 1 ≤ W0.heap.size := by rw [hW0]; simp
    have aR : At W0 ⟨w.heap.size + 1, 0, none⟩ (.int .i64 0) := by
      rw [hW0]
      have h1 := At.new (w.alloc (.cells #[.int .i64 p.1, .int .i64 p.2] 61)) #[.int .i64 0] 30 0 _ rfl
      have h2 := (h1.below hb1).al (.cells #[.slice A path.length c] 112)
      simpa using h2
    have aP : ∀ j v, (#[Value.int .i64 p.1, .int .i64 p.2] : Array Value)[j]? = some v → At W0 ⟨w.heap.size, j, none⟩ v := by
      intro j v hv
      rw [hW0]
      exact ((((At.new w _ 61 j v hv).al _).below hb1).al _)
    have aP1 := aP 0 _ rfl
    have aP2 := aP 1 _ rfl
    have aB : W0.cell? ⟨w1.heap.size, 0, none⟩ = some (.slice A path.length c) := by rw [hW0]; exact (At.new w1 #[.slice A path.length c] 112 0 _ rfl).1
    have hsW := HS.out.below hb0
    clear aP hW0 hb1 hb01
    refine wp_rangeX (gf := 159) (lb := #[.pointer (some ⟨w1.heap.size, 0, none⟩)]) rfl (enters_of Try.func159 (by kernel_rfl) rfl)
      (ways_seq w1.heap.size _ path W0 h30 (by omega) aB hsW (fun k => k = w1.heap.size ∨ (Value.slice A path.length c).ownBlock = some k) (.inl rfl) (fun b hb => .inr hb)) (Below.refl _ _)
      (by
        rintro k (rfl | hk)
        · omega
        · have := HV.out k hk; omega) (fun _ => rfl)
      (fun pre W => (At W ⟨w.heap.size + 1, 0, none⟩ (.int .i64 0) ∧ At W ⟨w.heap.size, 0, none⟩ (.int .i64 p.1) ∧ At W ⟨w.heap.size, 1, none⟩ (.int .i64 p.2)) ∧ Below w.heap.size w W ∧ NoneOn p pre)
      (fun c pre W => c = .ret ∧ At W ⟨w.heap.size + 1, 0, none⟩ (.int .i64 13) ∧ Below w.heap.size w W ∧ SomeOn p pre)
      (OwnFrom.and (OwnFrom.and (own_at _ _ fun _ => _) (OwnFrom.and (own_at _ _ fun _ => _) (own_at _ _ fun _ => _))) (OwnFrom.and (ownFrom_below (Nat.le_refl _) (by omega)) (ownFrom_pure _ _)))
      (fun c => OwnFrom.and (ownFrom_pure _ _) (OwnFrom.and (own_at _ _ fun _ => _) (OwnFrom.and (ownFrom_below (Nat.le_refl _) (by omega)) (ownFrom_pure _ _)))) ⟨⟨aR, aP1, aP2⟩, hb0, fun x hx => by simp at hx⟩ ?round ?done ?stop
    case round =>
      rintro l pre ⟨⟨a1, a2⟩, ⟨b1, b2⟩⟩ W hl hlt hpre ⟨⟨hT, hP1, hP2⟩, hB, hno⟩
      have hsm := HM.out _ (pre_mem hpre)
      have hcr := fun w => liesOn_any (a1, a2) (b1, b2) p w hsm.1 hsm.2 hp
      have HC := Lib.hid hcr
      have HNO := Lib.hid hno
      clear hcr hsm hno
      simp only [encW]
      gi_wp2
      refine ⟨((Kep.refl _ _ _).alloc _).alloc _, fun W2 hTn => ?_⟩
      obtain ⟨x1, y1⟩ := box2 W #[.int .i64 a1, .int .i64 a2] #[.int .i64 b1, .int .i64 b2] 61 61
      obtain ⟨c1, f1⟩ := (x1 0 _ rfl).turn hTn
      obtain ⟨c2, f2⟩ := (x1 1 _ rfl).turn hTn
      obtain ⟨c3, f3⟩ := (y1 0 _ rfl).turn hTn
      obtain ⟨c4, f4⟩ := (y1 1 _ rfl).turn hTn
      have hT2 := ((hT.al (.cells #[.int .i64 a1, .int .i64 a2] 61)).al (.cells #[.int .i64 b1, .int .i64 b2] 61)).turn hTn
      have hP12 := ((hP1.al (.cells #[.int .i64 a1, .int .i64 a2] 61)).al (.cells #[.int .i64 b1, .int .i64 b2] 61)).turn hTn
      have hP22 := ((hP2.al (.cells #[.int .i64 a1, .int .i64 a2] 61)).al (.cells #[.int .i64 b1, .int .i64 b2] 61)).turn hTn
      have hB2 : Below w.heap.size w W2 := (below_al (below_al hB _) _).trans (hTn.below (by omega))
      have hT3 := hT2.lt
      simp only at hT3
      obtain ⟨c5, f5⟩ := hT2
      have c6 := hP12.1
      have c7 := hP22.1
      have KB := Lib.hid hB2
      have KP := Lib.hid (And.intro hP12 hP22)
      have KT : Hid (At W2 ⟨w.heap.size + 1, 0, none⟩ (.int .i64 0)) := ⟨c5, f5⟩
      clear x1 y1 hT hP1 hP2 hB hB2 hTn hP12 hP22 f1 f2 f3 f4
      cases hon : onWay (a1, a2) (b1, b2) p
      · rw [hon] at HC
        have HON := Lib.hid hon
        clear hon
        gi_wp2_with (gi_at_call 157; refine (inRnd l (HC.out _)).mono ?_; rintro e W3 ⟨rfl, hb3⟩)
        exact ⟨(Kep.refl _ _ _).call hb3, ⟨KT.out.below hb3, KP.out.1.below hb3, KP.out.2.below hb3⟩, below_tr KB.out hb3, HNO.out.snoc HON.out⟩
      · rw [hon] at HC
        have HON := Lib.hid hon
        clear hon
        gi_wp2_with (gi_at_call 157; refine (inRnd l (HC.out _)).mono ?_; rintro e W3 ⟨rfl, hb3⟩; have k5 := (hb3.cell (p := ⟨w.heap.size + 1, 0, none⟩) hT3).trans c5; have j5 := (hb3.frozen (p := ⟨w.heap.size + 1, 0, none⟩) hT3).trans f5)
        refine ⟨Kep.setCell ((Kep.refl _ _ _).call hb3) ?_ _, rfl, (KT.out.below hb3).set, below_set (below_tr KB.out hb3) (by show w.heap.size ≤ w.heap.size + 1; omega) _, SomeOn.snoc _ HON.out⟩
        rintro (h | h)
        · simp only at h; omega
        · have := HV.out _ h; simp only at this; omega
    case done =>
      rintro D W hD ⟨⟨hT, _⟩, hB, hno⟩ hK
      have E : Hid (postErr path p = 0) := postErr_ok HO.out hno
      have KT := Lib.hid hT
      obtain ⟨hT1, hT2⟩ := hT
      have HB := Lib.hid hB
      clear hno hB
      gi_wp2
      have hK2 := (KeepsOthers.setCell W ⟨w.heap.size + 1, 0, none⟩ (.int .i64 0)).same D _ hK rfl
      have k5 := ((KT.out.set (u := .int .i64 0)).put (o' := .deferred none) hK2 rfl rfl).1
      refine ⟨by simp, .inl ⟨_, _, rfl, run_takeDeferred hK2, ?_⟩⟩
      exact ⟨.int .i64 0, by simp [results, Try.results128, go_sem, k5], ret_int E.out.symm, below_put (below_set HB.out (by show w.heap.size ≤ w.heap.size + 1; omega) _) (Nat.le_refl _) (by omega) hK2⟩
    case stop =>
      rintro D c pre W hD hpre ⟨rfl, hT, hB, x, hx, hon⟩ hK
      have E : Hid (postErr path p = 13) := postErr_on HO.out x (hpre.subset hx) hon
      have KT := Lib.hid hT
      obtain ⟨hT1, hT2⟩ := hT
      have HB := Lib.hid hB
      clear hB hx hon hpre
      gi_wp2
      have k5 := (KT.out.put (o' := .deferred none) hK rfl rfl).1
      refine ⟨by simp, .inl ⟨_, _, rfl, run_takeDeferred hK, ?_⟩⟩
      exact ⟨.int .i64 13, by simp [results, Try.results128, go_sem, k5], ret_int E.out.symm, below_put HB.out (Nat.le_refl _) (by omega) hK⟩
end Go.Proofs.Ytegkppphaglpgaa
