/-
  Walks of chapter 1's lines: the error of slack.
-/
import Derived.Test.YtegkppphaglpgaaLd
namespace Go.Proofs.Ytegkppphaglpgaa
open Go.RowKit Go.Shelf
attribute [local go_sem] Oper.semAt_some wide_fn wide_depth round_fn round_depth

def NoSlack (x : List (Nat × Int)) : Prop := ∀ p ∈ x, 0 < p.2
def SomeSlack (x : List (Nat × Int)) : Prop := ∃ p ∈ x, p.2 ≤ 0
theorem NoSlack.snoc {x : List (Nat × Int)} {p : Nat × Int} (h : NoSlack x) (hp : 0 < p.2) : NoSlack (x ++ [p]) := by
  intro y hy
  rcases List.mem_append.1 hy with hy | hy
  · exact h y hy
  · rw [List.mem_singleton.1 hy]; exact hp
theorem lifts_zs (l : Ln) : (lifts l).map (·.2) = zs l := by
  apply List.ext_getElem
  · simp [lifts_len, zs_len]
  · intro i h1 h2
    simp [lifts, h2]
theorem slackErr_no {l : Ln} (h : NoSlack (lifts l)) : slackErr l = 0 := by
  unfold slackErr
  rw [if_neg]
  intro hc
  obtain ⟨z, hz, h1⟩ := List.any_eq_true.1 hc
  rw [← lifts_zs] at hz
  obtain ⟨p, hp, rfl⟩ := List.mem_map.1 hz
  have := h p hp
  simp at h1
  omega
theorem slackErr_some {l : Ln} (h : SomeSlack (lifts l)) : slackErr l = 21 := by
  unfold slackErr
  rw [if_pos]
  obtain ⟨p, hp, h1⟩ := h
  exact List.any_eq_true.2 ⟨p.2, by rw [← lifts_zs]; exact List.mem_map.2 ⟨p, hp, rfl⟩, by simpa using h1⟩

set_option maxHeartbeats 2000000 in
theorem slackError_any (v : Value) (l : Ln) (w : World) (hs : Sl e3 3 w v l.ks) (hl : LnOk l) :
    Calls Try.prog 140 #[.agg #[.int .i64 l.x, .int .i64 l.z, v]] w fun e w' => e = .returned (.int .i64 (slackErr l)) ∧ Below w.heap.size w w' := by
  have hvb := hs.blk hl.n0
  obtain ⟨A, c, rfl, hcap⟩ := hs.form
  have HV := Lib.hid hvb
  have HS := Lib.hid hs
  have HL := Lib.hid hl
  clear hvb hs hl
  refine (callsIn_wide (n := 0)).1 ?_
  refine callsIn_of_wp_marks Try.func140 rfl trivial ?_ rfl
  simp only [Try.ntmps140, List.size_toArray, List.length_cons, List.length_nil, Nat.reduceAdd, Nat.reduceSub, Array.replicate_succ, Array.replicate_zero, List.push_toArray, List.append_toArray, List.nil_append, List.cons_append]
  gi_wp2_with (gi_at_call 95; refine (atWide (lifts_any l _ _ ⟨_, _, _, rfl⟩)).mono ?_; rintro e w2 ⟨rfl, rfl⟩)
  obtain ⟨W1, hW1⟩ : ∃ W1, W1 = (w.alloc (.cells #[.int .i64 l.x, .int .i64 l.z, .slice A l.ks.length c] 26)).alloc (.cells #[.int .i64 0] 30) := ⟨_, rfl⟩
  obtain ⟨W0, hW0⟩ : ∃ W0, W0 = W1.alloc (.cells #[.int .i64 l.x, .int .i64 l.z, .slice A l.ks.length c] 141) := ⟨_, rfl⟩
  rw [← hW1, ← hW0]
  have hb1 : Below w.heap.size w W1 := by rw [hW1]; exact below_al (below_alloc1 _ _) _
  have hb0 : Below w.heap.size w W0 := by rw [hW0]; exact below_al hb1 _
  have hz1 : w.heap.size + 2 ≤ W1.heap.size := by rw [hW1]; simp
  have hz0 : W1.heap.size + 1 ≤ W0.heap.size := by rw [hW0]; simp
  have aR : At W0 ⟨w.heap.size + 1, 0, none⟩ (.int .i64 0) := by
    rw [hW0, hW1]
    have h1 := (At.new (w.alloc (.cells #[.int .i64 l.x, .int .i64 l.z, .slice A l.ks.length c] 26)) #[.int .i64 0] 30 0 _ rfl).al (.cells #[.int .i64 l.x, .int .i64 l.z, .slice A l.ks.length c] 141)
    simpa using h1
  have aL : ∀ j v, (#[Value.int .i64 l.x, .int .i64 l.z, .slice A l.ks.length c] : Array Value)[j]? = some v → W0.cell? ⟨W1.heap.size, j, none⟩ = some v := by
    intro j v hv
    rw [hW0]; exact (At.new W1 _ 141 j v hv).1
  have aL1 := aL 1 _ rfl
  have aL2 := aL 2 _ rfl
  have hsW := HS.out.below hb0
  have hxe : (⟨w.heap.size + 1 + 1, 0, none⟩ : Addr) = ⟨W1.heap.size, 0, none⟩ := by rw [hW1]; simp
  rw [hxe]
  clear aL hW0 hW1 hxe
  refine wp_rangeX (gf := 137) (lb := #[.pointer (some ⟨W1.heap.size, 0, none⟩)]) rfl (enters_of Try.func137 (by kernel_rfl) rfl)
    (lifts_seq W1.heap.size _ l W0 HL.out aL1 aL2 hsW (fun k => k = W1.heap.size ∨ (Value.slice A l.ks.length c).ownBlock = some k) (.inl rfl) (fun b hb => .inr hb)) (Below.refl _ _)
    (by
      rintro k (rfl | hk)
      · omega
      · have := HV.out k hk; omega) (fun _ => rfl)
    (fun pre W => At W ⟨w.heap.size + 1, 0, none⟩ (.int .i64 0) ∧ Below w.heap.size w W ∧ NoSlack pre)
    (fun c pre W => c = .ret ∧ At W ⟨w.heap.size + 1, 0, none⟩ (.int .i64 21) ∧ Below w.heap.size w W ∧ SomeSlack pre)
    (OwnFrom.and (own_at _ _ fun _ => _) (OwnFrom.and (ownFrom_below (Nat.le_refl _) (by omega)) (ownFrom_pure _ _)))
    (fun c => OwnFrom.and (ownFrom_pure _ _) (OwnFrom.and (own_at _ _ fun _ => _) (OwnFrom.and (ownFrom_below (Nat.le_refl _) (by omega)) (ownFrom_pure _ _)))) ⟨aR, hb0, fun x hx => by simp at hx⟩ ?round ?done ?stop
  case round =>
    rintro lp pre ⟨i, z⟩ W hlp hlt hpre ⟨hT, hB, hno⟩
    have HNO := Lib.hid hno
    have HP := Lib.hid hpre
    have HB := Lib.hid hB
    have HT := Lib.hid hT
    clear hno hpre hT hB
    simp only [encL]
    gi_wp2
    refine ⟨Kep.refl _ _ _, fun W2 hTn => ?_⟩
    have hB2 : Below w.heap.size w W2 := HB.out.trans (hTn.below (by omega))
    have hT2 := HT.out.turn hTn
    have KB := Lib.hid hB2
    have KT := Lib.hid hT2
    obtain ⟨c5, f5⟩ := hT2
    clear hTn hB2
    by_cases hz : z ≤ 0
    · gi_wp2
      refine ⟨Kep.setCell (Kep.refl _ _ _) ?_ _, rfl, KT.out.set, below_set KB.out (by show w.heap.size ≤ w.heap.size + 1; omega) _, ⟨(i, z), by simp, hz⟩⟩
      rintro (h | h)
      · simp only at h; omega
      · have := HV.out _ h; simp only at this; omega
    · gi_wp2
      exact ⟨Kep.refl _ _ _, KT.out, KB.out, HNO.out.snoc (by simp only; omega)⟩
  case done =>
    rintro D W hD ⟨hT, hB, hno⟩ hK
    have E : Hid (slackErr l = 0) := slackErr_no hno
    have KT := Lib.hid hT
    obtain ⟨hT1, hT2⟩ := hT
    have HB := Lib.hid hB
    clear hno hB
    gi_wp2
    have hK2 := (KeepsOthers.setCell W ⟨w.heap.size + 1, 0, none⟩ (.int .i64 0)).same D _ hK rfl
    have k5 := ((KT.out.set (u := .int .i64 0)).put (o' := .deferred none) hK2 rfl rfl).1
    refine ⟨by simp, .inl ⟨_, _, rfl, run_takeDeferred hK2, ?_⟩⟩
    exact ⟨.int .i64 0, by simp [results, Try.results140, go_sem, k5], ret_int E.out.symm, below_put (below_set HB.out (by show w.heap.size ≤ w.heap.size + 1; omega) _) (Nat.le_refl _) (by omega) hK2⟩
  case stop =>
    rintro D c pre W hD hpre ⟨rfl, hT, hB, x, hx, hon⟩ hK
    have E : Hid (slackErr l = 21) := slackErr_some ⟨x, hpre.subset hx, hon⟩
    have KT := Lib.hid hT
    obtain ⟨hT1, hT2⟩ := hT
    have HB := Lib.hid hB
    clear hB hx hon hpre
    gi_wp2
    have k5 := (KT.out.put (o' := .deferred none) hK rfl rfl).1
    refine ⟨by simp, .inl ⟨_, _, rfl, run_takeDeferred hK, ?_⟩⟩
    exact ⟨.int .i64 21, by simp [results, Try.results140, go_sem, k5], ret_int E.out.symm, below_put HB.out (Nat.le_refl _) (by omega) hK⟩
end Go.Proofs.Ytegkppphaglpgaa
