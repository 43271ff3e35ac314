/-
  Walks of the reference of readings: how far two readings are from each other.
-/
import Derived.Test.YtekinmafdhgmpaaQS
import Derived.Test.YtekinmafdhgmpaaZKv
namespace Go.Proofs.Ytekinmafdhgmpaa
open Go.RowKit Go.Shelf
attribute [local go_sem] monoUpon_value monoUpon_skip monoUpon_enter

def Box3 (W : World) (g : Nat) (x : Rd) : Prop := At W ⟨g, 0, none⟩ (.int .i64 x.1) ∧ At W ⟨g, 1, none⟩ (.int .i64 x.2.1) ∧ At W ⟨g, 2, none⟩ (.int .i64 x.2.2)
theorem Box3.below {W W' : World} {g : Nat} {x : Rd} (h : Box3 W g x) (hb : Below W.heap.size W W') : Box3 W' g x := ⟨h.1.below hb, h.2.1.below hb, h.2.2.below hb⟩
theorem Box3.lt {W : World} {g : Nat} {x : Rd} (h : Box3 W g x) : g < W.heap.size := h.1.lt
theorem Box3.new (W : World) (x : Rd) (t : TypeId) : Box3 (W.alloc (.cells #[.int .i64 x.1, .int .i64 x.2.1, .int .i64 x.2.2] t)) W.heap.size x := ⟨At.new W _ t 0 _ rfl, At.new W _ t 1 _ rfl, At.new W _ t 2 _ rfl⟩
def put3 (W : World) (g : Nat) (x : Rd) : World := ((W.setCell ⟨g, 0, none⟩ (.int .i64 x.1)).setCell ⟨g, 1, none⟩ (.int .i64 x.2.1)).setCell ⟨g, 2, none⟩ (.int .i64 x.2.2)
theorem Box3.put {W : World} {g : Nat} {z : Rd} (h : Box3 W g z) (x : Rd) : Box3 (put3 W g x) g x :=
  ⟨(h.1.set.other (by simp)).other (by simp), ((h.2.1.other (by simp)).set).other (by simp), ((h.2.2.other (by simp)).other (by simp)).set⟩
theorem Box3.put_other {W : World} {g g' : Nat} {z x : Rd} (h : Box3 W g' z) (hne : g' ≠ g) : Box3 (put3 W g x) g' z := by
  have e : ∀ (a b : Nat), (⟨g', a, none⟩ : Addr) ≠ ⟨g, b, none⟩ := fun a b e => by injection e with e; exact hne e
  exact ⟨((h.1.other (e _ _)).other (e _ _)).other (e _ _), ((h.2.1.other (e _ _)).other (e _ _)).other (e _ _), ((h.2.2.other (e _ _)).other (e _ _)).other (e _ _)⟩
theorem below_put3 {w W : World} {g : Nat} (h : Below w.heap.size w W) (hg : w.heap.size ≤ g) (x : Rd) : Below w.heap.size w (put3 W g x) := below_set (below_set (below_set h hg _) hg _) hg _
/-- Two new boxes, of which the first may hold its reading already. -/
def TwoB (w0 : World) (G : Nat) (x : Rd) (S T : Option Value) (f : Bool) (W : World) : Prop :=
  Below w0.heap.size w0 W ∧ (∀ v, S = some v → ∃ g, v = .pointer (some ⟨g, 0, none⟩) ∧ G ≤ g ∧ Box3 W g (if f then x else (0, 0, 0))) ∧ (∀ v, T = some v → ∃ g, v = .pointer (some ⟨g, 0, none⟩) ∧ G ≤ g ∧ Box3 W g (0, 0, 0)) ∧
    (∀ v, S = some v → T ≠ some v) ∧ w0.heap.size = G ∧ (S = none → f = false)
theorem TwoB.keep {w0 : World} {G : Nat} {x : Rd} {S T : Option Value} {f : Bool} {W W' : World} (h : TwoB w0 G x S T f W) (hb : Below W.heap.size W W') : TwoB w0 G x S T f W' := by
  obtain ⟨h1, h2, h3, h4, h5, h6⟩ := h
  refine ⟨below_tr h1 hb, fun v hv => ?_, fun v hv => ?_, h4, h5, h6⟩
  · obtain ⟨g, e, hg, hx⟩ := h2 v hv; exact ⟨g, e, hg, hx.below hb⟩
  · obtain ⟨g, e, hg, hx⟩ := h3 v hv; exact ⟨g, e, hg, hx.below hb⟩
theorem TwoB.one {w0 : World} {G : Nat} {x : Rd} {T : Option Value} {f : Bool} {W : World} {t : TypeId} (h : TwoB w0 G x none T f W) : TwoB w0 G x (some (.pointer (some ⟨W.heap.size, 0, none⟩))) T f (W.alloc (.cells #[.int .i64 0, .int .i64 0, .int .i64 0] t)) := by
  have hk := h.keep (below_alloc1 W (.cells #[.int .i64 0, .int .i64 0, .int .i64 0] t))
  obtain ⟨h1, _, h3, _, h5, h6⟩ := h
  refine ⟨hk.1, fun v hv => ?_, hk.2.2.1, fun v hv hT => ?_, h5, fun h => by cases h⟩
  · injection hv with hv
    subst hv
    rw [h6 rfl]
    exact ⟨_, rfl, by have := h1.size; omega, Box3.new W (0, 0, 0) t⟩
  · injection hv with hv
    subst hv
    obtain ⟨g, e, _, hx⟩ := h3 _ hT
    injection e with e
    injection e with e
    injection e with e
    have := hx.lt
    omega
theorem TwoB.two {w0 : World} {G : Nat} {x : Rd} {S : Option Value} {f : Bool} {W : World} {t : TypeId} (h : TwoB w0 G x S none f W) : TwoB w0 G x S (some (.pointer (some ⟨W.heap.size, 0, none⟩))) f (W.alloc (.cells #[.int .i64 0, .int .i64 0, .int .i64 0] t)) := by
  have hk := h.keep (below_alloc1 W (.cells #[.int .i64 0, .int .i64 0, .int .i64 0] t))
  obtain ⟨h1, h2, _, _, h5, h6⟩ := h
  refine ⟨hk.1, hk.2.1, fun v hv => ?_, fun v hv hT => ?_, h5, h6⟩
  · injection hv with hv
    subst hv
    exact ⟨_, rfl, by have := h1.size; omega, Box3.new W (0, 0, 0) t⟩
  · injection hT with hT
    subst hT
    obtain ⟨g, e, _, hx⟩ := h2 _ hv
    injection e with e
    injection e with e
    injection e with e
    have := hx.lt
    omega
theorem TwoB.box {w0 : World} {G : Nat} {x : Rd} {v : Value} {T : Option Value} {W : World} (h : TwoB w0 G x (some v) T false W) : ∃ g, v = .pointer (some ⟨g, 0, none⟩) ∧ G ≤ g ∧ Box3 W g (0, 0, 0) := h.2.1 v rfl
theorem TwoB.store {w0 : World} {G : Nat} {x : Rd} {v : Value} {T : Option Value} {W : World} (h : TwoB w0 G x (some v) T false W) {g : Nat} (eg : v = .pointer (some ⟨g, 0, none⟩)) : TwoB w0 G x (some v) T true (put3 W g x) := by
  obtain ⟨h1, h2, h3, h4, h5, _⟩ := h
  obtain ⟨g', e, hg, hx⟩ := h2 v rfl
  obtain rfl : g' = g := by rw [eg] at e; injection e with e; injection e with e; injection e with e; exact e.symm
  refine ⟨below_put3 h1 (by omega) x, fun u hu => ?_, fun u hu => ?_, h4, h5, fun h => by cases h⟩
  · injection hu with hu
    subst hu
    exact ⟨g', eg, hg, hx.put x⟩
  · obtain ⟨g2, e2, hg2, hx2⟩ := h3 u hu
    refine ⟨g2, e2, hg2, hx2.put_other fun e => ?_⟩
    subst e
    exact h4 v rfl (by rw [hu, e2, eg])
set_option maxRecDepth 100000 in
set_option maxHeartbeats 8000000 in
theorem rApart2_any (v u t y : Value) (l : Ln) (b : List (Int × Int)) (r : List Rd) (i j : Nat) (w : World) (hs : Sl e3 3 w v l.ks) (hu : Sl e2 2 w u b) (ht : Sl e3 3 w t r) (hy : Sl e1 1 w y [(i : Int), (j : Int)]) (hl : LnOk l) (hb : BoxOk l b) (hi : i < r.length) (hj : j < r.length) (hx : RdOk l.ks.length r[i]) (hz : RdOk l.ks.length r[j]) :
    Calls Try.prog 60 #[.agg #[.int .i64 l.x, .int .i64 l.z, v], u, t, y] w fun e w' => e = .returned (.int .i64 (gR l b r i j)) ∧ Below w.heap.size w w' := by
  have HS := Lib.hid hs
  have HU := Lib.hid hu
  obtain ⟨A, c, rfl, _⟩ := hs.form
  obtain ⟨A', c', rfl, _⟩ := hu.form
  obtain ⟨A'', c'', rfl, _⟩ := ht.form
  obtain ⟨A3, c3, rfl, _⟩ := hy.form
  obtain ⟨br, or', rfl, _, _, _, _⟩ := ht.at3 (k := i) hi
  simp only [List.length_cons, List.length_nil, Nat.zero_add, Nat.reduceAdd] at hy
  obtain ⟨bs, os, rfl, _, _⟩ := hy.at1 (k := 0) (by simp)
  have HT := Lib.hid ht
  have HY := Lib.hid hy
  have HTI := Lib.hid (fun W (h : Sl e3 3 W (.slice (some ⟨br, or', none⟩) r.length c'') r) => h.at3 (k := i) hi)
  have HTJ := Lib.hid (fun W (h : Sl e3 3 W (.slice (some ⟨br, or', none⟩) r.length c'') r) => h.at3 (k := j) hj)
  have hil : (i : Int) < (r.length : Int) := by omega
  have hi0 : (0 : Int) ≤ (i : Int) := by omega
  have hjl : (j : Int) < (r.length : Int) := by omega
  have hj0 : (0 : Int) ≤ (j : Int) := by omega
  have hn1 := hl.n1
  have E0 : gR l b r i j = twoD l b r[i] r[j] := by unfold gR; rw [getD_eq _ _ _ hi, getD_eq _ _ _ hj]
  generalize gR l b r i j = d at *
  generalize r[i] = x at *
  generalize r[j] = z at *
  obtain ⟨x0, x1, x2⟩ := x
  obtain ⟨y0, y1, y2⟩ := z
  have HX0 := Lib.hid hx
  have HZ0 := Lib.hid hz
  have HL := Lib.hid hl
  have HBX := Lib.hid hb
  have HE0 := Lib.hid E0
  simp only at HTI HTJ
  clear hs hu ht hy hl hb E0 hx hz
  go_enter Try.func60, Try.ntmps60
  go_wp2_with fail
  obtain ⟨W0, hW0⟩ : ∃ W0, W0 = w.alloc (.cells #[.int .i64 l.x, .int .i64 l.z, .slice A l.ks.length c] 26) := ⟨_, rfl⟩
  rw [← hW0]
  have HPW : Hid (∀ W, Below W0.heap.size W0 W → (W.cell? ⟨w.heap.size, 0, none⟩ = some (.int .i64 l.x) ∧ W.cell? ⟨w.heap.size, 1, none⟩ = some (.int .i64 l.z) ∧ W.cell? ⟨w.heap.size, 2, none⟩ = some (.slice A l.ks.length c)) ∧
      Sl e3 3 W (.slice A l.ks.length c) l.ks ∧ Sl e2 2 W (.slice A' b.length c') b ∧ Sl e3 3 W (.slice (some ⟨br, or', none⟩) r.length c'') r ∧ Sl e1 1 W (.slice (some ⟨bs, os, none⟩) 2 c3) [(i : Int), (j : Int)] ∧ Below w.heap.size w W) := by
    intro W h
    have hb0 : Below w.heap.size w W0 := by rw [hW0]; exact below_alloc1 _ _
    have hb : Below w.heap.size w W := below_tr hb0 h
    rw [hW0] at h
    have bx := fun j v hv => (At.new w #[.int .i64 l.x, .int .i64 l.z, .slice A l.ks.length c] 26 j v hv).below h
    exact ⟨⟨(bx 0 _ rfl).1, (bx 1 _ rfl).1, (bx 2 _ rfl).1⟩, HS.out.below hb, HU.out.below hb, HT.out.below hb, HY.out.below hb, hb⟩
  clear hW0
  refine wp_region_rowsV 15 12 13 14 15 0 [] [33, 34, 35, 36, 37, 38, 39, 40, 41, 42, 43, 44, 10, 11, 1000000] [[], [], [1], [2], [0, 3], [4], [], [], [7], [8], [6, 9], [10], [], [], [5, 12]] [.any, .any, .any, .any, .any, .any, .any, .any, .any, .any, .any, .any, .one, .two, .st] [fun v _ => v = .slice (some ⟨br, or', none⟩) r.length c'', fun v _ => v = .slice (some ⟨bs, os, none⟩) 2 c3, fun v _ => v = .pointer (some ⟨bs, os, none⟩), fun v _ => v = .int .i64 i, fun v _ => v = .pointer (some ⟨br, or' + i * 3, none⟩), fun v _ => v = .agg #[.int .i64 x0, .int .i64 x1, .int .i64 x2], fun v _ => v = .slice (some ⟨br, or', none⟩) r.length c'', fun v _ => v = .slice (some ⟨bs, os, none⟩) 2 c3, fun v _ => v = .pointer (some ⟨bs, os + 1, none⟩), fun v _ => v = .int .i64 j, fun v _ => v = .pointer (some ⟨br, or' + j * 3, none⟩), fun v _ => v = .agg #[.int .i64 y0, .int .i64 y1, .int .i64 y2], fun _ _ => True, fun _ _ => True, fun _ _ => True] (TwoB W0 W0.heap.size (x0, x1, x2)) (fun _ _ => True) (by kernel_rfl) (by kernel_rfl) ⟨st_eq _, st_eq _, st_eq _, st_eq _, st_eq _, st_eq _, st_eq _, st_eq _, st_eq _, st_eq _, st_eq _, st_eq _, (fun _ _ _ h _ => h), (fun _ _ _ h _ => h), (fun _ _ _ h _ => h), trivial⟩ ⟨(fun _ _ _ h _ => h), (fun _ _ _ h _ => h), (fun _ _ _ h _ => h), (fun _ _ _ h _ => h), (fun _ _ _ h _ => h), (fun _ _ _ h _ => h), (fun _ _ _ h _ => h), (fun _ _ _ h _ => h), (fun _ _ _ h _ => h), (fun _ _ _ h _ => h), (fun _ _ _ h _ => h), (fun _ _ _ h _ => h), (fun _ _ _ h _ => h), (fun _ _ _ h _ => h), (fun _ _ _ h _ => h), trivial⟩ ?_ ?_ ?_ (fun _ _ => trivial) ?_
  · exact fun S T f W W' h hb => TwoB.keep h hb
  · refine stepsV_gen (fun a' => a'.tmps.size = 98 ∧ a'.tmps[2]? = some (.slice (some ⟨br, or', none⟩) r.length c'') ∧ a'.tmps[3]? = some (.slice (some ⟨bs, os, none⟩) 2 c3)) ⟨rfl, rfl, rfl⟩ ?_
    rintro a' ⟨hsz, r2, r3⟩
    simp only [List.take_succ_cons, List.take_zero, stepsV, stepV, and_true]
    refine ⟨?_, ?_, ?_, ?_, ?_, ?_, ?_, ?_, ?_, ?_, ?_, ?_, ?_, ?_, ?_⟩
    · intro x W S T f hI hS hT hU _; have p2 := tmp_out (x := x) (dst := [33, 34, 35, 36, 37, 38, 39, 40, 41, 42, 43, 44, 10, 11, 1000000]) r2 (by decide); refine ⟨?_⟩; go_simp; exact ⟨rfl, Below.refl _ _⟩
    · intro x W S T f hI hS hT hU _; have p3 := tmp_out (x := x) (dst := [33, 34, 35, 36, 37, 38, 39, 40, 41, 42, 43, 44, 10, 11, 1000000]) r3 (by decide); refine ⟨?_⟩; go_simp; exact ⟨rfl, Below.refl _ _⟩
    · intro x W S T f hI hS hT hU hN; simp only [needs, sAt, dAt] at hN; have p34 := tmp_in (x := x) hsz (d := 34) (dst := [33, 34, 35, 36, 37, 38, 39, 40, 41, 42, 43, 44, 10, 11, 1000000]) (by decide) (by decide); refine ⟨?_⟩; go_simp; exact ⟨rfl, Below.refl _ _⟩
    · intro x W S T f hI hS hT hU hN; simp only [needs, sAt, dAt] at hN; have p35 := tmp_in (x := x) hsz (d := 35) (dst := [33, 34, 35, 36, 37, 38, 39, 40, 41, 42, 43, 44, 10, 11, 1000000]) (by decide) (by decide); obtain ⟨_, _, ep, _, c0⟩ := (HPW.out W hI.1).2.2.2.2.1.at1 (k := 0) (by simp); injection ep with ep; injection ep with ep1 ep2; subst ep1; subst ep2; simp only [Nat.add_zero, List.getElem_cons_zero] at c0; refine ⟨?_⟩; go_simp; exact ⟨rfl, Below.refl _ _⟩
    · intro x W S T f hI hS hT hU hN; simp only [needs, sAt, dAt] at hN; have p33 := tmp_in (x := x) hsz (d := 33) (dst := [33, 34, 35, 36, 37, 38, 39, 40, 41, 42, 43, 44, 10, 11, 1000000]) (by decide) (by decide); have p36 := tmp_in (x := x) hsz (d := 36) (dst := [33, 34, 35, 36, 37, 38, 39, 40, 41, 42, 43, 44, 10, 11, 1000000]) (by decide) (by decide); refine ⟨?_⟩; go_simp; exact ⟨rfl, Below.refl _ _⟩
    · intro x W S T f hI hS hT hU hN; simp only [needs, sAt, dAt] at hN; have p37 := tmp_in (x := x) hsz (d := 37) (dst := [33, 34, 35, 36, 37, 38, 39, 40, 41, 42, 43, 44, 10, 11, 1000000]) (by decide) (by decide); obtain ⟨_, _, ep, _, c0, c1, c2⟩ := HTI.out W (HPW.out W hI.1).2.2.2.1; injection ep with ep; injection ep with ep1 ep2; subst ep1; subst ep2; refine ⟨?_⟩; go_simp; exact ⟨rfl, Below.refl _ _⟩
    · intro x W S T f hI hS hT hU _; have p2 := tmp_out (x := x) (dst := [33, 34, 35, 36, 37, 38, 39, 40, 41, 42, 43, 44, 10, 11, 1000000]) r2 (by decide); refine ⟨?_⟩; go_simp; exact ⟨rfl, Below.refl _ _⟩
    · intro x W S T f hI hS hT hU _; have p3 := tmp_out (x := x) (dst := [33, 34, 35, 36, 37, 38, 39, 40, 41, 42, 43, 44, 10, 11, 1000000]) r3 (by decide); refine ⟨?_⟩; go_simp; exact ⟨rfl, Below.refl _ _⟩
    · intro x W S T f hI hS hT hU hN; simp only [needs, sAt, dAt] at hN; have p40 := tmp_in (x := x) hsz (d := 40) (dst := [33, 34, 35, 36, 37, 38, 39, 40, 41, 42, 43, 44, 10, 11, 1000000]) (by decide) (by decide); refine ⟨?_⟩; go_simp; exact ⟨rfl, Below.refl _ _⟩
    · intro x W S T f hI hS hT hU hN; simp only [needs, sAt, dAt] at hN; have p41 := tmp_in (x := x) hsz (d := 41) (dst := [33, 34, 35, 36, 37, 38, 39, 40, 41, 42, 43, 44, 10, 11, 1000000]) (by decide) (by decide); obtain ⟨_, _, ep, _, c0⟩ := (HPW.out W hI.1).2.2.2.2.1.at1 (k := 1) (by simp); injection ep with ep; injection ep with ep1 ep2; subst ep1; subst ep2; simp only [List.getElem_cons_succ, List.getElem_cons_zero] at c0; refine ⟨?_⟩; go_simp; exact ⟨rfl, Below.refl _ _⟩
    · intro x W S T f hI hS hT hU hN; simp only [needs, sAt, dAt] at hN; have p39 := tmp_in (x := x) hsz (d := 39) (dst := [33, 34, 35, 36, 37, 38, 39, 40, 41, 42, 43, 44, 10, 11, 1000000]) (by decide) (by decide); have p42 := tmp_in (x := x) hsz (d := 42) (dst := [33, 34, 35, 36, 37, 38, 39, 40, 41, 42, 43, 44, 10, 11, 1000000]) (by decide) (by decide); refine ⟨?_⟩; go_simp; exact ⟨rfl, Below.refl _ _⟩
    · intro x W S T f hI hS hT hU hN; simp only [needs, sAt, dAt] at hN; have p43 := tmp_in (x := x) hsz (d := 43) (dst := [33, 34, 35, 36, 37, 38, 39, 40, 41, 42, 43, 44, 10, 11, 1000000]) (by decide) (by decide); obtain ⟨_, _, ep, _, c0, c1, c2⟩ := HTJ.out W (HPW.out W hI.1).2.2.2.1; injection ep with ep; injection ep with ep1 ep2; subst ep1; subst ep2; refine ⟨?_⟩; go_simp; exact ⟨rfl, Below.refl _ _⟩
    · intro x W T f hI hT hU _; refine ⟨?_⟩; go_simp; exact ⟨trivial, TwoB.one hI⟩
    · intro x W S f hI hS hU _; refine ⟨?_⟩; go_simp; exact ⟨trivial, TwoB.two hI⟩
    · intro x W S T hI hS hT hN; simp only [needs, sAt, dAt] at hN; have p10 := tmp_in (x := x) hsz (d := 10) (dst := [33, 34, 35, 36, 37, 38, 39, 40, 41, 42, 43, 44, 10, 11, 1000000]) (by decide) (by decide); have p38 := tmp_in (x := x) hsz (d := 38) (dst := [33, 34, 35, 36, 37, 38, 39, 40, 41, 42, 43, 44, 10, 11, 1000000]) (by decide) (by decide); obtain rfl := hS.2 (by simp); obtain ⟨g, eg, hg, ⟨c0, f0⟩, ⟨c1, f1⟩, ⟨c2, f2⟩⟩ := TwoB.box hI; simp only [dAt] at eg; refine ⟨?_⟩; go_simp; exact TwoB.store hI eg
  · exact ⟨(Below.refl _ _).drew, fun v h => (by cases h), fun v h => (by cases h), fun v h => (by cases h), rfl, fun _ => rfl⟩
  · intro x W hI hA _
    simp only [allSp] at hA
    have s1 := hA.2.2.2.2.2.2.2.2.2.2.2.1
    obtain ⟨k1, k2, k3, k4, _, _⟩ := hI
    obtain ⟨g1, e10, hg1, hx1⟩ := k2 _ rfl
    obtain ⟨g2, e11, hg2, hx2⟩ := k3 _ rfl
    have hne : g2 ≠ g1 := fun e => k4 _ rfl (by rw [e11, e, ← e10])
    replace e10 : x 10 = .pointer (some ⟨g1, 0, none⟩) := e10
    replace e11 : x 11 = .pointer (some ⟨g2, 0, none⟩) := e11
    simp only [if_true] at hx1
    have HX1 := Lib.hid hx1
    have HX2 := Lib.hid hx2
    have HK1 := Lib.hid k1
    obtain ⟨⟨c0, f0⟩, ⟨c1, f1⟩, ⟨c2, f2⟩⟩ := hx2
    obtain ⟨⟨b0, h0⟩, ⟨b1, h1⟩, ⟨b2, h2⟩⟩ := hx1
    have hne' : g1 ≠ g2 := fun e => hne e.symm
    have hlt1 := HX1.out.lt
    have hlt2 := HX2.out.lt
    clear k1 k2 k3 k4 hA
    simp only [putX, setX, List.foldl_cons, List.foldl_nil, List.drop_succ_cons, List.drop_zero, s1, e10, e11, List.setIfInBounds_toArray, List.set_cons_succ, List.set_cons_zero]
    clear s1 e10 e11
    by_cases hc : y0 < x0
    · have hc' : decide (y0 < x0) = true := decide_eq_true hc
      have E : Hid (d = pairD l b (y0, y1, y2) (x0, x1, x2)) := by have := HE0.out; unfold twoD at this; rw [if_pos hc] at this; exact this
      obtain ⟨a1, a2, a3, a4, a5⟩ := HZ0.out
      obtain ⟨z1, z2, z3, z4, z5⟩ := HX0.out
      simp only at a1 a2 a3 a4 a5 z1 z2 z3 z4 z5
      obtain ⟨kl, rfl⟩ : ∃ kl : Nat, y0 = (kl : Int) := ⟨y0.toNat, by omega⟩
      obtain ⟨kh, rfl⟩ : ∃ kh : Nat, x0 = (kh : Int) := ⟨x0.toNat, by omega⟩
      have hle : kl ≤ kh := by omega
      have hkn : kh < l.ks.length := by omega
      have hw1 : IntKind.i64.wrap ((kl : Int) + 1) = (kl : Int) + 1 := IntWalk.i64_in _ (by omega)
      have HCB := Lib.hid (fun m (h : kl + 1 + m ≤ l.ks.length) => carr_rd HL.out HBX.out (y1, y2) (by simp only; omega) (kl + 1) m h)
      have E2 : Hid (d = distR (x1, x2) (carr l.ks b (y1, y2) (kl + 1) (kh - kl))) := by
        unfold Hid
        rw [E.out, distR_comm]
        show distR (carr l.ks b (y1, y2) ((kl : Int) + 1).toNat ((kh : Int) - (kl : Int)).toNat) _ = _
        rw [show ((kl : Int) + 1).toNat = kl + 1 by omega, show ((kh : Int) - (kl : Int)).toNat = kh - kl by omega]
      have HSZ := Lib.hid (And.intro z3 (And.intro z4 z5))
      clear a1 a2 a3 a4 a5 z1 z2 z3 z4 z5
      go_wp2_with fail
      obtain ⟨W7, hW7⟩ : ∃ W7, W7 = put3 (put3 (put3 W g2 ((kl : Int), y1, y2)) g1 ((kl : Int), y1, y2)) g2 ((kh : Int), x1, x2) := ⟨_, rfl⟩
      have HB1 : Hid (Box3 W7 g1 ((kl : Int), y1, y2)) := by rw [hW7]; exact (((HX1.out.put_other hne').put _).put_other hne')
      have HB2 : Hid (Box3 W7 g2 ((kh : Int), x1, x2)) := by rw [hW7]; exact ((((HX2.out.put _)).put_other hne).put _)
      have HBW : Hid (Below W0.heap.size W0 W7) := by rw [hW7]; exact below_put3 (below_put3 (below_put3 HK1.out hg2 _) hg1 _) hg2 _
      try simp only [put3] at hW7
      have hBs : W7.heap.size = W.heap.size := by rw [hW7]; simp
      rw [← hW7, ← hBs]
      clear hBs hW7 b0 b1 b2 h0 h1 h2 c0 c1 c2 f0 f1 f2 HX1 HX2 HK1
      go_loopw [13] (fun jv wr => ∃ m : Nat, kl + 1 + m ≤ kh + 1 ∧ jv = .int .i64 ((kl + 1 + m : Nat) : Int) ∧ At wr ⟨W7.heap.size, 0, none⟩ (.int .i64 (carr l.ks b (y1, y2) (kl + 1) m).1) ∧ At wr ⟨W7.heap.size, 1, none⟩ (.int .i64 (carr l.ks b (y1, y2) (kl + 1) m).2) ∧ Below W7.heap.size W7 wr) (fun jv _ => kh + 1 - (intOf jv).toNat)
      case atStart => exact ⟨0, by omega, by go_num, At.new W7 #[.int .i64 y1, .int .i64 y2] 56 0 _ rfl, At.new W7 #[.int .i64 y1, .int .i64 y2] 56 1 _ rfl, below_alloc1 _ _⟩
      case round =>
        obtain ⟨m, hm, rfl, ha0, ha1, hbw⟩ := hrel
        have HA := Lib.hid (And.intro ha0 ha1)
        have HB7 := Lib.hid hbw
        have hcb := HCB.out m (by omega)
        obtain ⟨⟨e0, _⟩, ⟨e1', _⟩, ⟨e2', _⟩⟩ := HB2.out.below hbw
        simp only at e0 e1' e2'
        clear ha0 ha1 hbw
        by_cases hlt : m < kh - kl
        · obtain ⟨jj, hjj⟩ : ∃ jj, jj = kl + 1 + m := ⟨_, rfl⟩
          have HJJ := Lib.hid hjj
          have hjk : jj < l.ks.length := by omega
          have hjb : jj < b.length := by rw [HBX.out.len]; exact hjk
          have ec1 : (carr l.ks b (y1, y2) (kl + 1) (m + 1)).1 = (carr l.ks b (y1, y2) (kl + 1) m).1 + l.ks[jj].2.2 * b[jj].1 := by
            show _ + (l.ks.getD (kl + 1 + m) (0, 0, 0)).2.2 * (b.getD (kl + 1 + m) (0, 0)).1 = _
            rw [← hjj, getD_eq _ _ _ hjk, getD_eq _ _ _ hjb]
          have ec2 : (carr l.ks b (y1, y2) (kl + 1) (m + 1)).2 = (carr l.ks b (y1, y2) (kl + 1) m).2 + l.ks[jj].2.2 * b[jj].2 := by
            show _ + (l.ks.getD (kl + 1 + m) (0, 0, 0)).2.2 * (b.getD (kl + 1 + m) (0, 0)).2 = _
            rw [← hjj, getD_eq _ _ _ hjk, getD_eq _ _ _ hjb]
          have k0 := HL.out.ok _ (List.getElem_mem hjk)
          have b0 := HBX.out.ok _ (List.getElem_mem hjb)
          have m1 := mulz l.ks[jj].2.2 b[jj].1 (by omega) (by omega) (by omega) (by omega)
          have m2 := mulz l.ks[jj].2.2 b[jj].2 (by omega) (by omega) (by omega) (by omega)
          have HK := Lib.hid (fun W (h : Sl e3 3 W (.slice A l.ks.length c) l.ks) => h.at3 (k := jj) hjk)
          have HB := Lib.hid (fun W (h : Sl e2 2 W (.slice A' b.length c') b) => h.at2 (k := jj) hjb)
          have hjl1 : (jj : Int) < (l.ks.length : Int) := by omega
          have hjl2 : (jj : Int) < (b.length : Int) := by omega
          have hjl0 : (0 : Int) ≤ (jj : Int) := by omega
          have hle1 : (jj : Int) ≤ (kh : Int) := by omega
          have hle1' : decide ((jj : Int) ≤ (kh : Int)) = true := decide_eq_true hle1
          have HEC := Lib.hid (And.intro ec1 ec2)
          clear ec1 ec2
          generalize (carr l.ks b (y1, y2) (kl + 1) m) = q at *
          obtain ⟨q1, q2⟩ := q
          generalize l.ks[jj] = lk at *
          generalize b[jj] = bj at *
          obtain ⟨kh1, kw1, kd⟩ := lk
          obtain ⟨bl, bh⟩ := bj
          simp only at HA hcb k0 b0 m1 m2 HK HB HEC
          have hwm1 : IntKind.i64.wrap (kd * bl) = kd * bl := IntWalk.i64_in _ (by omega)
          have hwm2 : IntKind.i64.wrap (kd * bh) = kd * bh := IntWalk.i64_in _ (by omega)
          have hwa1 : IntKind.i64.wrap (q1 + kd * bl) = q1 + kd * bl := IntWalk.i64_in _ (by omega)
          have hwa2 : IntKind.i64.wrap (q2 + kd * bh) = q2 + kd * bh := IntWalk.i64_in _ (by omega)
          have hwj : IntKind.i64.wrap ((jj : Int) + 1) = (jj : Int) + 1 := IntWalk.i64_in _ (by omega)
          rw [← hjj]
          obtain ⟨bk, ok, rfl, _, _, _, _⟩ := HK.out _ (HPW.out _ HBW.out).2.1
          obtain ⟨bb, ob, rfl, _, _, _⟩ := HB.out _ (HPW.out _ HBW.out).2.2.1
          have HXL : Hid (∀ W, Below wr.drew.heap.size wr.drew W → (W.cell? ⟨W7.heap.size, 0, none⟩ = some (.int .i64 q1) ∧ W.cell? ⟨W7.heap.size, 1, none⟩ = some (.int .i64 q2)) ∧ W.cell? ⟨w.heap.size, 2, none⟩ = some (.slice (some ⟨bk, ok, none⟩) l.ks.length c) ∧ W.cell? ⟨bk, ok + jj * 3 + 2, none⟩ = some (.int .i64 kd) ∧ W.cell? ⟨bb, ob + jj * 2, none⟩ = some (.int .i64 bl) ∧ W.cell? ⟨bb, ob + jj * 2 + 1, none⟩ = some (.int .i64 bh) ∧ Below wr.heap.size wr W) := by
            intro W h
            have h1 : Below wr.heap.size wr W := Below.trans (Below.drew (Below.refl _ _)) h
            have h2 : Below W0.heap.size W0 W := below_tr (below_tr HBW.out HB7.out) h1
            obtain ⟨⟨_, _, g2⟩, g4, g5, _⟩ := HPW.out W h2
            obtain ⟨_, _, ep, _, _, _, f2⟩ := HK.out W g4
            injection ep with ep
            injection ep with ep1 ep2
            subst ep1; subst ep2
            obtain ⟨_, _, ep, _, f3, f4⟩ := HB.out W g5
            injection ep with ep
            injection ep with ep1 ep2
            subst ep1; subst ep2
            exact ⟨⟨(HA.out.1.below h1).1, (HA.out.2.below h1).1⟩, g2, f2, f3, f4, h1⟩
          clear m1 m2 k0 b0 hcb hjj
          go_wp2_with fail
          refine wp_region_mono 31 [63, 64, 65, 66, 67, 68, 69, 70, 71, 72, 73, 74, 75, 76, 77, 78, 79, 80, 81, 82, 83, 84, 85, 86, 87, 88, 89, 90, 91, 92, 93] [[], [0], [], [2], [], [3, 4], [5], [6], [], [], [8, 9], [10], [11], [7, 12], [1, 13], [], [15], [], [17], [], [18, 19], [20], [21], [], [], [23, 24], [25], [26], [22, 27], [16, 28], [14, 29]] [fun v _ => v = .pointer (some ⟨W7.heap.size, 0, none⟩), fun v _ => v = .int .i64 q1, fun v _ => v = .pointer (some ⟨w.heap.size, 2, none⟩), fun v _ => v = .slice (some ⟨bk, ok, none⟩) l.ks.length c, fun v _ => v = .int .i64 jj, fun v _ => v = .pointer (some ⟨bk, ok + jj * 3, none⟩), fun v _ => v = .pointer (some ⟨bk, ok + jj * 3 + 2, none⟩), fun v _ => v = .int .i64 kd, fun v _ => v = .slice (some ⟨bb, ob, none⟩) b.length c', fun v _ => v = .int .i64 jj, fun v _ => v = .pointer (some ⟨bb, ob + jj * 2, none⟩), fun v _ => v = .pointer (some ⟨bb, ob + jj * 2, none⟩), fun v _ => v = .int .i64 bl, fun v _ => v = .int .i64 (kd * bl), fun v _ => v = .int .i64 (q1 + (kd * bl)), fun v _ => v = .pointer (some ⟨W7.heap.size, 1, none⟩), fun v _ => v = .int .i64 q2, fun v _ => v = .pointer (some ⟨w.heap.size, 2, none⟩), fun v _ => v = .slice (some ⟨bk, ok, none⟩) l.ks.length c, fun v _ => v = .int .i64 jj, fun v _ => v = .pointer (some ⟨bk, ok + jj * 3, none⟩), fun v _ => v = .pointer (some ⟨bk, ok + jj * 3 + 2, none⟩), fun v _ => v = .int .i64 kd, fun v _ => v = .slice (some ⟨bb, ob, none⟩) b.length c', fun v _ => v = .int .i64 jj, fun v _ => v = .pointer (some ⟨bb, ob + jj * 2, none⟩), fun v _ => v = .pointer (some ⟨bb, ob + jj * 2 + 1, none⟩), fun v _ => v = .int .i64 bh, fun v _ => v = .int .i64 (kd * bh), fun v _ => v = .int .i64 (q2 + (kd * bh)), fun v _ => v = .agg #[.int .i64 (q1 + (kd * bl)), .int .i64 (q2 + (kd * bh))]] (by kernel_rfl) (by kernel_rfl) ⟨st_eq _, st_eq _, st_eq _, st_eq _, st_eq _, st_eq _, st_eq _, st_eq _, st_eq _, st_eq _, st_eq _, st_eq _, st_eq _, st_eq _, st_eq _, st_eq _, st_eq _, st_eq _, st_eq _, st_eq _, st_eq _, st_eq _, st_eq _, st_eq _, st_eq _, st_eq _, st_eq _, st_eq _, st_eq _, st_eq _, st_eq _, trivial⟩ ?_ ?_
          · simp only [List.take_succ_cons, List.take_zero, steps, and_true]
            refine ⟨?_, ?_, ?_, ?_, ?_, ?_, ?_, ?_, ?_, ?_, ?_, ?_, ?_, ?_, ?_, ?_, ?_, ?_, ?_, ?_, ?_, ?_, ?_, ?_, ?_, ?_, ?_, ?_, ?_, ?_, ?_⟩
            · intro x W hB _; simp only [putX, setX, List.foldl_cons, List.foldl_nil]; refine ⟨?_⟩; go_simp; exact ⟨rfl, Below.refl _ _⟩
            · intro x W hB hN; simp only [needs, sAt, dAt] at hN; simp only [putX, setX, List.foldl_cons, List.foldl_nil]; obtain ⟨⟨d0, d1⟩, d2, d3, d4, d5, _⟩ := HXL.out W hB; refine ⟨?_⟩; go_simp; exact ⟨rfl, Below.refl _ _⟩
            · intro x W hB _; simp only [putX, setX, List.foldl_cons, List.foldl_nil]; refine ⟨?_⟩; go_simp; exact ⟨rfl, Below.refl _ _⟩
            · intro x W hB hN; simp only [needs, sAt, dAt] at hN; simp only [putX, setX, List.foldl_cons, List.foldl_nil]; obtain ⟨⟨d0, d1⟩, d2, d3, d4, d5, _⟩ := HXL.out W hB; refine ⟨?_⟩; go_simp; exact ⟨rfl, Below.refl _ _⟩
            · intro x W hB _; simp only [putX, setX, List.foldl_cons, List.foldl_nil]; refine ⟨?_⟩; go_simp; exact ⟨rfl, Below.refl _ _⟩
            · intro x W hB hN; simp only [needs, sAt, dAt] at hN; simp only [putX, setX, List.foldl_cons, List.foldl_nil]; refine ⟨?_⟩; go_simp; exact ⟨rfl, Below.refl _ _⟩
            · intro x W hB hN; simp only [needs, sAt, dAt] at hN; simp only [putX, setX, List.foldl_cons, List.foldl_nil]; refine ⟨?_⟩; go_simp; exact ⟨rfl, Below.refl _ _⟩
            · intro x W hB hN; simp only [needs, sAt, dAt] at hN; simp only [putX, setX, List.foldl_cons, List.foldl_nil]; obtain ⟨⟨d0, d1⟩, d2, d3, d4, d5, _⟩ := HXL.out W hB; refine ⟨?_⟩; go_simp; exact ⟨rfl, Below.refl _ _⟩
            · intro x W hB _; simp only [putX, setX, List.foldl_cons, List.foldl_nil]; refine ⟨?_⟩; go_simp; exact ⟨rfl, Below.refl _ _⟩
            · intro x W hB _; simp only [putX, setX, List.foldl_cons, List.foldl_nil]; refine ⟨?_⟩; go_simp; exact ⟨rfl, Below.refl _ _⟩
            · intro x W hB hN; simp only [needs, sAt, dAt] at hN; simp only [putX, setX, List.foldl_cons, List.foldl_nil]; refine ⟨?_⟩; go_simp; exact ⟨rfl, Below.refl _ _⟩
            · intro x W hB hN; simp only [needs, sAt, dAt] at hN; simp only [putX, setX, List.foldl_cons, List.foldl_nil]; refine ⟨?_⟩; go_simp; exact ⟨rfl, Below.refl _ _⟩
            · intro x W hB hN; simp only [needs, sAt, dAt] at hN; simp only [putX, setX, List.foldl_cons, List.foldl_nil]; obtain ⟨⟨d0, d1⟩, d2, d3, d4, d5, _⟩ := HXL.out W hB; refine ⟨?_⟩; go_simp; exact ⟨rfl, Below.refl _ _⟩
            · intro x W hB hN; simp only [needs, sAt, dAt] at hN; simp only [putX, setX, List.foldl_cons, List.foldl_nil]; refine ⟨?_⟩; go_simp; exact ⟨rfl, Below.refl _ _⟩
            · intro x W hB hN; simp only [needs, sAt, dAt] at hN; simp only [putX, setX, List.foldl_cons, List.foldl_nil]; refine ⟨?_⟩; go_simp; exact ⟨rfl, Below.refl _ _⟩
            · intro x W hB _; simp only [putX, setX, List.foldl_cons, List.foldl_nil]; refine ⟨?_⟩; go_simp; exact ⟨rfl, Below.refl _ _⟩
            · intro x W hB hN; simp only [needs, sAt, dAt] at hN; simp only [putX, setX, List.foldl_cons, List.foldl_nil]; obtain ⟨⟨d0, d1⟩, d2, d3, d4, d5, _⟩ := HXL.out W hB; refine ⟨?_⟩; go_simp; exact ⟨rfl, Below.refl _ _⟩
            · intro x W hB _; simp only [putX, setX, List.foldl_cons, List.foldl_nil]; refine ⟨?_⟩; go_simp; exact ⟨rfl, Below.refl _ _⟩
            · intro x W hB hN; simp only [needs, sAt, dAt] at hN; simp only [putX, setX, List.foldl_cons, List.foldl_nil]; obtain ⟨⟨d0, d1⟩, d2, d3, d4, d5, _⟩ := HXL.out W hB; refine ⟨?_⟩; go_simp; exact ⟨rfl, Below.refl _ _⟩
            · intro x W hB _; simp only [putX, setX, List.foldl_cons, List.foldl_nil]; refine ⟨?_⟩; go_simp; exact ⟨rfl, Below.refl _ _⟩
            · intro x W hB hN; simp only [needs, sAt, dAt] at hN; simp only [putX, setX, List.foldl_cons, List.foldl_nil]; refine ⟨?_⟩; go_simp; exact ⟨rfl, Below.refl _ _⟩
            · intro x W hB hN; simp only [needs, sAt, dAt] at hN; simp only [putX, setX, List.foldl_cons, List.foldl_nil]; refine ⟨?_⟩; go_simp; exact ⟨rfl, Below.refl _ _⟩
            · intro x W hB hN; simp only [needs, sAt, dAt] at hN; simp only [putX, setX, List.foldl_cons, List.foldl_nil]; obtain ⟨⟨d0, d1⟩, d2, d3, d4, d5, _⟩ := HXL.out W hB; refine ⟨?_⟩; go_simp; exact ⟨rfl, Below.refl _ _⟩
            · intro x W hB _; simp only [putX, setX, List.foldl_cons, List.foldl_nil]; refine ⟨?_⟩; go_simp; exact ⟨rfl, Below.refl _ _⟩
            · intro x W hB _; simp only [putX, setX, List.foldl_cons, List.foldl_nil]; refine ⟨?_⟩; go_simp; exact ⟨rfl, Below.refl _ _⟩
            · intro x W hB hN; simp only [needs, sAt, dAt] at hN; simp only [putX, setX, List.foldl_cons, List.foldl_nil]; refine ⟨?_⟩; go_simp; exact ⟨rfl, Below.refl _ _⟩
            · intro x W hB hN; simp only [needs, sAt, dAt] at hN; simp only [putX, setX, List.foldl_cons, List.foldl_nil]; refine ⟨?_⟩; go_simp; exact ⟨rfl, Below.refl _ _⟩
            · intro x W hB hN; simp only [needs, sAt, dAt] at hN; simp only [putX, setX, List.foldl_cons, List.foldl_nil]; obtain ⟨⟨d0, d1⟩, d2, d3, d4, d5, _⟩ := HXL.out W hB; refine ⟨?_⟩; go_simp; exact ⟨rfl, Below.refl _ _⟩
            · intro x W hB hN; simp only [needs, sAt, dAt] at hN; simp only [putX, setX, List.foldl_cons, List.foldl_nil]; refine ⟨?_⟩; go_simp; exact ⟨rfl, Below.refl _ _⟩
            · intro x W hB hN; simp only [needs, sAt, dAt] at hN; simp only [putX, setX, List.foldl_cons, List.foldl_nil]; refine ⟨?_⟩; go_simp; exact ⟨rfl, Below.refl _ _⟩
            · intro x W hB hN; simp only [needs, sAt, dAt] at hN; simp only [putX, setX, List.foldl_cons, List.foldl_nil]; refine ⟨?_⟩; go_simp; exact ⟨rfl, Below.refl _ _⟩
          · intro x W hB hA
            simp only [allSp] at hA
            have s2 := hA.2.2.2.2.2.2.2.2.2.2.2.2.2.2.2.2.2.2.2.2.2.2.2.2.2.2.2.2.2.2.1
            have h1 := (HXL.out W hB).2.2.2.2.2
            obtain ⟨d0, f0⟩ := HA.out.1.below h1
            obtain ⟨d1, f1⟩ := HA.out.2.below h1
            have HW1 := Lib.hid h1
            clear hA hB HXL h1
            simp only [putX, setX, List.foldl_cons, List.foldl_nil, List.drop_succ_cons, List.drop_zero, s2]
            clear s2
            go_wp2_with fail
            go_roundw
            case rel =>
              refine ⟨m + 1, by omega, by rw [HJJ.out]; go_num, ?_, ?_, below_set (below_set (below_tr HB7.out HW1.out) (Nat.le_refl _) _) (Nat.le_refl _) _⟩
              · rw [HEC.out.1]; exact ((HA.out.1.below HW1.out).set).other (by simp)
              · rw [HEC.out.2]; exact ((HA.out.2.below HW1.out).other (by simp)).set
            case measure => simp [intOf]; omega
        · obtain rfl : m = kh - kl := by omega
          have hle1 : ¬ ((kl + 1 + (kh - kl) : Nat) : Int) ≤ (kh : Int) := by omega
          have hle1' : decide (((kl + 1 + (kh - kl) : Nat) : Int) ≤ (kh : Int)) = false := decide_eq_false hle1
          generalize (carr l.ks b (y1, y2) (kl + 1) (kh - kl)) = q at *
          obtain ⟨q1, q2⟩ := q
          simp only at HA hcb E2
          have HDI := Lib.hid (fun W => distance_any (x1, x2) (q1, q2) W (by have := HSZ.out; simp only; omega) (by have := HSZ.out; simp only; omega) hcb.1 hcb.2)
          obtain ⟨⟨d0, _⟩, ⟨d1, _⟩⟩ := HA.out
          generalize kl + 1 + (kh - kl) = jj at *
          clear hcb
          go_wp2_with (go_at_call 107; refine (HDI.out _).mono ?_; rintro e w9 ⟨rfl, b9⟩)
          go_ret
          exact ⟨ret_int E2.out.symm, below_tr (HPW.out _ (below_tr HBW.out HB7.out)).2.2.2.2.2 b9⟩
    · have hc' : decide (y0 < x0) = false := decide_eq_false hc
      have E : Hid (d = pairD l b (x0, x1, x2) (y0, y1, y2)) := by have := HE0.out; unfold twoD at this; rw [if_neg hc] at this; exact this
      obtain ⟨a1, a2, a3, a4, a5⟩ := HX0.out
      obtain ⟨z1, z2, z3, z4, z5⟩ := HZ0.out
      simp only at a1 a2 a3 a4 a5 z1 z2 z3 z4 z5
      obtain ⟨kl, rfl⟩ : ∃ kl : Nat, x0 = (kl : Int) := ⟨x0.toNat, by omega⟩
      obtain ⟨kh, rfl⟩ : ∃ kh : Nat, y0 = (kh : Int) := ⟨y0.toNat, by omega⟩
      have hle : kl ≤ kh := by omega
      have hkn : kh < l.ks.length := by omega
      have hw1 : IntKind.i64.wrap ((kl : Int) + 1) = (kl : Int) + 1 := IntWalk.i64_in _ (by omega)
      have HCB := Lib.hid (fun m (h : kl + 1 + m ≤ l.ks.length) => carr_rd HL.out HBX.out (x1, x2) (by simp only; omega) (kl + 1) m h)
      have E2 : Hid (d = distR (y1, y2) (carr l.ks b (x1, x2) (kl + 1) (kh - kl))) := by
        unfold Hid
        rw [E.out, distR_comm]
        show distR (carr l.ks b (x1, x2) ((kl : Int) + 1).toNat ((kh : Int) - (kl : Int)).toNat) _ = _
        rw [show ((kl : Int) + 1).toNat = kl + 1 by omega, show ((kh : Int) - (kl : Int)).toNat = kh - kl by omega]
      have HSZ := Lib.hid (And.intro z3 (And.intro z4 z5))
      clear a1 a2 a3 a4 a5 z1 z2 z3 z4 z5
      go_wp2_with fail
      obtain ⟨W7, hW7⟩ : ∃ W7, W7 = put3 W g2 ((kh : Int), y1, y2) := ⟨_, rfl⟩
      have HB1 : Hid (Box3 W7 g1 ((kl : Int), x1, x2)) := by rw [hW7]; exact (HX1.out.put_other hne')
      have HB2 : Hid (Box3 W7 g2 ((kh : Int), y1, y2)) := by rw [hW7]; exact (HX2.out.put _)
      have HBW : Hid (Below W0.heap.size W0 W7) := by rw [hW7]; exact below_put3 HK1.out hg2 _
      try simp only [put3] at hW7
      have hBs : W7.heap.size = W.heap.size := by rw [hW7]; simp
      rw [← hW7, ← hBs]
      clear hBs hW7 b0 b1 b2 h0 h1 h2 c0 c1 c2 f0 f1 f2 HX1 HX2 HK1
      go_loopw [13] (fun jv wr => ∃ m : Nat, kl + 1 + m ≤ kh + 1 ∧ jv = .int .i64 ((kl + 1 + m : Nat) : Int) ∧ At wr ⟨W7.heap.size, 0, none⟩ (.int .i64 (carr l.ks b (x1, x2) (kl + 1) m).1) ∧ At wr ⟨W7.heap.size, 1, none⟩ (.int .i64 (carr l.ks b (x1, x2) (kl + 1) m).2) ∧ Below W7.heap.size W7 wr) (fun jv _ => kh + 1 - (intOf jv).toNat)
      case atStart => exact ⟨0, by omega, by go_num, At.new W7 #[.int .i64 x1, .int .i64 x2] 56 0 _ rfl, At.new W7 #[.int .i64 x1, .int .i64 x2] 56 1 _ rfl, below_alloc1 _ _⟩
      case round =>
        obtain ⟨m, hm, rfl, ha0, ha1, hbw⟩ := hrel
        have HA := Lib.hid (And.intro ha0 ha1)
        have HB7 := Lib.hid hbw
        have hcb := HCB.out m (by omega)
        obtain ⟨⟨e0, _⟩, ⟨e1', _⟩, ⟨e2', _⟩⟩ := HB2.out.below hbw
        simp only at e0 e1' e2'
        clear ha0 ha1 hbw
        by_cases hlt : m < kh - kl
        · obtain ⟨jj, hjj⟩ : ∃ jj, jj = kl + 1 + m := ⟨_, rfl⟩
          have HJJ := Lib.hid hjj
          have hjk : jj < l.ks.length := by omega
          have hjb : jj < b.length := by rw [HBX.out.len]; exact hjk
          have ec1 : (carr l.ks b (x1, x2) (kl + 1) (m + 1)).1 = (carr l.ks b (x1, x2) (kl + 1) m).1 + l.ks[jj].2.2 * b[jj].1 := by
            show _ + (l.ks.getD (kl + 1 + m) (0, 0, 0)).2.2 * (b.getD (kl + 1 + m) (0, 0)).1 = _
            rw [← hjj, getD_eq _ _ _ hjk, getD_eq _ _ _ hjb]
          have ec2 : (carr l.ks b (x1, x2) (kl + 1) (m + 1)).2 = (carr l.ks b (x1, x2) (kl + 1) m).2 + l.ks[jj].2.2 * b[jj].2 := by
            show _ + (l.ks.getD (kl + 1 + m) (0, 0, 0)).2.2 * (b.getD (kl + 1 + m) (0, 0)).2 = _
            rw [← hjj, getD_eq _ _ _ hjk, getD_eq _ _ _ hjb]
          have k0 := HL.out.ok _ (List.getElem_mem hjk)
          have b0 := HBX.out.ok _ (List.getElem_mem hjb)
          have m1 := mulz l.ks[jj].2.2 b[jj].1 (by omega) (by omega) (by omega) (by omega)
          have m2 := mulz l.ks[jj].2.2 b[jj].2 (by omega) (by omega) (by omega) (by omega)
          have HK := Lib.hid (fun W (h : Sl e3 3 W (.slice A l.ks.length c) l.ks) => h.at3 (k := jj) hjk)
          have HB := Lib.hid (fun W (h : Sl e2 2 W (.slice A' b.length c') b) => h.at2 (k := jj) hjb)
          have hjl1 : (jj : Int) < (l.ks.length : Int) := by omega
          have hjl2 : (jj : Int) < (b.length : Int) := by omega
          have hjl0 : (0 : Int) ≤ (jj : Int) := by omega
          have hle1 : (jj : Int) ≤ (kh : Int) := by omega
          have hle1' : decide ((jj : Int) ≤ (kh : Int)) = true := decide_eq_true hle1
          have HEC := Lib.hid (And.intro ec1 ec2)
          clear ec1 ec2
          generalize (carr l.ks b (x1, x2) (kl + 1) m) = q at *
          obtain ⟨q1, q2⟩ := q
          generalize l.ks[jj] = lk at *
          generalize b[jj] = bj at *
          obtain ⟨kh1, kw1, kd⟩ := lk
          obtain ⟨bl, bh⟩ := bj
          simp only at HA hcb k0 b0 m1 m2 HK HB HEC
          have hwm1 : IntKind.i64.wrap (kd * bl) = kd * bl := IntWalk.i64_in _ (by omega)
          have hwm2 : IntKind.i64.wrap (kd * bh) = kd * bh := IntWalk.i64_in _ (by omega)
          have hwa1 : IntKind.i64.wrap (q1 + kd * bl) = q1 + kd * bl := IntWalk.i64_in _ (by omega)
          have hwa2 : IntKind.i64.wrap (q2 + kd * bh) = q2 + kd * bh := IntWalk.i64_in _ (by omega)
          have hwj : IntKind.i64.wrap ((jj : Int) + 1) = (jj : Int) + 1 := IntWalk.i64_in _ (by omega)
          rw [← hjj]
          obtain ⟨bk, ok, rfl, _, _, _, _⟩ := HK.out _ (HPW.out _ HBW.out).2.1
          obtain ⟨bb, ob, rfl, _, _, _⟩ := HB.out _ (HPW.out _ HBW.out).2.2.1
          have HXL : Hid (∀ W, Below wr.drew.heap.size wr.drew W → (W.cell? ⟨W7.heap.size, 0, none⟩ = some (.int .i64 q1) ∧ W.cell? ⟨W7.heap.size, 1, none⟩ = some (.int .i64 q2)) ∧ W.cell? ⟨w.heap.size, 2, none⟩ = some (.slice (some ⟨bk, ok, none⟩) l.ks.length c) ∧ W.cell? ⟨bk, ok + jj * 3 + 2, none⟩ = some (.int .i64 kd) ∧ W.cell? ⟨bb, ob + jj * 2, none⟩ = some (.int .i64 bl) ∧ W.cell? ⟨bb, ob + jj * 2 + 1, none⟩ = some (.int .i64 bh) ∧ Below wr.heap.size wr W) := by
            intro W h
            have h1 : Below wr.heap.size wr W := Below.trans (Below.drew (Below.refl _ _)) h
            have h2 : Below W0.heap.size W0 W := below_tr (below_tr HBW.out HB7.out) h1
            obtain ⟨⟨_, _, g2⟩, g4, g5, _⟩ := HPW.out W h2
            obtain ⟨_, _, ep, _, _, _, f2⟩ := HK.out W g4
            injection ep with ep
            injection ep with ep1 ep2
            subst ep1; subst ep2
            obtain ⟨_, _, ep, _, f3, f4⟩ := HB.out W g5
            injection ep with ep
            injection ep with ep1 ep2
            subst ep1; subst ep2
            exact ⟨⟨(HA.out.1.below h1).1, (HA.out.2.below h1).1⟩, g2, f2, f3, f4, h1⟩
          clear m1 m2 k0 b0 hcb hjj
          go_wp2_with fail
          refine wp_region_mono 31 [63, 64, 65, 66, 67, 68, 69, 70, 71, 72, 73, 74, 75, 76, 77, 78, 79, 80, 81, 82, 83, 84, 85, 86, 87, 88, 89, 90, 91, 92, 93] [[], [0], [], [2], [], [3, 4], [5], [6], [], [], [8, 9], [10], [11], [7, 12], [1, 13], [], [15], [], [17], [], [18, 19], [20], [21], [], [], [23, 24], [25], [26], [22, 27], [16, 28], [14, 29]] [fun v _ => v = .pointer (some ⟨W7.heap.size, 0, none⟩), fun v _ => v = .int .i64 q1, fun v _ => v = .pointer (some ⟨w.heap.size, 2, none⟩), fun v _ => v = .slice (some ⟨bk, ok, none⟩) l.ks.length c, fun v _ => v = .int .i64 jj, fun v _ => v = .pointer (some ⟨bk, ok + jj * 3, none⟩), fun v _ => v = .pointer (some ⟨bk, ok + jj * 3 + 2, none⟩), fun v _ => v = .int .i64 kd, fun v _ => v = .slice (some ⟨bb, ob, none⟩) b.length c', fun v _ => v = .int .i64 jj, fun v _ => v = .pointer (some ⟨bb, ob + jj * 2, none⟩), fun v _ => v = .pointer (some ⟨bb, ob + jj * 2, none⟩), fun v _ => v = .int .i64 bl, fun v _ => v = .int .i64 (kd * bl), fun v _ => v = .int .i64 (q1 + (kd * bl)), fun v _ => v = .pointer (some ⟨W7.heap.size, 1, none⟩), fun v _ => v = .int .i64 q2, fun v _ => v = .pointer (some ⟨w.heap.size, 2, none⟩), fun v _ => v = .slice (some ⟨bk, ok, none⟩) l.ks.length c, fun v _ => v = .int .i64 jj, fun v _ => v = .pointer (some ⟨bk, ok + jj * 3, none⟩), fun v _ => v = .pointer (some ⟨bk, ok + jj * 3 + 2, none⟩), fun v _ => v = .int .i64 kd, fun v _ => v = .slice (some ⟨bb, ob, none⟩) b.length c', fun v _ => v = .int .i64 jj, fun v _ => v = .pointer (some ⟨bb, ob + jj * 2, none⟩), fun v _ => v = .pointer (some ⟨bb, ob + jj * 2 + 1, none⟩), fun v _ => v = .int .i64 bh, fun v _ => v = .int .i64 (kd * bh), fun v _ => v = .int .i64 (q2 + (kd * bh)), fun v _ => v = .agg #[.int .i64 (q1 + (kd * bl)), .int .i64 (q2 + (kd * bh))]] (by kernel_rfl) (by kernel_rfl) ⟨st_eq _, st_eq _, st_eq _, st_eq _, st_eq _, st_eq _, st_eq _, st_eq _, st_eq _, st_eq _, st_eq _, st_eq _, st_eq _, st_eq _, st_eq _, st_eq _, st_eq _, st_eq _, st_eq _, st_eq _, st_eq _, st_eq _, st_eq _, st_eq _, st_eq _, st_eq _, st_eq _, st_eq _, st_eq _, st_eq _, st_eq _, trivial⟩ ?_ ?_
          · simp only [List.take_succ_cons, List.take_zero, steps, and_true]
            refine ⟨?_, ?_, ?_, ?_, ?_, ?_, ?_, ?_, ?_, ?_, ?_, ?_, ?_, ?_, ?_, ?_, ?_, ?_, ?_, ?_, ?_, ?_, ?_, ?_, ?_, ?_, ?_, ?_, ?_, ?_, ?_⟩
            · intro x W hB _; simp only [putX, setX, List.foldl_cons, List.foldl_nil]; refine ⟨?_⟩; go_simp; exact ⟨rfl, Below.refl _ _⟩
            · intro x W hB hN; simp only [needs, sAt, dAt] at hN; simp only [putX, setX, List.foldl_cons, List.foldl_nil]; obtain ⟨⟨d0, d1⟩, d2, d3, d4, d5, _⟩ := HXL.out W hB; refine ⟨?_⟩; go_simp; exact ⟨rfl, Below.refl _ _⟩
            · intro x W hB _; simp only [putX, setX, List.foldl_cons, List.foldl_nil]; refine ⟨?_⟩; go_simp; exact ⟨rfl, Below.refl _ _⟩
            · intro x W hB hN; simp only [needs, sAt, dAt] at hN; simp only [putX, setX, List.foldl_cons, List.foldl_nil]; obtain ⟨⟨d0, d1⟩, d2, d3, d4, d5, _⟩ := HXL.out W hB; refine ⟨?_⟩; go_simp; exact ⟨rfl, Below.refl _ _⟩
            · intro x W hB _; simp only [putX, setX, List.foldl_cons, List.foldl_nil]; refine ⟨?_⟩; go_simp; exact ⟨rfl, Below.refl _ _⟩
            · intro x W hB hN; simp only [needs, sAt, dAt] at hN; simp only [putX, setX, List.foldl_cons, List.foldl_nil]; refine ⟨?_⟩; go_simp; exact ⟨rfl, Below.refl _ _⟩
            · intro x W hB hN; simp only [needs, sAt, dAt] at hN; simp only [putX, setX, List.foldl_cons, List.foldl_nil]; refine ⟨?_⟩; go_simp; exact ⟨rfl, Below.refl _ _⟩
            · intro x W hB hN; simp only [needs, sAt, dAt] at hN; simp only [putX, setX, List.foldl_cons, List.foldl_nil]; obtain ⟨⟨d0, d1⟩, d2, d3, d4, d5, _⟩ := HXL.out W hB; refine ⟨?_⟩; go_simp; exact ⟨rfl, Below.refl _ _⟩
            · intro x W hB _; simp only [putX, setX, List.foldl_cons, List.foldl_nil]; refine ⟨?_⟩; go_simp; exact ⟨rfl, Below.refl _ _⟩
            · intro x W hB _; simp only [putX, setX, List.foldl_cons, List.foldl_nil]; refine ⟨?_⟩; go_simp; exact ⟨rfl, Below.refl _ _⟩
            · intro x W hB hN; simp only [needs, sAt, dAt] at hN; simp only [putX, setX, List.foldl_cons, List.foldl_nil]; refine ⟨?_⟩; go_simp; exact ⟨rfl, Below.refl _ _⟩
            · intro x W hB hN; simp only [needs, sAt, dAt] at hN; simp only [putX, setX, List.foldl_cons, List.foldl_nil]; refine ⟨?_⟩; go_simp; exact ⟨rfl, Below.refl _ _⟩
            · intro x W hB hN; simp only [needs, sAt, dAt] at hN; simp only [putX, setX, List.foldl_cons, List.foldl_nil]; obtain ⟨⟨d0, d1⟩, d2, d3, d4, d5, _⟩ := HXL.out W hB; refine ⟨?_⟩; go_simp; exact ⟨rfl, Below.refl _ _⟩
            · intro x W hB hN; simp only [needs, sAt, dAt] at hN; simp only [putX, setX, List.foldl_cons, List.foldl_nil]; refine ⟨?_⟩; go_simp; exact ⟨rfl, Below.refl _ _⟩
            · intro x W hB hN; simp only [needs, sAt, dAt] at hN; simp only [putX, setX, List.foldl_cons, List.foldl_nil]; refine ⟨?_⟩; go_simp; exact ⟨rfl, Below.refl _ _⟩
            · intro x W hB _; simp only [putX, setX, List.foldl_cons, List.foldl_nil]; refine ⟨?_⟩; go_simp; exact ⟨rfl, Below.refl _ _⟩
            · intro x W hB hN; simp only [needs, sAt, dAt] at hN; simp only [putX, setX, List.foldl_cons, List.foldl_nil]; obtain ⟨⟨d0, d1⟩, d2, d3, d4, d5, _⟩ := HXL.out W hB; refine ⟨?_⟩; go_simp; exact ⟨rfl, Below.refl _ _⟩
            · intro x W hB _; simp only [putX, setX, List.foldl_cons, List.foldl_nil]; refine ⟨?_⟩; go_simp; exact ⟨rfl, Below.refl _ _⟩
            · intro x W hB hN; simp only [needs, sAt, dAt] at hN; simp only [putX, setX, List.foldl_cons, List.foldl_nil]; obtain ⟨⟨d0, d1⟩, d2, d3, d4, d5, _⟩ := HXL.out W hB; refine ⟨?_⟩; go_simp; exact ⟨rfl, Below.refl _ _⟩
            · intro x W hB _; simp only [putX, setX, List.foldl_cons, List.foldl_nil]; refine ⟨?_⟩; go_simp; exact ⟨rfl, Below.refl _ _⟩
            · intro x W hB hN; simp only [needs, sAt, dAt] at hN; simp only [putX, setX, List.foldl_cons, List.foldl_nil]; refine ⟨?_⟩; go_simp; exact ⟨rfl, Below.refl _ _⟩
            · intro x W hB hN; simp only [needs, sAt, dAt] at hN; simp only [putX, setX, List.foldl_cons, List.foldl_nil]; refine ⟨?_⟩; go_simp; exact ⟨rfl, Below.refl _ _⟩
            · intro x W hB hN; simp only [needs, sAt, dAt] at hN; simp only [putX, setX, List.foldl_cons, List.foldl_nil]; obtain ⟨⟨d0, d1⟩, d2, d3, d4, d5, _⟩ := HXL.out W hB; refine ⟨?_⟩; go_simp; exact ⟨rfl, Below.refl _ _⟩
            · intro x W hB _; simp only [putX, setX, List.foldl_cons, List.foldl_nil]; refine ⟨?_⟩; go_simp; exact ⟨rfl, Below.refl _ _⟩
            · intro x W hB _; simp only [putX, setX, List.foldl_cons, List.foldl_nil]; refine ⟨?_⟩; go_simp; exact ⟨rfl, Below.refl _ _⟩
            · intro x W hB hN; simp only [needs, sAt, dAt] at hN; simp only [putX, setX, List.foldl_cons, List.foldl_nil]; refine ⟨?_⟩; go_simp; exact ⟨rfl, Below.refl _ _⟩
            · intro x W hB hN; simp only [needs, sAt, dAt] at hN; simp only [putX, setX, List.foldl_cons, List.foldl_nil]; refine ⟨?_⟩; go_simp; exact ⟨rfl, Below.refl _ _⟩
            · intro x W hB hN; simp only [needs, sAt, dAt] at hN; simp only [putX, setX, List.foldl_cons, List.foldl_nil]; obtain ⟨⟨d0, d1⟩, d2, d3, d4, d5, _⟩ := HXL.out W hB; refine ⟨?_⟩; go_simp; exact ⟨rfl, Below.refl _ _⟩
            · intro x W hB hN; simp only [needs, sAt, dAt] at hN; simp only [putX, setX, List.foldl_cons, List.foldl_nil]; refine ⟨?_⟩; go_simp; exact ⟨rfl, Below.refl _ _⟩
            · intro x W hB hN; simp only [needs, sAt, dAt] at hN; simp only [putX, setX, List.foldl_cons, List.foldl_nil]; refine ⟨?_⟩; go_simp; exact ⟨rfl, Below.refl _ _⟩
            · intro x W hB hN; simp only [needs, sAt, dAt] at hN; simp only [putX, setX, List.foldl_cons, List.foldl_nil]; refine ⟨?_⟩; go_simp; exact ⟨rfl, Below.refl _ _⟩
          · intro x W hB hA
            simp only [allSp] at hA
            have s2 := hA.2.2.2.2.2.2.2.2.2.2.2.2.2.2.2.2.2.2.2.2.2.2.2.2.2.2.2.2.2.2.1
            have h1 := (HXL.out W hB).2.2.2.2.2
            obtain ⟨d0, f0⟩ := HA.out.1.below h1
            obtain ⟨d1, f1⟩ := HA.out.2.below h1
            have HW1 := Lib.hid h1
            clear hA hB HXL h1
            simp only [putX, setX, List.foldl_cons, List.foldl_nil, List.drop_succ_cons, List.drop_zero, s2]
            clear s2
            go_wp2_with fail
            go_roundw
            case rel =>
              refine ⟨m + 1, by omega, by rw [HJJ.out]; go_num, ?_, ?_, below_set (below_set (below_tr HB7.out HW1.out) (Nat.le_refl _) _) (Nat.le_refl _) _⟩
              · rw [HEC.out.1]; exact ((HA.out.1.below HW1.out).set).other (by simp)
              · rw [HEC.out.2]; exact ((HA.out.2.below HW1.out).other (by simp)).set
            case measure => simp [intOf]; omega
        · obtain rfl : m = kh - kl := by omega
          have hle1 : ¬ ((kl + 1 + (kh - kl) : Nat) : Int) ≤ (kh : Int) := by omega
          have hle1' : decide (((kl + 1 + (kh - kl) : Nat) : Int) ≤ (kh : Int)) = false := decide_eq_false hle1
          generalize (carr l.ks b (x1, x2) (kl + 1) (kh - kl)) = q at *
          obtain ⟨q1, q2⟩ := q
          simp only at HA hcb E2
          have HDI := Lib.hid (fun W => distance_any (y1, y2) (q1, q2) W (by have := HSZ.out; simp only; omega) (by have := HSZ.out; simp only; omega) hcb.1 hcb.2)
          obtain ⟨⟨d0, _⟩, ⟨d1, _⟩⟩ := HA.out
          generalize kl + 1 + (kh - kl) = jj at *
          clear hcb
          go_wp2_with (go_at_call 107; refine (HDI.out _).mono ?_; rintro e w9 ⟨rfl, b9⟩)
          go_ret
          exact ⟨ret_int E2.out.symm, below_tr (HPW.out _ (below_tr HBW.out HB7.out)).2.2.2.2.2 b9⟩
end Go.Proofs.Ytekinmafdhgmpaa
