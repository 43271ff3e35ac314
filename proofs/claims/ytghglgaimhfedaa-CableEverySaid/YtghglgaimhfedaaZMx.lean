/-
  The law CableBalance: remainders, and the law where it says nothing.
-/
import Derived.Test.YtghglgaimhfedaaZMw
namespace Go.Proofs.Ytghglgaimhfedaa
open Go.RowKit Go.Shelf

theorem mod_math (n m : Int) (hm : 0 < m) : (if n.tmod m < 0 then n.tmod m + m else n.tmod m) = n % m := by
  have h1 := Int.mul_tdiv_add_tmod n m
  have h2 := Int.tmod_lt_of_pos n hm
  have h3 : -m < n.tmod m := by
    have := Int.lt_tmod_of_pos n hm
    omega
  by_cases h : n.tmod m < 0
  · rw [if_pos h]
    refine ((Int.ediv_emod_unique hm (a := n) (q := n.tdiv m - 1) (r := n.tmod m + m)).2 ⟨?_, by omega, by omega⟩).2.symm
    rw [Int.mul_sub]; omega
  · rw [if_neg h]
    exact ((Int.ediv_emod_unique hm (a := n) (q := n.tdiv m) (r := n.tmod m)).2 ⟨by omega, by omega, by omega⟩).2.symm
theorem Mod_any (n m : Int) (w : World) (hm : 0 < m) (hm' : m ≤ 1000000000000000000) :
    Calls Try.prog 39 #[.int .i64 n, .int .i64 m] w fun e w' => e = .returned (.int .i64 (n % m)) ∧ w = w' := by
  have E := Lib.hid (mod_math n m hm)
  have h2 := Int.tmod_lt_of_pos n hm
  have h3 : -m < n.tmod m := by
    have := Int.lt_tmod_of_pos n hm
    omega
  have hz : (m == 0) = false := by rw [beq_eq_false_iff_ne]; omega
  have hw1 : IntKind.i64.wrap (n.tmod m) = n.tmod m := IntWalk.i64_in _ (by omega)
  by_cases h : n.tmod m < 0
  · rw [if_pos h] at E
    have hw2 : IntKind.i64.wrap (n.tmod m + m) = n.tmod m + m := IntWalk.i64_in _ (by omega)
    go_enter Try.func39, Try.ntmps39
    go_wp2
    go_ret
    exact ⟨ret_int E.out, by trivial⟩
  · rw [if_neg h] at E
    go_enter Try.func39, Try.ntmps39
    go_wp2
    go_ret
    exact ⟨ret_int E.out, by trivial⟩
theorem run_store_int (w : World) (b o : Nat) (x : Int) {u : Value} (h : At w ⟨b, o, none⟩ u) :
    ∃ w', (Instr.storeAt 3 (.pointer (some ⟨b, o, none⟩)) (.int .i64 x)).run Try.prog w = .ok () w' ∧ w' = w.setCell ⟨b, o, none⟩ (.int .i64 x) := by
  obtain ⟨c0, f0⟩ := h
  refine ⟨_, ?_, rfl⟩
  go_simp
/-- What stays true while old memory stays as it is. -/
def Keeps (P : World → Prop) : Prop := ∀ w w', P w → Below w.heap.size w w' → P w'
theorem keeps_cell (p : Addr) (v : Value) : Keeps fun W => W.cell? p = some v := fun _ _ h hb => (hb.cell (cell_lt h)).trans h
theorem keeps_sl {α : Type} (enc : α → List Value) (s : Nat) (v : Value) (xs : List α) : Keeps fun W => Sl enc s W v xs := fun _ _ h hb => h.below hb
theorem keeps_below (w : World) : Keeps fun W => Below w.heap.size w W := fun _ _ h hb => below_tr h hb
theorem Keeps.and {P Q : World → Prop} (h : Keeps P) (k : Keeps Q) : Keeps fun W => P W ∧ Q W := fun _ _ ⟨a, b⟩ hb => ⟨h _ _ a hb, k _ _ b hb⟩
theorem keeps_cells (b : Nat) (x y : Int) (v : Value) : Keeps fun W => W.cell? ⟨b, 0, none⟩ = some (.int .i64 x) ∧ W.cell? ⟨b, 1, none⟩ = some (.int .i64 y) ∧ W.cell? ⟨b, 2, none⟩ = some v := (keeps_cell _ _).and ((keeps_cell _ _).and (keeps_cell _ _))
theorem box_cells {w : World} {b : Nat} {x y : Int} (h : Sl e1 1 w (.slice (some ⟨b, 0, none⟩) 2 2) [x, y]) : w.cell? ⟨b, 0, none⟩ = some (.int .i64 x) ∧ w.cell? ⟨b, 1, none⟩ = some (.int .i64 y) := by
  obtain ⟨b', o', e, _, c0⟩ := h.at1 (k := 0) (by simp)
  obtain ⟨b2, o2, e2, _, c1⟩ := h.at1 (k := 1) (by simp)
  injection e with e
  injection e with ea eb
  injection e2 with e2
  injection e2 with ec ed
  subst ea; subst eb; subst ec; subst ed
  exact ⟨by simpa using c0, by simpa using c1⟩
set_option maxRecDepth 100000 in
set_option maxHeartbeats 1000000 in
theorem balance_far (v u : Value) (l : Ln) (cu : List Int) (p : Int × Int) (w : World) (hs : Sl e3 3 w v l.ks) (hu : Sl e1 1 w u cu) (hn : ¬ (l.ks.length ≤ 12 ∧ cu.length ≤ 14 ∧ currentsErr l cu = 0)) :
    Calls Try.prog 5 #[.agg #[.int .i64 l.x, .int .i64 l.z, v], u, .agg #[.int .i64 p.1, .int .i64 p.2]] w fun e w' => e = .returned (.bool true) ∧ Below w.heap.size w w' := by
  have HS := Lib.hid hs
  have HU := Lib.hid hu
  obtain ⟨A, c, rfl, hcap⟩ := hs.form
  obtain ⟨A', c', rfl, hcap'⟩ := hu.form
  clear hs hu hcap hcap'
  by_cases h1 : l.ks.length ≤ 12 ∧ cu.length ≤ 14
  · have f1 := fewB_true h1.1 h1.2
    obtain ⟨h2, h3⟩ := h1
    have HLE := Lib.hid (fun v w h1 => LineErr_any v l w h1 (by omega))
    have HCE := Lib.hid (fun v u w h1 h2 => rCurrentsErr_any v u l cu w h1 h2 (by omega))
    have h0 : ¬ currentsErr l cu = 0 := fun h => hn ⟨h2, h3, h⟩
    have h0' := ne1 h0
    clear hn h2 h3
    by_cases h4 : lineErr l = 0
    · have e4 : currentsErr l cu = cursErr l cu := if_pos h4
      rw [h4] at HLE
      rw [← e4] at HCE
      clear e4 h4 h0
      generalize currentsErr l cu = d at *
      go_enter Try.func5, Try.ntmps5
      go_wp2_with (first
      | (go_at_call 14; refine (awakeB _).mono ?_; rintro e w1 ⟨rfl, b1⟩; have HX := law_hx HS.out (fun W => Sl e1 1 W (.slice A' cu.length c') cu) (fun W hW => HU.out.below hW) (below_tr (below_alloc1 _ _) b1); clear b1; have HB1 := Lib.hid (Below.refl w1.heap.size w1); obtain ⟨g0, g1, g2⟩ := (HX.out _ HB1.out).1)
      | (go_at_call 15; refine (few_any _ l _ _ (HX.out _ HB1.out).2.1).mono ?_; rintro e w2 ⟨rfl, b2⟩; have HB2 := Lib.hid (below_tr HB1.out b2); clear b2 g0 g1 g2; obtain ⟨g0, g1, g2⟩ := (HX.out _ HB2.out).1)
      | (go_at_call 33; refine (HLE.out _ _ (HX.out _ HB2.out).2.1).mono ?_; rintro e w3 ⟨rfl, b3⟩; have HB3 := Lib.hid (below_tr HB2.out b3); clear b3 g0 g1 g2; obtain ⟨g0, g1, g2⟩ := (HX.out _ HB3.out).1)
      | (go_at_call 34; refine (HCE.out _ _ _ (HX.out _ HB3.out).2.1 (HX.out _ HB3.out).2.2.1).mono ?_; rintro e w4 ⟨rfl, b4⟩; have HB4 := Lib.hid (below_tr HB3.out b4); clear b4 g0 g1 g2))
      go_ret
      exact ⟨rfl, (HX.out _ HB4.out).2.2.2⟩
    · have e4 : currentsErr l cu = lineErr l := if_neg h4
      rw [← e4] at HLE
      clear e4 h4 h0
      generalize currentsErr l cu = d at *
      go_enter Try.func5, Try.ntmps5
      go_wp2_with (first
      | (go_at_call 14; refine (awakeB _).mono ?_; rintro e w1 ⟨rfl, b1⟩; have HX := law_hx HS.out (fun W => Sl e1 1 W (.slice A' cu.length c') cu) (fun W hW => HU.out.below hW) (below_tr (below_alloc1 _ _) b1); clear b1; have HB1 := Lib.hid (Below.refl w1.heap.size w1); obtain ⟨g0, g1, g2⟩ := (HX.out _ HB1.out).1)
      | (go_at_call 15; refine (few_any _ l _ _ (HX.out _ HB1.out).2.1).mono ?_; rintro e w2 ⟨rfl, b2⟩; have HB2 := Lib.hid (below_tr HB1.out b2); clear b2 g0 g1 g2; obtain ⟨g0, g1, g2⟩ := (HX.out _ HB2.out).1)
      | (go_at_call 33; refine (HLE.out _ _ (HX.out _ HB2.out).2.1).mono ?_; rintro e w3 ⟨rfl, b3⟩; have HB3 := Lib.hid (below_tr HB2.out b3); clear b3 g0 g1 g2; obtain ⟨g0, g1, g2⟩ := (HX.out _ HB3.out).1)
      | (go_at_call 34; refine (HCE.out _ _ _ (HX.out _ HB3.out).2.1 (HX.out _ HB3.out).2.2.1).mono ?_; rintro e w4 ⟨rfl, b4⟩; have HB4 := Lib.hid (below_tr HB3.out b4); clear b4 g0 g1 g2))
      go_ret
      exact ⟨rfl, (HX.out _ HB3.out).2.2.2⟩
  · have f1 : fewB l.ks.length (cu.length : Int) = false := fewB_false h1
    clear hn h1
    go_enter Try.func5, Try.ntmps5
    go_wp2_with (first
      | (go_at_call 14; refine (awakeB _).mono ?_; rintro e w1 ⟨rfl, b1⟩; have HX := law_hx HS.out (fun W => Sl e1 1 W (.slice A' cu.length c') cu) (fun W hW => HU.out.below hW) (below_tr (below_alloc1 _ _) b1); clear b1; have HB1 := Lib.hid (Below.refl w1.heap.size w1); obtain ⟨g0, g1, g2⟩ := (HX.out _ HB1.out).1)
      | (go_at_call 15; refine (few_any _ l _ _ (HX.out _ HB1.out).2.1).mono ?_; rintro e w2 ⟨rfl, b2⟩; have HB2 := Lib.hid (below_tr HB1.out b2); clear b2 g0 g1 g2; obtain ⟨g0, g1, g2⟩ := (HX.out _ HB2.out).1)
      | (go_at_call 33; refine (HLE.out _ _ (HX.out _ HB2.out).2.1).mono ?_; rintro e w3 ⟨rfl, b3⟩; have HB3 := Lib.hid (below_tr HB2.out b3); clear b3 g0 g1 g2; obtain ⟨g0, g1, g2⟩ := (HX.out _ HB3.out).1)
      | (go_at_call 34; refine (HCE.out _ _ _ (HX.out _ HB3.out).2.1 (HX.out _ HB3.out).2.2.1).mono ?_; rintro e w4 ⟨rfl, b4⟩; have HB4 := Lib.hid (below_tr HB3.out b4); clear b4 g0 g1 g2))
    go_ret
    exact ⟨rfl, (HX.out _ HB2.out).2.2.2⟩
end Go.Proofs.Ytghglgaimhfedaa
