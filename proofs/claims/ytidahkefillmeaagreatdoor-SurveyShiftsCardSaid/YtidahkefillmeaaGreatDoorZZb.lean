/-
  Calls of the library, by contracts that are proved once for every program.
-/
import Derived.Test.YtidahkefillmeaaGreatDoorZEc
import Derived.Lib.LaidTab
import Derived.Shelf.Strings.OnBuilder
import Derived.Shelf.Strconv.Itoa3
set_option linter.all false
namespace Go.Proofs.YtidahkefillmeaaGreatDoor.Cm
open Go Go.RowKit
theorem runs_fn {P : Program} {f : FuncId} {n : Nat} (h : runsB P f n = true) : ∃ fn cd, P.funcs[f]? = some fn ∧ fn.body = some cd ∧ (fn.name == "runtime.NumGoroutine") = false := by
  unfold runsB at h
  split at h
  · rename_i fn hf
    simp only [Bool.and_eq_true, Bool.not_eq_true'] at h
    obtain ⟨⟨h1, h2⟩, _⟩ := h
    split at h1
    · rename_i cd hcd
      exact ⟨fn, cd, hf, hcd, h2⟩
    · cases h1
  · cases h
theorem call_of {P : Program} {f n : Nat} {V V' : Val} {args : List CV} {O N : Objs} {r : CV} (hf : runsB P f n = true) (hN : N.length = O.length) (h : ∀ (φ : Phi) (args' : List Value) (w : World), @HR V φ (heapO O) w → @VRs V φ args args' →
    ∃ u, Calls P f ⟨args'⟩ w (fun e w' => e = .returned u ∧ Below w.heap.size w w') ∧ @VR V' φ r u ∧ ∀ w', Went φ O.length O.length w φ w' → @HR V' φ (heapO N) w') : CallOk P f V args O O.length V' r N := by
  refine ⟨runs_fn hf, fun φ args' w hh ha => ?_⟩
  obtain ⟨u, h1, h2, h3⟩ := h φ args' w hh ha
  refine h1.mono ?_
  rintro e w' ⟨rfl, hb⟩
  have hw : Went φ O.length O.length w φ w' := ⟨Phi.le_refl φ, fun _ _ h => .inl h, hb.os, hb.tape, hb.output, hb.size, fun r hr _ => hb.block r hr⟩
  refine ⟨u, φ, rfl, hw, fun _ _ => rfl, h3 w' hw, h2, fun b p hb1 ep => ?_⟩
  have := (@HR.lt V _ _ _ hh b p ep).1
  rw [heapO_n] at this
  omega
theorem call_same {P : Program} {f n : Nat} {V : Val} {args : List CV} {O : Objs} {r : CV} (hf : runsB P f n = true) (h : ∀ (φ : Phi) (args' : List Value) (w : World), @HR V φ (heapO O) w → @VRs V φ args args' →
    ∃ u, Calls P f ⟨args'⟩ w (fun e w' => e = .returned u ∧ Below w.heap.size w w') ∧ @VR V φ r u) : CallOk P f V args O O.length V r O :=
  call_of hf rfl fun φ args' w hh ha => by
    obtain ⟨u, h1, h2⟩ := h φ args' w hh ha
    exact ⟨u, h1, h2, fun w' hw => @HR.went_same V _ _ _ _ O.length hh (by rw [heapO_n]; exact hw)⟩
theorem glob_tab {P : Program} {V : Val} {φ : Phi} {h : CH} {w : World} {b g : Nat} {k : IntKind} {zs : List Nat} (hh : @HR V φ h w) (hb : h.get b = some (.glob g k zs)) {name : String} (hg : P.globalNamed name = some g) : Lib.TabIs P w name k (zs.map fun (n : Nat) => (n : Int)) := by
  obtain ⟨p, hp⟩ := @HR.gl V _ _ _ hh b _ hb rfl
  obtain ⟨h1, _, _, t, fz, h4⟩ := @HR.ob V _ _ _ hh b _ p hb hp
  unfold Lib.TabIs World.var?
  rw [hg, Option.bind_some, ← h1, h4, List.map_map]
  rfl
theorem below_grow (w : World) (k : Nat) (os : Array Obj) : Below w.heap.size w (Sort.grow (w.drewN k) os) :=
  ⟨rfl, rfl, rfl, by show w.heap.size ≤ (w.heap ++ os).size; simp, fun j hj => by
    show (w.heap ++ os)[j]? = w.heap[j]?
    rw [Array.getElem?_append_left hj]⟩
def ItoaC (P : Program) (f : FuncId) : Prop := ∀ (n : Int), -9223372036854775808 ≤ n → n ≤ 9223372036854775807 → ∀ w : World, Lib.TabIs P w "internal/strconv.uint64pow10" .u64 Lib.pow10Tab →
  Calls P f #[.int .i64 n] w fun e w' => e = .returned (.string ⟨(Lib.itoa n).toArray⟩) ∧ ∃ k os, w' = Sort.grow (w.drewN k) os
theorem ext_itoa {P : Program} {f g : Nat} (C : ItoaC P f) (hf : runsB P f 1 = true) (hg : P.globalNamed "internal/strconv.uint64pow10" = some g) {zs : List Nat} (hz : (zs.map fun (n : Nat) => (n : Int)) = Lib.pow10Tab) {n : Int} (h : (decide (-9223372036854775808 ≤ n) && decide (n ≤ 9223372036854775807)) = true) {s : ByteArray} (hs : (⟨(Lib.itoa n).toArray⟩ : ByteArray) = s) :
    CallOk P f (vals [] []) [.int .i64 n] [some (.glob g .u64 zs)] 1 (vals [] []) (.str s) [some (.glob g .u64 zs)] := by
  simp only [Bool.and_eq_true, decide_eq_true_eq] at h
  refine call_same (O := [some (.glob g .u64 zs)]) hf fun φ args' w hh ha => ?_
  have htab := glob_tab (P := P) (b := 0) hh rfl hg
  rw [hz] at htab
  refine ⟨.string s, ?_, @VR.str (vals [] []) φ s⟩
  cases ha with
  | cons h1 h2 =>
    cases h1; cases h2
    refine (C n h.1 h.2 w htab).mono ?_
    rintro e w' ⟨rfl, k, os, rfl⟩
    exact ⟨by rw [hs], below_grow w k os⟩
def JoinC (P : Program) (f : FuncId) : Prop := ∀ (bk o c : Nat) (xs : List ByteArray) (sep : ByteArray) (w : World), (∀ (j : Nat) x, xs[j]? = some x → w.cell? ⟨bk, o + j, none⟩ = some (.string x)) → bk < w.heap.size → xs.length ≤ 140737488355328 → xs.length ≤ c → (Lib.join (xs.map (·.data.toList)) sep.data.toList).length ≤ 140737488355328 →
  Calls P f #[.slice (some ⟨bk, o, none⟩) xs.length c, .string sep] w fun e w' => e = .returned (.string ⟨(Lib.join (xs.map (·.data.toList)) sep.data.toList).toArray⟩) ∧ Below w.heap.size w w'
theorem strs_val {V : Val} {φ : Phi} : ∀ {xs : List ByteArray} {vs : List Value}, @VRs V φ (xs.map CV.str) vs → vs = xs.map Value.string
  | [], _, h => by cases h; rfl
  | x :: xs, _, h => by
    cases h with
    | cons h1 h2 =>
      cases h1
      rw [strs_val h2]; rfl
theorem ext_join {P : Program} {f : Nat} (C : JoinC P f) (hf : runsB P f 2 = true) {t : TypeId} {ro : Bool} {xs : List ByteArray} {sep s : ByteArray} (hx : (Nat.blt 0 xs.length && Nat.ble xs.length 140737488355328 && Nat.ble (Lib.join (xs.map (·.data.toList)) sep.data.toList).length 140737488355328) = true)
    (hs : (⟨(Lib.join (xs.map (·.data.toList)) sep.data.toList).toArray⟩ : ByteArray) = s) :
    CallOk P f (vals [] []) [.sl 0 0 xs.length 1, .str sep] [some (.cells (xs.map CV.str) t ro)] 1 (vals [] []) (.str s) [some (.cells (xs.map CV.str) t ro)] := by
  simp only [Bool.and_eq_true] at hx
  obtain ⟨⟨hx0, hx1⟩, hx2⟩ := hx
  have hx0 : 0 < xs.length := Nat.le_of_ble_eq_true hx0
  have hx1 := Nat.le_of_ble_eq_true hx1
  have hx2 := Nat.le_of_ble_eq_true hx2
  refine call_same (O := [some (.cells (xs.map CV.str) t ro)]) hf fun φ args' w hh ha => ?_
  refine ⟨.string s, ?_, @VR.str (vals [] []) φ s⟩
  cases ha with
  | cons h1 h2 =>
    cases h2 with
    | cons h2 h3 =>
      cases h2; cases h3
      cases h1 with
      | sl hp ho hn hz =>
        rename_i o' c p
        have ho : o' = p.o := by rcases ho with h | h <;> omega
        subst ho
        obtain ⟨cs, fz, g1, g2, g3, g4, _⟩ := @HR.ob (vals [] []) _ _ _ hh 0 (.cells (xs.map CV.str) t ro) p rfl hp
        have g5 := strs_val g4
        have hlt := (@HR.lt (vals [] []) _ _ _ hh 0 p hp).2
        refine (C p.r p.o c xs sep w (fun j x hj => ?_) hlt hx1 hn hx2).mono ?_
        · have hjl := (List.getElem?_eq_some_iff.1 hj).1
          unfold World.cell?
          simp only [g1]
          have := congrArg (fun l : List Value => l[j]?) g5
          simp only [List.getElem?_take_of_lt (show j < (xs.map CV.str).length by simpa using hjl), List.getElem?_drop, Array.getElem?_toList, List.getElem?_map, hj, Option.map_some] at this
          exact this
        · rintro e w' ⟨rfl, hb⟩
          exact ⟨by rw [hs], hb⟩
end Go.Proofs.YtidahkefillmeaaGreatDoor.Cm
