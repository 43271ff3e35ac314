/-
  Calls of strings and strconv with strings that are not known, by their contracts.
-/
import Derived.Test.YtlfmdkmjfokgbaaGreatDoorZZb
import Derived.Test.YtlfmdkmjfokgbaaGreatDoorZEd
import Derived.Shelf.Strings.Split
import Derived.Shelf.Small.Wraps
import Derived.Lib.ItoaLen
import Derived.Lib.IndexBytes
set_option linter.all false
namespace Go.Proofs.YtlfmdkmjfokgbaaGreatDoor.Cm
open Go Go.RowKit
theorem hr_none {V V' : Val} {φ : Phi} {O N : Objs} {w w' : World} (h : @HR V φ (heapO O) w) (hl : N.length = O.length) (hN : ∀ b, (heapO N).get b = none) (hw : w.heap.size ≤ w'.heap.size) : @HR V' φ (heapO N) w' := by
  have lt := fun b p e => @HR.lt V _ _ _ h b p e
  refine ⟨fun b o p e => ?_, fun b b' o o' p p' e => ?_, fun b p e => ⟨?_, ?_⟩, fun b _ => hN b, fun b o e => ?_⟩
  · rw [hN] at e; cases e
  · rw [hN] at e; cases e
  · have := (lt b p e).1; rw [heapO_n] at this ⊢; omega
  · have := (lt b p e).2; omega
  · rw [hN] at e; cases e
theorem none_get : ∀ {N : Objs}, (∀ o ∈ N, o = none) → ∀ b, (heapO N).get b = none := fun {N} h b => by
  rw [heapO_get]
  cases e : N[b]? with
  | none => rfl
  | some o => rw [h o (List.mem_of_getElem? e)]
theorem hr_get' {V : Val} {φ : Phi} {h h' : CH} {w : World} (hn : h'.n = h.n) (hg : ∀ b, h'.get b = h.get b) (hh : @HR V φ h w) : @HR V φ h' w :=
  ⟨fun b o p e => hh.ob b o p (by rw [← hg]; exact e), fun b b' o o' p p' e e' => hh.ap b b' o o' p p' (by rw [← hg]; exact e) (by rw [← hg]; exact e'), fun b p e => by rw [hn]; exact hh.lt b p e, fun b hb => by rw [hg]; exact hh.nw b (by rw [← hn]; exact hb), fun b o e => hh.gl b o (by rw [← hg]; exact e)⟩
theorem row_new {V V' : Val} {φ : Phi} {w : World} (hh : @HR V φ (heapO []) w) {arr : List Value} (hV : V'.lst 0 = arr) {n z : Nat} (hr : V'.ρ 0 = n) (hl : arr.length = n * z) (t : TypeId) : RPost V' (.gs 0 0 (.v 0) z true) [some (.rows 0 [] t false)] 0 0 φ w (.returned (.slice (some ⟨w.heap.size, 0, none⟩) n n)) (w.alloc (.cells arr.toArray t)) := by
  have hn0 : (heapO []).n = 0 := heapO_n _
  have hh' : @HR V' φ (heapO []) w := hr_none hh rfl (none_get (fun o h => nomatch h)) (Nat.le_refl _)
  have hle := @HR.put_le V' φ _ w hh' ⟨w.heap.size, 0, arr.length⟩
  rw [hn0] at hle
  have mv := @HR.new V' φ _ w hh' (.rows 0 [] t false) (.cells arr.toArray t (0, 0)) ⟨w.heap.size, 0, arr.length⟩ rfl (by
    refine ⟨arr.toArray, t, (0, 0), rfl, rfl, ?_, ?_, ?_, fun _ => ⟨rfl, rfl⟩⟩
    · show 0 + (V'.lst 0).length + 0 ≤ arr.length; rw [hV]; omega
    · show (List.drop 0 arr).take (V'.lst 0).length = V'.lst 0; rw [hV]; simp
    · exact .nil)
  rw [hn0] at mv
  refine ⟨_, φ.put 0 ⟨w.heap.size, 0, arr.length⟩, rfl, ⟨hle, fun b x e => ?_, rfl, rfl, rfl, by simp, fun r hr _ => Below.heap_alloc w _ r hr⟩, fun b hb => absurd hb (Nat.not_lt_zero _), ?_, @VR.gs V' _ 0 0 z n n (.v 0) true _ hr.symm (Nat.le_refl _) (.inl ⟨_, φ.put_same _ _, ?_, fun _ => ?_⟩), fun b x hb e => ?_⟩
  · by_cases c : b = 0
    · subst c; rw [φ.put_same] at e; injection e with e; subst e; exact .inr ⟨Nat.le_refl _, .inl (Nat.le_refl _)⟩
    · rw [Phi.put_other φ c] at e; exact .inl e
  · refine hr_get' ?_ (fun b => ?_) mv
    · rw [heapO_n]; show 1 = _ + 1; rw [hn0]
    · rw [heapO_get, CH.get_new, heapO_get, hn0]
      match b with
      | 0 => rfl
      | b + 1 => simp
  · simp
  · show 0 + 0 * z + n * z ≤ arr.length; rw [hl]; omega
  · by_cases c : b = 0
    · subst c; rw [φ.put_same] at e; injection e with e; subst e; exact .inl (Nat.le_refl _)
    · rw [Phi.put_other φ c] at e
      have := (@HR.lt V' _ _ _ hh' b x e).1
      rw [hn0] at this
      omega
def pieces (a0 a1 : Int) : List Int := (Lib.splitB (strOf a1) 0 (Lib.countB (strOf a0) (strOf a1)) (strOf a0)).map codeS
def SplitC (P : Program) (f : FuncId) (t : TypeId) : Prop := ∀ (s sep : ByteArray) (w : World), s.size < 4294967281 → sep.size = 1 → Calls P f #[.string s, .string sep] w fun e w' =>
  e = .returned (.slice (some ⟨w.heap.size, 0, none⟩) (Lib.countB s sep + 1 : Nat) (Lib.countB s sep + 1 : Nat)) ∧ w' = w.alloc (.cells ((Lib.splitB sep 0 (Lib.countB s sep) s).map Value.string).toArray t)
open Go.Shelf in
set_option maxHeartbeats 1000000 in
theorem split_one {P : Program} {ρ : Ren} (L : Lays.n146 P ρ) (hi : (P.info? (ρ.t 9)).map (fun i => (i.zero, i.size, i.bytes)) = some (some (.string ByteArray.empty), 1, 16)) : SplitC P (ρ.f 146) (ρ.t 9) := by
  intro s sep w hs h1
  obtain ⟨c, rfl⟩ := Lib.one_byte sep h1
  have hN : Lib.countB s ⟨#[c]⟩ ≤ s.size := Lib.countB_le ⟨#[c]⟩ (Nat.le_refl 1) s.size s (Nat.le_refl _)
  have hcnt : Calls P (ρ.f 138) #[.string s, .string ⟨#[c]⟩] w fun e w' => e = .returned (.int .i64 (Lib.countB s ⟨#[c]⟩)) ∧ w' = w :=
    (Any.strings_Count_one { L with } s c w).mono fun e w' h => ⟨by rw [h.1, show ((Lib.countB s ⟨#[c]⟩ : Nat) : Int) = ((Lib.count s.data.toList [c] : Nat) : Int) from rfl, Lib.count_one]; rfl, h.2⟩
  have core := Any.strings_genSplit_core { L with } hi s ⟨#[c]⟩ 0 (-1) (Lib.countB s ⟨#[c]⟩ + 1) w hs (Nat.le_refl 1) (Nat.zero_le _)
    (fun x a hx => (Any.strings_Index_one { L with } x c _).mono fun e w' h => ⟨by rw [h.1, ← Lib.index_one], h.2⟩) hcnt (by decide) (by decide) (by rw [if_pos (by decide)]; omega)
  have hlen := Lib.splitB_all ⟨#[c]⟩ (Nat.le_refl 1) 0 _ s rfl
  have hcells : Lib.cellsOf (Lib.splitB ⟨#[c]⟩ 0 (Lib.countB s ⟨#[c]⟩) s) (Lib.countB s ⟨#[c]⟩ + 1) = ((Lib.splitB ⟨#[c]⟩ 0 (Lib.countB s ⟨#[c]⟩) s).map Value.string).toArray := by rw [← hlen]; exact Lib.cellsOf_full _
  rw [Nat.add_sub_cancel, hlen, hcells] at core
  clear hcells hlen hcnt
  have t3 := L.t3; have t9 := L.t9; have t31 := L.t31
  have a3 := L.a3; have a9 := L.a9; have a31 := L.a31
  have z3 := L.z3; have v3 := L.v3; have z9 := L.z9; have v9 := L.v9; have z31 := L.z31; have v31 := L.v31
  have e221 : ∀ args w, (callFunc (ρ.f 221) args).run P w = .ok (.enter (ρ.f 221) args) w := enters_of L.f221 (by kernel_rfl) rfl
  go_enter L.f146, Body.n146_ntmps ρ
  go_wp2_with (go_at_fn (ρ.f 221); refine core.mono ?_; rintro e w' ⟨rfl, hw⟩; rw [hw])
  go_ret
  exact ⟨rfl, rfl⟩
theorem strs_codes : ∀ (l : List ByteArray), (l.map codeS).flatMap enS = l.map Value.string
  | [] => rfl
  | x :: l => by
    rw [List.map_cons, List.flatMap_cons, strs_codes l]
    show [Value.string (strOf (codeS x))] ++ _ = _
    rw [strOf_code]; rfl
theorem ext_split {P : Program} {f : Nat} {t : TypeId} (C : SplitC P f t) (hf : runsB P f 2 = true) (a0 a1 : Int) (h0 : (strOf a0).size < 4294967281) (h1 : (strOf a1).size = 1) :
    CallOk P f (vals [a0, a1] []) [.ss (.v 0), .ss (.v 1)] [] 0 (vals [((pieces a0 a1).length : Int)] [(pieces a0 a1).flatMap enS]) (.gs 0 0 (.v 0) 1 true) [some (.rows 0 [] t false)] := by
  refine ⟨runs_fn hf, fun φ args' w hh ha => ?_⟩
  cases ha with
  | cons g1 g2 => cases g1; cases g2 with
    | cons g1 g2 =>
      cases g1; cases g2
      have hlen : (Lib.splitB (strOf a1) 0 (Lib.countB (strOf a0) (strOf a1)) (strOf a0)).length = Lib.countB (strOf a0) (strOf a1) + 1 := Lib.splitB_all _ (by omega) 0 _ _ rfl
      have hp : (pieces a0 a1).length = Lib.countB (strOf a0) (strOf a1) + 1 := by unfold pieces; rw [List.length_map, hlen]
      refine (C (strOf a0) (strOf a1) w h0 h1).mono ?_
      rintro e w' ⟨rfl, rfl⟩
      have := row_new (V' := vals [((pieces a0 a1).length : Int)] [(pieces a0 a1).flatMap enS]) hh (arr := (Lib.splitB (strOf a1) 0 (Lib.countB (strOf a0) (strOf a1)) (strOf a0)).map Value.string) (strs_codes _) (n := Lib.countB (strOf a0) (strOf a1) + 1) (z := 1) (by show ((pieces a0 a1).length : Int) = _; rw [hp]) (by rw [List.length_map, hlen]; omega) t
      exact this
def CutPrefixC (P : Program) (f : FuncId) : Prop := ∀ (s p : ByteArray) (w : World), Calls P f #[.string s, .string p] w fun e w' => e = .returned (.tuple #[.string ⟨(Lib.trimPrefix s.data.toList p.data.toList).toArray⟩, .bool (Lib.hasPrefix s.data.toList p.data.toList)]) ∧ w' = w
def cutPre (a0 a1 : Int) : Int × Bool := (codeS ⟨(Lib.trimPrefix (strOf a0).data.toList (strOf a1).data.toList).toArray⟩, Lib.hasPrefix (strOf a0).data.toList (strOf a1).data.toList)
theorem ext_cutprefix {P : Program} {f : Nat} (C : CutPrefixC P f) (hf : runsB P f 2 = true) (a0 a1 : Int) :
    CallOk P f (vals [a0, a1] []) [.ss (.v 0), .ss (.v 1)] [] 0 (vals [(cutPre a0 a1).1, bI (cutPre a0 a1).2] []) (.tup [.ss (.v 0), .bs (.v 1)]) [] := by
  refine call_of (O := []) (N := []) hf rfl fun φ args' w hh ha => ?_
  cases ha with
  | cons g1 g2 => cases g1; cases g2 with
    | cons g1 g2 =>
      cases g1; cases g2
      refine ⟨_, (C (strOf a0) (strOf a1) w).mono fun e w' h => ?_, (by letI : Val := vals [(cutPre a0 a1).1, bI (cutPre a0 a1).2] []; exact VR.tup (.cons (.ss (.v 0)) (.cons (.bs (.v 1)) .nil))), fun w' hw => hr_none hh rfl (none_get (fun o h => nomatch h)) hw.size⟩
      obtain ⟨rfl, rfl⟩ := h
      refine ⟨?_, rfl, rfl, rfl, Nat.le_refl _, fun _ _ => rfl⟩
      show Ending.returned _ = Ending.returned (Value.tuple #[.string (strOf (cutPre a0 a1).1), .bool (bI (cutPre a0 a1).2 != 0)])
      unfold cutPre
      rw [strOf_code]
      cases Lib.hasPrefix (strOf a0).data.toList (strOf a1).data.toList <;> rfl
def itoaS (n : Int) : Int := codeS ⟨(Lib.itoa n).toArray⟩
theorem ext_itoaS {P : Program} {f g : Nat} (C : ItoaC P f) (hf : runsB P f 1 = true) (hg : P.globalNamed "internal/strconv.uint64pow10" = some g) {zs : List Nat} (hz : (zs.map fun (n : Nat) => (n : Int)) = Lib.pow10Tab) (n : Int) (h : -9223372036854775808 ≤ n ∧ n ≤ 9223372036854775807) :
    CallOk P f (vals [n] []) [.sym .i64 (.v 0)] [some (.glob g .u64 zs)] 1 (vals [itoaS n] []) (.ss (.v 0)) [none] := by
  refine call_of (O := [some (.glob g .u64 zs)]) (N := [none]) hf rfl fun φ args' w hh ha => ?_
  have htab := glob_tab (P := P) (b := 0) hh rfl hg
  rw [hz] at htab
  cases ha with
  | cons g1 g2 =>
    cases g1; cases g2
    refine ⟨_, (C n h.1 h.2 w htab).mono fun e w' h => ?_, @VR.ss (vals [itoaS n] []) φ (.v 0), fun w' hw => hr_none hh rfl (none_get (fun o h => by simpa using h)) hw.size⟩
    obtain ⟨rfl, k, os, rfl⟩ := h
    refine ⟨?_, below_grow w k os⟩
    show _ = Ending.returned (Value.string (strOf (itoaS n)))
    unfold itoaS; rw [strOf_code]
def joinS (l : List Int) (sep : Int) : List UInt8 := Lib.join (l.map fun x => (strOf x).data.toList) (strOf sep).data.toList
theorem enS_flat : ∀ l : List Int, l.flatMap enS = (l.map strOf).map Value.string
  | [] => rfl
  | a :: l => by rw [List.flatMap_cons, enS_flat l]; rfl
theorem ext_joinS {P : Program} {f : Nat} (C : JoinC P f) (D : ∀ (a : Option Addr) (c : Nat) (sep : ByteArray) (w : World), Calls P f #[.slice a 0 c, .string sep] w fun e w' => e = .returned (.string ⟨(Lib.join [] sep.data.toList).toArray⟩) ∧ w' = w) (hf : runsB P f 2 = true) {t : TypeId} (l : List Int) (sep : Int) (h : l.length ≤ 140737488355328 ∧ (joinS l sep).length ≤ 140737488355328) :
    CallOk P f (vals [(l.length : Int), sep] [l.flatMap enS]) [.gs 0 0 (.v 0) 1 false, .ss (.v 1)] [some (.rows 0 [] t true)] 1 (vals [codeS ⟨(joinS l sep).toArray⟩] []) (.ss (.v 0)) [none] := by
  refine call_of (O := [some (.rows 0 [] t true)]) (N := [none]) hf rfl fun φ args' w hh ha => ?_
  cases ha with
  | cons g1 g2 =>
    cases g2 with
    | cons g3 g4 =>
      cases g3; cases g4
      have g1 : @VR (vals [(l.length : Int), sep] [l.flatMap enS]) φ (.gs 0 0 (.v 0) 1 false) _ := g1
      cases g1 with
      | gs hn hc hA =>
        rename_i c n a
        have hn : n = l.length := by have : (n : Int) = (l.length : Int) := hn; omega
        subst hn
        have fin : ∀ {e : Ending} {w' : World}, e = .returned (.string ⟨(joinS l sep).toArray⟩) → Below w.heap.size w w' → e = .returned (.string (strOf (codeS ⟨(joinS l sep).toArray⟩))) ∧ Below w.heap.size w w' := fun he hb => ⟨by rw [he, strOf_code], hb⟩
        refine ⟨.string (strOf (codeS ⟨(joinS l sep).toArray⟩)), ?_, @VR.ss (vals [codeS ⟨(joinS l sep).toArray⟩] []) φ (.v 0), fun w' hw => hr_none hh rfl (none_get (fun o h => by simpa using h)) hw.size⟩
        have emp : l.length = 0 → Calls P f ⟨[.slice a l.length c, .string (strOf sep)]⟩ w (fun e w' => e = .returned (.string (strOf (codeS ⟨(joinS l sep).toArray⟩))) ∧ Below w.heap.size w w') := fun h0 => by
          have hl : l = [] := List.length_eq_zero_iff.1 h0
          subst hl
          exact (D a c (strOf sep) w).mono fun e w' h => fin h.1 (h.2 ▸ Below.refl _ _)
        rcases hA with ⟨p, hp, rfl, _⟩ | ⟨h0, _⟩
        · by_cases h0 : l.length = 0
          · exact emp h0
          · obtain ⟨cs, t', fz, h1, h2, h3, h4, _⟩ := @HR.ob (vals [(l.length : Int), sep] [l.flatMap enS]) _ _ _ hh 0 _ p (by rw [heapO_get]; rfl) hp
            have hlen : (l.flatMap enS).length = l.length := by
              have := flat_length (enc := enS) (z := 1) enS_len l
              omega
            have h4 : (cs.toList.drop p.o).take (l.flatMap enS).length = l.flatMap enS := h4
            rw [hlen] at h4
            have hcell : ∀ (j : Nat) (x : ByteArray), (l.map strOf)[j]? = some x → w.cell? ⟨p.r, p.o + 0 * 1 + j, none⟩ = some (.string x) := fun j x hx => by
              have hx' : (l.flatMap enS)[j]? = some (.string x) := by
                rw [enS_flat, List.getElem?_map, hx]; rfl
              have hj : j < l.length := by
                have := (List.getElem?_eq_some_iff.1 hx).1
                simpa using this
              rw [← h4, List.getElem?_take_of_lt hj, List.getElem?_drop] at hx'
              have := h1
              rw [show p.o + 0 * 1 + j = p.o + j by omega]
              simp only [World.cell?, h1]
              simpa using hx'
            have k := C p.r (p.o + 0 * 1) c (l.map strOf) (strOf sep) w hcell (@HR.lt (vals [(l.length : Int), sep] [l.flatMap enS]) _ _ _ hh 0 p hp).2 (by rw [List.length_map]; exact h.1) (by rw [List.length_map]; exact hc) (by rw [List.map_map]; exact h.2)
            rw [List.length_map] at k
            refine k.mono fun e w' hk => fin ?_ hk.2
            rw [hk.1, List.map_map]; rfl
        · exact emp h0
end Go.Proofs.YtlfmdkmjfokgbaaGreatDoor.Cm
