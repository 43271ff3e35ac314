/-
  Arguments of a law, opened by the kinds of their cells.
-/
import Derived.Test.YthffbfkcmbgghaaGreatZKd
import Derived.ChangeArms
import Derived.Test.YthffbfkcmbgghaaGreatZEe
import Derived.Test.YthffbfkcmbgghaaGreatChecked
set_option linter.all false
namespace Go.Proofs.YthffbfkcmbgghaaGreat.Cm
open Go Go.ChangeShapes Go.WideShapes Go.ChangeAt Go.RowKit Go.Deep
theorem lawOwn : ownKnob Tryz.prog.godebug = none := by kernel_rfl
theorem lawLaid : laidOutB Tryz.prog = true := by kernel_rfl
structure Rg64 (n : Int) : Prop where
 lo : -9223372036854775808 ≤ n
 hi : n ≤ 9223372036854775807
inductive K1 where
 | i
 | b
 | s
inductive KT where
 | c (k : K1)
 | l (ks : List K1)
def okK1 : K1 → Value → Prop
 | .i, v => ∃ n : Int, v = .int .i64 n ∧ Rg64 n
 | .b, v => ∃ b : Bool, v = .bool b
 | .s, v => ∃ n : Int, v = .string (strOf n)
def okK1s : List K1 → List Value → Prop
 | [], [] => True
 | k :: ks, v :: vs => okK1 k v ∧ okK1s ks vs
 | _, _ => False
def okKT (w : World) : KT → Value → Prop
 | .c k, v => okK1 k v
 | .l ks, v => ∃ xs : List { x : List Value // okK1s ks x }, Sl Subtype.val ks.length w v xs
def okKTs (w : World) : List KT → List Value → Prop
 | [], [] => True
 | k :: ks, v :: vs => okKT w k v ∧ okKTs w ks vs
 | _, _ => False
def plainK : List KT → Option (List K1)
 | [] => some []
 | .c k :: r => (plainK r).map (k :: ·)
 | .l _ :: _ => none
def flatF (P : Program) (g : TypeId → Option (List KT)) : Nat → List Field → Option (List KT)
 | _, [] => some []
 | o, f :: r => match g f.type with
  | some k => bif Nat.beq f.offset o && Nat.beq (P.cellsOf f.type) k.length then (flatF P g (o + k.length) r).map (k ++ ·) else none
  | none => none
def repK : Nat → List KT → List KT
 | 0, _ => []
 | n + 1, k => k ++ repK n k
def flatT (P : Program) : Nat → TypeId → Option (List KT)
 | 0, _ => none
 | n + 1, t => match P.underlying t with
  | some (.int .i64) => some [.c .i]
  | some .bool => some [.c .b]
  | some .string => some [.c .s]
  | some (.struct fs) => match flatF P (flatT P n) 0 fs.toList with
   | some ks => bif Nat.beq (P.cellsOf t) ks.length then some ks else none
   | none => none
  | some (.array m e) => match flatT P n e with
   | some ks => bif Nat.beq (P.cellsOf e) ks.length && Nat.beq (P.cellsOf t) (m * ks.length) then some (repK m ks) else none
   | none => none
  | some (.slice e) => match flatT P n e with
   | some ks => match plainK ks with
    | some ps => bif Nat.beq (P.cellsOf e) ps.length && Nat.blt 0 ps.length then some [.l ps] else none
    | none => none
   | none => none
  | _ => none
theorem lit_rng {n : Int} (h : (Lit.int .i64 n).wf = true) : Rg64 n := by
 have h' : (decide (IntKind.i64.min ≤ n) && decide (n ≤ IntKind.i64.max)) = true := h
 simp only [Bool.and_eq_true, decide_eq_true_eq] at h'
 exact ⟨h'.1, h'.2⟩
section
variable {w : World}
theorem okKTs_app : ∀ {a b : List KT} {x y : List Value}, okKTs w a x → okKTs w b y → okKTs w (a ++ b) (x ++ y)
 | [], _, [], _, _, h => h
 | [], _, _ :: _, _, h, _ => h.elim
 | _ :: _, _, [], _, h, _ => h.elim
 | _ :: _, _, _ :: _, _, h, k => ⟨h.1, okKTs_app h.2 k⟩
theorem okK1s_len : ∀ {a : List K1} {x : List Value}, okK1s a x → x.length = a.length
 | [], [], _ => rfl
 | [], _ :: _, h => h.elim
 | _ :: _, [], h => h.elim
 | _ :: _, _ :: _, h => congrArg (· + 1) (okK1s_len h.2)
theorem ktI {ks : List KT} {cs : List Value} (h : okKTs w (.c .i :: ks) cs) : ∃ (z : Int) (c : List Value), cs = .int .i64 z :: c ∧ Rg64 z ∧ okKTs w ks c := by
 cases cs with
 | nil => exact h.elim
 | cons v vs => obtain ⟨⟨z, rfl, q⟩, h2⟩ := h; exact ⟨z, vs, rfl, q, h2⟩
theorem ktN {cs : List Value} (h : okKTs w [] cs) : cs = [] := by
 cases cs with
 | nil => rfl
 | cons v vs => exact h.elim
theorem k1I {ks : List K1} {cs : List Value} (h : okK1s (.i :: ks) cs) : ∃ (z : Int) (c : List Value), cs = .int .i64 z :: c ∧ Rg64 z ∧ okK1s ks c := by
 cases cs with
 | nil => exact h.elim
 | cons v vs => obtain ⟨⟨z, rfl, q⟩, h2⟩ := h; exact ⟨z, vs, rfl, q, h2⟩
theorem k1S {ks : List K1} {cs : List Value} (h : okK1s (.s :: ks) cs) : ∃ (z : Int) (c : List Value), cs = .string (strOf z) :: c ∧ True ∧ okK1s ks c := by
 cases cs with
 | nil => exact h.elim
 | cons v vs => obtain ⟨⟨z, rfl⟩, h2⟩ := h; exact ⟨z, vs, rfl, trivial, h2⟩
theorem k1N {cs : List Value} (h : okK1s [] cs) : cs = [] := by
 cases cs with
 | nil => rfl
 | cons v vs => exact h.elim
theorem plainK_ok : ∀ {a : List KT} {p : List K1} {x : List Value}, plainK a = some p → okKTs w a x → okK1s p x
 | [], p, x, e, h => by
  injection e with e; subst e
  cases x with
  | nil => trivial
  | cons _ _ => exact h.elim
 | .c k :: r, p, x, e, h => by
  unfold plainK at e
  rw [Option.map_eq_some_iff] at e
  obtain ⟨p', e1, rfl⟩ := e
  cases x with
  | nil => exact h.elim
  | cons v vs => exact ⟨h.1, plainK_ok e1 h.2⟩
 | .l _ :: _, p, x, e, h => by cases e
end
section
variable {H : Type} {encH : TypeId × Value → H} {P : Program} {w : World} {base : Nat} {spare : Nat → Bool} {held : Bool}
theorem flatF_ok {g : TypeId → Option (List KT)} (hg : ∀ {t : TypeId} {ks : List KT}, g t = some ks → ∀ {fuel : Nat} {cs : List Value} {x : DataW H × List MemPlace}, DataW.trod encH P w base spare held fuel t cs = some x → okKTs w ks cs) :
  ∀ {fs : List Field} {o : Nat} {ks : List KT}, flatF P g o fs = some ks → ∀ {cs : List Value}, cs.length = o + ks.length → (∀ f ∈ fs, ∃ n x, DataW.trod encH P w base spare held n f.type ((cs.drop f.offset).take (P.cellsOf f.type)) = some x) → okKTs w ks (cs.drop o)
 | [], o, ks, e, cs, hl, _ => by
  injection e with e; subst e
  rw [List.drop_of_length_le (by simp at hl; omega)]
  trivial
 | f :: r, o, ks, e, cs, hl, h => by
  unfold flatF at e
  split at e
  ·rename_i k hk
   obtain ⟨h1, h2⟩ := bif_s e
   rw [Option.map_eq_some_iff] at h2
   obtain ⟨ks', h3, rfl⟩ := h2
   simp only [Bool.and_eq_true] at h1
   have e1 := beq_s h1.1
   have e2 := beq_s h1.2
   obtain ⟨n, x, hx⟩ := h f (List.mem_cons_self ..)
   rw [e1, e2] at hx
   have a1 := hg hk hx
   rw [List.length_append] at hl
   have a2 := flatF_ok hg h3 (cs := cs) (by omega) (fun f' hf' => h f' (List.mem_cons_of_mem _ hf'))
   rw [← List.drop_drop] at a2
   have := okKTs_app a1 a2
   rwa [List.take_append_drop] at this
  ·cases e
theorem rep_ok {k : List KT} : ∀ {m : Nat} {cs : List Value}, cs.length = m * k.length → (∀ i, i < m → okKTs w k ((cs.drop (i * k.length)).take k.length)) → okKTs w (repK m k) cs
 | 0, cs, hl, _ => by
  have : cs = [] := List.eq_nil_of_length_eq_zero (by simpa using hl)
  subst this
  trivial
 | m + 1, cs, hl, h => by
  have h0 := h 0 (by omega)
  rw [Nat.zero_mul, List.drop_zero] at h0
  have h1 := rep_ok (k := k) (m := m) (cs := cs.drop k.length) (by rw [List.length_drop, hl, Nat.add_mul]; omega) fun i hi => by
   have := h (i + 1) (by omega)
   rwa [List.drop_drop, show k.length + i * k.length = (i + 1) * k.length by rw [Nat.add_mul]; omega]
  have := okKTs_app h0 h1
  rwa [List.take_append_drop] at this
theorem trod_kinds : ∀ {n : Nat} {t : TypeId} {ks : List KT}, flatT P n t = some ks → ∀ {fuel : Nat} {cs : List Value} {x : DataW H × List MemPlace}, DataW.trod encH P w base spare held fuel t cs = some x → okKTs w ks cs
 | 0, t, ks, e, _, _, _, _ => by cases e
 | n + 1, t, ks, e, fuel, cs, x, h => by
  unfold flatT at e
  split at e
  ·rename_i ht
   injection e with e; subst e
   obtain ⟨a, ha, _, hwf⟩ := DataW.trod_int ht h
   rw [ha]
   exact ⟨⟨a, rfl, lit_rng hwf⟩, trivial⟩
  ·rename_i ht
   injection e with e; subst e
   obtain ⟨a, ha, _⟩ := DataW.trod_bool ht h
   rw [ha]
   exact ⟨⟨a, rfl⟩, trivial⟩
  ·rename_i ht
   injection e with e; subst e
   obtain ⟨a, ha, _⟩ := DataW.trod_string ht h
   rw [ha]
   exact ⟨⟨codeS a, by rw [strOf_code]⟩, trivial⟩
  ·rename_i fs ht
   split at e
   ·rename_i ks' hf
    obtain ⟨h1, h2⟩ := bif_s e
    injection h2 with h2; subst h2
    obtain ⟨xs, m, _, _, hl, hxl, hx⟩ := DataW.trod_struct ht h
    have := flatF_ok (P := P) (encH := encH) (base := base) (spare := spare) (held := held) (w := w) (fun {t} {ks} e => trod_kinds e) hf (cs := cs) (by rw [hl, beq_s h1, Nat.zero_add]) fun f hf' => by
     obtain ⟨i, hi⟩ := List.mem_iff_getElem?.1 hf'
     rw [Array.getElem?_toList] at hi
     have hlt : i < xs.length := by rw [hxl]; exact (Array.getElem?_eq_some_iff.1 hi).1
     exact ⟨m, _, (hx i f hi).trans (List.getElem?_eq_getElem hlt)⟩
    simpa using this
   ·cases e
  ·rename_i m el ht
   split at e
   ·rename_i ks' hf
    obtain ⟨h1, h2⟩ := bif_s e
    injection h2 with h2; subst h2
    simp only [Bool.and_eq_true] at h1
    have e1 := beq_s h1.1
    have e2 := beq_s h1.2
    obtain ⟨xs, m', _, _, hl, hxl, hx⟩ := DataW.trod_array ht h
    refine rep_ok (by rw [hl, e2]) fun i hi => ?_
    have := hx i hi
    rw [e1, List.getElem?_eq_getElem (by omega)] at this
    exact trod_kinds hf this
   ·cases e
  ·rename_i el ht
   split at e
   ·rename_i ks' hf
    split at e
    ·rename_i ps hp
     obtain ⟨h1, h2⟩ := bif_s e
     injection h2 with h2; subst h2
     simp only [Bool.and_eq_true] at h1
     have e1 := beq_s h1.1
     have e2 : 0 < ps.length := Nat.le_of_ble_eq_true h1.2
     obtain ⟨v, xs, hcs, hs, _⟩ := trod_list (α := { x : List Value // okK1s ps x }) (enc := Subtype.val) e2 (fun x => okK1s_len x.2) ht e1 (fun fuel cs x h => ⟨⟨cs, plainK_ok hp (trod_kinds hf h)⟩, rfl⟩) h
     rw [hcs]
     exact ⟨⟨xs, hs⟩, trivial⟩
    ·cases e
   ·cases e
  ·cases e
theorem sl_typed {ps : List K1} {α : Type} {enc : α → List Value} {s : Nat} {v : Value} (h : ∀ x, okK1s ps x → ∃ a, x = enc a) {xs : List { x : List Value // okK1s ps x }} (hs : Sl Subtype.val s w v xs) : ∃ ys : List α, Sl enc s w v ys := by
 obtain ⟨A, c, h1, h2, h3⟩ := hs
 refine ⟨xs.map fun x => Classical.choose (h x.1 x.2), A, c, by rw [h1, List.length_map], by rw [List.length_map]; exact h2, fun hx => ?_⟩
 obtain ⟨b, off, e1, e2, e3⟩ := h3 (fun e => hx (by rw [e]; rfl))
 refine ⟨b, off, e1, e2, fun i hi j hj => ?_⟩
 rw [List.length_map] at hi
 rw [e3 i hi j hj, List.getElem_map]
 exact congrArg (fun l : List Value => l[j]?) (Classical.choose_spec (h _ xs[i].2))
theorem arg_kindsA {n m : Nat} {t e : TypeId} {ks : List KT} {r : Reach} {b0 : Nat} {v : Value} {d : DataW H} {p : List MemPlace} (hu : P.underlying t = some (.array m e)) (hk : flatT P n t = some ks) (hv : Value.okWide P w r b0 t v) (h : DataW.Trod encH P w base spare held t v d p) :
  ∃ cs : List Value, v = .agg ⟨cs⟩ ∧ okKTs w ks cs := by
 have : ∃ cs, v = .agg cs ∧ cs.size = P.cellsOf t := by
  simp only [Value.okWide, hu] at hv
  obtain ⟨cs, h1, h2, _⟩ := hv
  exact ⟨cs, h1, h2⟩
 obtain ⟨cs, rfl, _⟩ := this
 obtain ⟨fuel, h⟩ := h
 exact ⟨cs.toList, by cases cs; rfl, trod_kinds hk h⟩
theorem arg_slice {n : Nat} {t e : TypeId} {ks : List KT} {r : Reach} {b0 : Nat} {v : Value} {d : DataW H} {p : List MemPlace} (hu : P.underlying t = some (.slice e)) (hk : flatT P n t = some ks) (hv : Value.okWide P w r b0 t v) (h : DataW.Trod encH P w base spare held t v d p) : okKTs w ks [v] := by
 obtain ⟨a, len, cap, rfl⟩ := okWide_slice hu hv
 obtain ⟨fuel, h⟩ := h
 exact trod_kinds hk h
end
theorem vr_i {V : Val} {φ : Phi} {i : Nat} {n : Int} (h : V.ρ i = n) : @VR V φ (.sym .i64 (.v i)) (.int .i64 n) := by
 subst h
 exact @VR.sym V φ .i64 (.v i)
theorem vr_agg {V : Val} {φ : Phi} {l : List CV} {l' : List Value} (h : @VRs V φ l l') : @VR V φ (.agg l) (.agg ⟨l'⟩) := @VR.agg V φ l l' h
theorem vrs_nil {V : Val} {φ : Phi} : @VRs V φ [] [] := @VRs.nil V φ
theorem vrs_cons {V : Val} {φ : Phi} {c : CV} {v : Value} {l : List CV} {l' : List Value} (h : @VR V φ c v) (t : @VRs V φ l l') : @VRs V φ (c :: l) (v :: l') := @VRs.cons V φ c v l l' h t
theorem rdO_of {V : Val} {w : World} {i : Nat} {t : TypeId} {x : Option Pl} (h : match (motive := Option Pl → Prop) x with | some p => Rd V w i p | none => True) : RdO V w (some (.rows i [] t true)) x := by
 cases x with
 | none => trivial
 | some p => exact h
end Go.Proofs.YthffbfkcmbgghaaGreat.Cm
