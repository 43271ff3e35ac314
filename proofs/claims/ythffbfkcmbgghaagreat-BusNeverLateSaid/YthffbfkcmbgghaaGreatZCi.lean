/-
  The clean machine and the model: places, parts and rows.
-/
import Derived.Test.YthffbfkcmbgghaaGreatZCh
import Derived.Laws.BytesString
import Derived.Laws.Cells
set_option linter.all false
namespace Go.Proofs.YthffbfkcmbgghaaGreat.Cm
open Go Go.RowKit
variable [Env]
section
variable {P : Program} {φ : Phi} {h : CH} {w : World}
theorem un_rel {op : UnOp} {x c : CV} {v : Value} (hx : VR φ x v) (e : unC op x = some c) (w : World) : ∃ u, (Op.unary op v).run P w = .ok u w ∧ VR φ c u := by
  unfold unC at e
  split at e
  · cases hx; injection e with e; subst e
    exact ⟨_, by simp only [Op.unary, Op.intArith]; rfl, .int _ _⟩
  · rename_i k ex
    cases hx; injection e with e; subst e
    exact ⟨_, by simp only [Op.unary, Op.intArith]; rfl, .sym k (.sub k (.c 0) ex)⟩
  · cases hx; injection e with e; subst e
    exact ⟨_, by simp only [Op.unary]; rfl, .bool _⟩
  · cases e
theorem conv_rel {s d : TypeId} {x c : CV} {v : Value} (hx : VR φ x v) (e : convC P s d x = some c) (w : World) : ∃ u, (convert s d v).run P w = .ok u w ∧ VR φ c u := by
  unfold convC at e
  split at e
  · rename_i k1 k k2 n h1 h2
    cases hx; injection e with e; subst e
    exact ⟨_, by simp [convert, run_und h1, run_und h2, Conv.intToInt], .int _ _⟩
  · rename_i k1 k k2 ex h1 h2
    cases hx; injection e with e; subst e
    exact ⟨_, by simp [convert, run_und h1, run_und h2, Conv.intToInt]; rfl, .sym k (.wr k ex)⟩
  · cases e
theorem pureS_run {α : Type} {P : Program} : ∀ {s : Sem α} {a : α}, pureS P s = some a → ∀ w : World, s.run P w = .ok a w
  | .pure a, b, e, w => by injection e with e; subst e; rfl
  | .program k, b, e, w => pureS_run (s := k P) e w
  | .load .., _, e, _ => by cases e
  | .store .., _, e, _ => by cases e
  | .new .., _, e, _ => by cases e
  | .shape .., _, e, _ => by cases e
  | .freeze .., _, e, _ => by cases e
  | .frozen .., _, e, _ => by cases e
  | .getObj .., _, e, _ => by cases e
  | .setObj .., _, e, _ => by cases e
  | .choose .., _, e, _ => by cases e
  | .sys .., _, e, _ => by cases e
  | .mark .., _, e, _ => by cases e
  | .halt .., _, e, _ => by cases e
theorem lit_rel {s : Sem Value} {c : CV} (e : litC P s = some c) (w : World) : ∃ u, s.run P w = .ok u w ∧ VR φ c u := by
  unfold litC at e
  rw [Option.bind_eq_some_iff] at e
  obtain ⟨u, h1, h2⟩ := e
  exact ⟨u, pureS_run h1 w, ofV1_rel h2⟩
theorem plain_rel {c : CV} {u v : Value} (e : plainV c = some v) (h : VR φ c u) : u = v := by
  cases h <;> first
    | (cases e; done)
    | (injection e with e)
theorem plains_rel : ∀ {l : List CV} {us vs : List Value}, plainVs l = some vs → VRs φ l us → us = vs
  | [], _, _, e, .nil => by injection e with e
  | c :: l, _, _, e, .cons h t => by
    unfold plainVs at e
    split at e
    · rename_i v vs h1 h2
      injection e with e; subst e
      rw [plain_rel h1 h, plains_rel h2 t]
    · cases e
theorem binL_rel {op : BinOp} {t : TypeId} {x y c : CV} {a b : Value} (hx : VR φ x a) (hy : VR φ y b) (e : binL P op t x y = some c) (w : World) :
    ∃ u, (∀ (p q : Operand), (eqGuard op t p q a b).run P w = .ok () w) ∧ (binOp op t a b).run P w = .ok u w ∧ VR φ c u := by
  unfold binL at e
  split at e
  · have ex : ∀ {v a : Value}, VR φ (.lit v) a → a = v := fun h => by cases h <;> rfl
    have ha := ex hx
    have hb := ex hy
    subst ha; subst hb
    split at e
    · cases e
    · cases e
    · rename_i h1 h2
      obtain ⟨u, g1, g2⟩ := lit_rel (φ := φ) e w
      refine ⟨u, fun p q => ?_, g1, g2⟩
      cases op <;> first | rfl | exact absurd rfl h1 | exact absurd rfl h2
  · exact bin_rel hx hy e w
theorem convL_rel {s d : TypeId} {x c : CV} {v : Value} (hx : VR φ x v) (e : convL P s d x = some c) (w : World) : ∃ u, (convert s d v).run P w = .ok u w ∧ VR φ c u := by
  unfold convL at e
  split at e
  · cases hx <;> exact lit_rel e w
  · cases hq : isFloatT P d with
    | true => rw [hq] at e; cases hx; exact lit_rel e w
    | false => rw [hq] at e; exact conv_rel hx e w
  · exact conv_rel hx e w
theorem allBytes_at : ∀ n : Nat, n < 256 → allBytes.extract n (n + 1) = ⟨#[UInt8.ofNat n]⟩ := by decide +kernel
theorem bytes_rel {s d : TypeId} {x c : CV} {v : Value} (hh : HR φ h w) (hx : VR φ x v) (hd : P.underlying d = some .string) (e : bytesC P s h x = some c) : ∃ u, (convert s d v).run P w = .ok u w ∧ VR φ c u := by
  unfold bytesC at e
  split at e
  · rename_i hs
    cases hx; injection e with e; subst e
    exact ⟨_, by simp [convert, run_und hs, run_und hd], .str _⟩
  · rename_i hs
    cases hx; injection e with e; subst e
    exact ⟨_, by simp [convert, run_und hs, run_und hd], .ss _⟩
  · rename_i el b o hs
    split at e
    · rename_i hel
      split at e
      · rename_i cs t ro hg
        cases hx with
        | sl hp ho hn hz =>
          rename_i o' c' p
          have ho' : o' = p.o + o := by omega
          subst ho'
          obtain ⟨arr, fz, h1, h2, h3, h4, _⟩ := hh.ob b _ p hg hp
          have cell : ∀ {k : CV}, cs[o]? = some k → ∃ u, w.cell? ⟨p.r, p.o + o, none⟩ = some u ∧ VR φ k u := fun {k} hk => by
            obtain ⟨u, g1, g2⟩ := h4.get hk
            have hlt : o < cs.length := (List.getElem?_eq_some_iff.1 hk).1
            rw [List.getElem?_take_of_lt hlt, List.getElem?_drop, Array.getElem?_toList] at g1
            refine ⟨u, ?_, g2⟩
            simp only [World.cell?, h1]
            exact g1
          have go : ∀ {z : Int}, w.cell? ⟨p.r, p.o + o, none⟩ = some (.int .u8 z) → (convert s d (.slice (some ⟨p.r, p.o + o, none⟩) (1 : Nat) c')).run P w = .ok (.string ⟨#[UInt8.ofNat z.toNat]⟩) w := fun {z} hc => by
            have hl := run_loadCells_list (P := P) (w := w) ⟨p.r, p.o + o, none⟩ [.int .u8 z] (fun j v hj => by
              cases j with
              | zero => injection hj with hj; subst hj; exact hc
              | succ j => cases hj)
            rw [run_convert_bytes_string w s d el _ 1 c' hs hel hd, run_bytesToString w _ 1 c' [z] hl]
            rfl
          split at e
          · rename_i z hk
            injection e with e; subst e
            obtain ⟨u, g1, g2⟩ := cell hk
            cases g2
            exact ⟨_, go g1, .str _⟩
          · rename_i ex hk
            injection e with e; subst e
            obtain ⟨u, g1, g2⟩ := cell hk
            cases g2
            refine ⟨_, go g1, ?_⟩
            have := VR.ss (φ := φ) (.cut (.c (codeS allBytes)) (.wr .u8 ex) (.add .i64 (.wr .u8 ex) (.c 1)))
            have hb : ∃ n : Nat, n < 256 ∧ (Ex.wr .u8 ex).ev Val.ρ = (n : Int) := by
              refine ⟨((Ex.wr .u8 ex).ev Val.ρ).toNat, ?_, ?_⟩
              · show (IntKind.wrap .u8 (ex.ev Val.ρ)).toNat < 256
                unfold IntKind.wrap; simp [IntKind.bits, IntKind.signed]; omega
              · show IntKind.wrap .u8 (ex.ev Val.ρ) = ((IntKind.wrap .u8 (ex.ev Val.ρ)).toNat : Int)
                unfold IntKind.wrap; simp [IntKind.bits, IntKind.signed]; omega
            obtain ⟨n, hn, he⟩ := hb
            have hw : (Ex.add .i64 (.wr .u8 ex) (.c 1)).ev Val.ρ = ((n + 1 : Nat) : Int) := by
              show IntKind.wrap .i64 ((Ex.wr .u8 ex).ev Val.ρ + 1) = _
              rw [he, IntKind.wrap_i64]; omega
            rw [show (Ex.cut (.c (codeS allBytes)) (.wr .u8 ex) (.add .i64 (.wr .u8 ex) (.c 1))).ev Val.ρ = codeS ((strOf (codeS allBytes)).extract ((Ex.wr .u8 ex).ev Val.ρ).toNat ((Ex.add .i64 (.wr .u8 ex) (.c 1)).ev Val.ρ).toNat) from rfl, strOf_code, strOf_code, he, hw, Int.toNat_natCast, Int.toNat_natCast, allBytes_at n hn] at this
            rw [he, Int.toNat_natCast]
            exact this
          · cases e
      · cases e
    · cases e
  · cases e
theorem convS_rel {s d : TypeId} {x c : CV} {v : Value} (hh : HR φ h w) (hx : VR φ x v) (e : (bif isStrT P d then bytesC P s h else convL P s d) x = some c) : ∃ u, (convert s d v).run P w = .ok u w ∧ VR φ c u := by
  cases hd : isStrT P d with
  | false => rw [hd] at e; exact convL_rel hx e w
  | true =>
    rw [hd] at e
    refine bytes_rel hh hx ?_ e
    unfold isStrT at hd
    split at hd
    · assumption
    · cases hd
theorem fieldAddr_rel {s : TypeId} {f : Nat} {x c : CV} {v : Value} (hx : VR φ x v) (e : fieldAddrC P s f x = some c) (w : World) : ∃ u, (Instr.fieldAt s v f).run P w = .ok u w ∧ VR φ c u := by
  unfold fieldAddrC at e
  split at e
  · cases hx with
    | ptr hp =>
      rename_i b o p
      split at e
      · rename_i fs hu
        split at e
        · rename_i fd hf
          split at e
          · rename_i n hs
            injection e with e; subst e
            have := VR.ptr (o := o + fd.offset) hp
            rw [← Nat.add_assoc] at this
            exact ⟨_, by simp [Instr.fieldAt, run_und hu, hf, Instr.sureAddr, fieldPlace, run_sizeOf_szC hs, add_lit'], this⟩
          · cases e
        · cases e
      · cases e
  · cases hx with
    | gp hp hx0 =>
      rename_i b k y z d p
      split at e
      · rename_i fs hu
        split at e
        · rename_i fd hf
          split at e
          · rename_i n hs
            injection e with e; subst e
            have := VR.gp (k := k) (z := z) (d := d + fd.offset) hp hx0
            rw [show p.o + ((k + (y.ev Val.ρ).toNat) * z + (d + fd.offset)) = p.o + ((k + (y.ev Val.ρ).toNat) * z + d) + fd.offset by omega] at this
            exact ⟨_, by simp [Instr.fieldAt, run_und hu, hf, Instr.sureAddr, fieldPlace, run_sizeOf_szC hs, add_lit'], this⟩
          · cases e
        · cases e
      · cases e
  · cases e
theorem part_rel {t : TypeId} {cs : List CV} {cs' : List Value} {off : Nat} {c : CV} (hc : VRs φ cs cs') (e : partC P t cs off = some c) (w : World) : ∃ u, (part t ⟨cs'⟩ off).run P w = .ok u w ∧ VR φ c u := by
  unfold partC at e
  split at e
  · rename_i n ha hs
    obtain ⟨h1, e⟩ := bif_some e
    injection e with e; subst e
    exact ⟨_, part_agg ha hs w, .agg ((hc.drop off).take n)⟩
  · rename_i ha
    obtain ⟨u, hu, hr⟩ := hc.get e
    exact ⟨u, part_one ha hu w, hr⟩
  · cases e
theorem field_rel {t : TypeId} {f : Nat} {x c : CV} {v : Value} (hx : VR φ x v) (e : fieldC P t f x = some c) (w : World) : ∃ u, (Instr.field t v f).run P w = .ok u w ∧ VR φ c u := by
  unfold fieldC at e
  split at e
  · cases hx with
    | agg hc =>
      split at e
      · rename_i fs hu
        split at e
        · rename_i fd hf
          obtain ⟨u, hr, hv⟩ := part_rel hc e w
          exact ⟨u, by simp [Instr.field, run_und hu, hf, asAgg, hr], hv⟩
        · cases e
      · cases e
  · cases e
theorem indexAddrG_rel {t : TypeId} {x i c : CV} {v j : Value} (hx : VR φ x v) (hi : VR φ i j) (e : indexAddrG P t x i = some c) (w : World) : ∃ u, (Instr.indexAt t v j).run P w = .ok u w ∧ VR φ c u := by
  unfold indexAddrG at e
  split at e
  · rename_i b k ex z fl el hu
    split at e
    · rename_i z' kd y hs hy
      obtain ⟨h1, e2⟩ := bif_some e
      clear e
      simp only [Bool.and_eq_true] at h1
      obtain ⟨⟨h1, h2⟩, h3⟩ := h1
      have h1 := beq_eq' h1
      subst h1
      have h2 : 0 ≤ y.ev Val.ρ := askB_leq h2
      have h3 := askB_lss h3
      injection e2 with e2; subst e2
      have hj := exOf_rel hi hy
      subst hj
      cases hx with
      | gs hn hc ha =>
        rename_i cp n a
        have hlt : y.ev Val.ρ < (n : Int) := by rw [hn]; exact h3
        rcases ha with ⟨p, hp, rfl, _⟩ | ⟨h0, _⟩
        · have := VR.gp (k := k) (z := z) (d := 0) hp h2
          rw [show p.o + ((k + (y.ev Val.ρ).toNat) * z + 0) = p.o + k * z + (y.ev Val.ρ).toNat * z by rw [Nat.add_mul]; omega] at this
          exact ⟨_, by simp [Instr.indexAt, asIntOf, run_und hu, h2, hlt, run_sizeOf_szC hs, add_lit'], this⟩
        · omega
    · cases e
  · rename_i b k y z d n el hu
    split at e
    · rename_i kd iv m hs
      obtain ⟨h1, e⟩ := bif_some e
      simp only [Bool.and_eq_true, decide_eq_true_eq] at h1
      injection e with e; subst e
      cases hi
      cases hx with
      | gp hp hx0 =>
        rename_i p
        have := VR.gp (k := k) (z := z) (d := d + iv.toNat * m) hp hx0
        rw [show p.o + ((k + (y.ev Val.ρ).toNat) * z + (d + iv.toNat * m)) = p.o + ((k + (y.ev Val.ρ).toNat) * z + d) + iv.toNat * m by omega] at this
        exact ⟨_, by simp [Instr.indexAt, asIntOf, run_und hu, Instr.sureAddr, h1.1, h1.2, run_sizeOf_szC hs, add_lit'], this⟩
    · cases e
  · cases e
theorem indexAddr_rel0 {t : TypeId} {x i c : CV} {v j : Value} (hx : VR φ x v) (hi : VR φ i j) (e : indexAddrC0 P t x i = some c) (w : World) : ∃ u, (Instr.indexAt t v j).run P w = .ok u w ∧ VR φ c u := by
  unfold indexAddrC0 at e
  split at e
  · rename_i k i b o n z el hu
    cases hi
    split at e
    · rename_i z' hs
      obtain ⟨h1, e2⟩ := bif_some e
      simp only [Bool.and_eq_true, decide_eq_true_eq] at h1
      obtain ⟨⟨h1, h2⟩, h3⟩ := h1
      have h1 := beq_eq' h1
      clear e
      subst h1
      injection e2 with e2; subst e2
      cases hx with
      | sl hp ho hn hz =>
        rename_i o' cp p
        have ho' : o' = p.o + o := by rcases ho with e | ⟨e, _⟩ <;> omega
        subst ho'
        have := VR.ptr (o := o + i.toNat * z) hp
        rw [← Nat.add_assoc] at this
        exact ⟨_, by simp [Instr.indexAt, asIntOf, run_und hu, h2, h3, run_sizeOf_szC hs, add_lit'], this⟩
    · cases e
  · rename_i k i b o n el hu
    cases hi
    split at e
    · rename_i z hs
      obtain ⟨h1, e⟩ := bif_some e
      simp only [Bool.and_eq_true, decide_eq_true_eq] at h1
      obtain ⟨h2, h3⟩ := h1
      injection e with e; subst e
      cases hx with
      | ptr hp =>
        rename_i p
        have := VR.ptr (o := o + i.toNat * z) hp
        rw [← Nat.add_assoc] at this
        exact ⟨_, by simp [Instr.indexAt, asIntOf, run_und hu, Instr.sureAddr, h2, h3, run_sizeOf_szC hs, add_lit'], this⟩
    · cases e
  · exact indexAddrG_rel hx hi e w
theorem arrAt_rel {t : TypeId} {x c : CV} {v : Value} (hx : VR φ x v) (e : arrAtC P t x = some c) (w : World) : ∃ u, (Instr.arrayAt t v).run P w = .ok u w ∧ VR φ c u := by
  unfold arrAtC at e
  split at e
  · rename_i b o n z
    split at e
    · rename_i m el hu
      obtain ⟨h1, e2⟩ := bif_some e
      simp only [Bool.and_eq_true] at h1
      have h2 := ble_le h1.1
      have h3 := blt_lt h1.2
      injection e2 with e2; subst e2
      cases hx with
      | sl hp ho hn hz =>
        rename_i o' cp p
        have k : o' = p.o + o := by rcases ho with e | ⟨e, _⟩ <;> omega
        subst k
        have hlt : ¬ n < m := by omega
        exact ⟨_, by simp [Instr.arrayAt, run_und hu, hlt], .ptr hp⟩
    · cases e
  · cases e
theorem index_rel0 {t : TypeId} {x i c : CV} {v j : Value} (hx : VR φ x v) (hi : VR φ i j) (e : indexC0 P t x i = some c) (w : World) : ∃ u, (Instr.index t v j).run P w = .ok u w ∧ VR φ c u := by
  unfold indexC0 at e
  split at e
  · rename_i k i cs n el hu
    cases hi
    split at e
    · rename_i z hs
      obtain ⟨h1, e⟩ := bif_some e
      simp only [Bool.and_eq_true, decide_eq_true_eq] at h1
      cases hx with
      | agg hc =>
        obtain ⟨u, hr, hv⟩ := part_rel hc e w
        exact ⟨u, by simp [Instr.index, asIntOf, run_und hu, h1.1, h1.2, run_sizeOf_szC hs, hr], hv⟩
    · cases e
  · rename_i k i s hu
    cases hi
    cases hx
    obtain ⟨h1, e⟩ := bif_some e
    simp only [decide_eq_true_eq] at h1
    split at e
    · rename_i b hb
      injection e with e; subst e
      exact ⟨_, by simp [Instr.index, asIntOf, run_und hu, h1, hb], .int _ _⟩
    · cases e
  · rename_i hu
    split at e
    · rename_i kd y ex hy hs
      obtain ⟨h1, e2⟩ := bif_some e
      clear e
      simp only [Bool.and_eq_true] at h1
      have h2 : 0 ≤ y.ev Val.ρ := askB_leq h1.1
      have h3 := askB_lss h1.2
      simp only [Ex.ev, sln] at h3
      injection e2 with e2; subst e2
      cases exOf_rel hi hy
      cases strC_rel hx hs
      have hlt : (y.ev Val.ρ).toNat < (strOf (ex.ev Val.ρ)).size := by omega
      refine ⟨.int .u8 (sat (ex.ev Val.ρ) (y.ev Val.ρ)), ?_, .sym _ (.sat ex y)⟩
      have hb : (strOf (ex.ev Val.ρ))[(y.ev Val.ρ).toNat]? = some ((strOf (ex.ev Val.ρ))[(y.ev Val.ρ).toNat]'hlt) := getElem?_pos (strOf (ex.ev Val.ρ)) (y.ev Val.ρ).toNat hlt
      unfold sat
      rw [hb]
      simp [Instr.index, asIntOf, run_und hu, h2, hb]
    · cases e
  · cases e
def ORel (φ : Phi) : Option CV → Option Value → Prop
  | none, none => True
  | some c, some u => VR φ c u
  | _, _ => False
theorem pickN_ok {y : Ex} : ∀ {n j : Nat}, pickN y n = some j → y.ev Val.ρ = j
  | 0, _, e => by cases e
  | n + 1, j, e => by
    unfold pickN at e
    cases hq : askB .eql y (.c n) with
    | true =>
      rw [hq] at e; injection e with e; subst e
      have h1 : y.ev Val.ρ = (Ex.c n).ev Val.ρ := by simpa [cmpC] using askB_ok hq
      exact h1
    | false => rw [hq] at e; exact pickN_ok e
theorem pickI_rel {n : Nat} {i i' : CV} {v : Value} (e : pickI n i = some i') (h : VR φ i v) : VR φ i' v := by
  unfold pickI at e
  split at e
  · rename_i k y
    obtain ⟨_, e⟩ := bif_some e
    rw [Option.map_eq_some_iff] at e
    obtain ⟨j, hj, rfl⟩ := e
    cases h
    rw [pickN_ok hj]; exact .int _ _
  · cases e
theorem indexAddr_rel {t : TypeId} {x i c : CV} {v j : Value} (hx : VR φ x v) (hi : VR φ i j) (e : indexAddrC P t x i = some c) (w : World) : ∃ u, (Instr.indexAt t v j).run P w = .ok u w ∧ VR φ c u := by
  unfold indexAddrC at e
  split at e
  · rename_i c' h1
    injection e with e; subst e
    exact indexAddr_rel0 hx hi h1 w
  · split at e
    · rename_i i' h1
      exact indexAddr_rel0 hx (pickI_rel h1 hi) e w
    · cases e
theorem index_rel {t : TypeId} {x i c : CV} {v j : Value} (hx : VR φ x v) (hi : VR φ i j) (e : indexC P t x i = some c) (w : World) : ∃ u, (Instr.index t v j).run P w = .ok u w ∧ VR φ c u := by
  unfold indexC at e
  split at e
  · rename_i c' h1
    injection e with e; subst e
    exact index_rel0 hx hi h1 w
  · split at e
    · rename_i i' h1
      exact index_rel0 hx (pickI_rel h1 hi) e w
    · cases e
theorem bound_rel {d m b : Nat} {x : Option CV} {v : Option Value} (hx : ORel φ x v) (e : boundC d m x = some b) :
    (v = none ∧ b = d) ∨ ∃ k i, v = some (.int k i) ∧ 0 ≤ i ∧ i ≤ (m : Int) ∧ b = i.toNat := by
  cases x with
  | none => cases v with
    | none => left; injection e with e; exact ⟨rfl, e.symm⟩
    | some u => exact hx.elim
  | some c => cases v with
    | none => exact hx.elim
    | some u =>
      have hx : VR φ c u := hx
      cases hx <;> try (cases e; done)
      rename_i k i
      obtain ⟨h1, e⟩ := bif_some e
      simp only [Bool.and_eq_true, decide_eq_true_eq] at h1
      injection e with e
      exact .inr ⟨k, i, rfl, h1.1, h1.2, e.symm⟩
theorem run_bounds {n m hb lb : Nat} {b : Bool} {lo hi : Option Value} (h1 : (hi = none ∧ hb = n) ∨ ∃ k i, hi = some (.int k i) ∧ 0 ≤ i ∧ i ≤ (n : Int) ∧ hb = i.toNat) (h2 : (lo = none ∧ lb = 0) ∨ ∃ k i, lo = some (.int k i) ∧ 0 ≤ i ∧ i ≤ (hb : Int) ∧ lb = i.toNat) (hm : n ≤ m) (w : World) :
    (Instr.sliceBounds b n m lo hi none).run P w = .ok (lb, hb, m) w ∧ lb ≤ hb ∧ hb ≤ n := by
  rcases h1 with ⟨rfl, rfl⟩ | ⟨k1, i1, rfl, g1, g2, rfl⟩ <;> rcases h2 with ⟨rfl, rfl⟩ | ⟨k2, i2, rfl, g3, g4, rfl⟩
  · exact ⟨by simp [Instr.sliceBounds], by omega, by omega⟩
  · exact ⟨by simp [Instr.sliceBounds, Instr.sliceBound, asIntOf, g3, g4], by omega, by omega⟩
  · have g5 : i1 ≤ (m : Int) := by omega
    exact ⟨by simp [Instr.sliceBounds, Instr.sliceBound, asIntOf, g1, g5], by omega, by omega⟩
  · have g5 : i1 ≤ (m : Int) := by omega
    have g6 : i2 ≤ ((i1.toNat : Nat) : Int) := g4
    have g7 : ¬ (i1 < i2) := by omega
    have g8 : i2 ≤ max i1 0 := by omega
    exact ⟨by simp [Instr.sliceBounds, Instr.sliceBound, asIntOf, g1, g5, g3, g8], by omega, by omega⟩
theorem subN_ev {e : Ex} {m : Nat} (h0 : (m : Int) ≤ e.ev Val.ρ) (h1 : e.ev Val.ρ < 4611686018427387904) : (subN e m).ev Val.ρ = e.ev Val.ρ - m := by
  unfold subN
  split
  · simp
  · simp [Ex.ev]
  · simp only [Ex.ev]
    rw [IntKind.wrap_i64]; omega
theorem low_rel {x : Option CV} {v : Option Value} {l : Nat} (hx : ORel φ x v) (e : lowC x = some l) : (v = none ∧ l = 0) ∨ ∃ k i, v = some (.int k i) ∧ 0 ≤ i ∧ l = i.toNat := by
  cases x with
  | none => cases v with
    | none => left; injection e with e; exact ⟨rfl, e.symm⟩
    | some u => exact hx.elim
  | some c => cases v with
    | none => exact hx.elim
    | some u =>
      have hx : VR φ c u := hx
      cases hx <;> try (cases e; done)
      rename_i k i
      obtain ⟨h1, e⟩ := bif_some e
      simp only [decide_eq_true_eq] at h1
      injection e with e
      exact .inr ⟨k, i, rfl, h1, e.symm⟩
theorem high_rel {x : Option CV} {v : Option Value} {ex y : Ex} (hx : ORel φ x v) (e : highC ex x = some y) : (v = none ∧ y = ex) ∨ ∃ k, v = some (.int k (y.ev Val.ρ)) ∧ y.ev Val.ρ ≤ ex.ev Val.ρ := by
  cases x with
  | none => cases v with
    | none => left; injection e with e; exact ⟨rfl, e.symm⟩
    | some u => exact hx.elim
  | some c => cases v with
    | none => exact hx.elim
    | some u =>
      have hx : VR φ c u := hx
      simp only [highC] at e
      split at e
      · rename_i k y' hy
        obtain ⟨h1, e⟩ := bif_some e
        injection e with e; subst e
        exact .inr ⟨k, by rw [exOf_rel hx hy], askB_leq h1⟩
      · cases e
theorem sliceG_rel {t : TypeId} {x c : CV} {lo hi : Option CV} {v : Value} {lo' hi' : Option Value} (hx : VR φ x v) (hlo : ORel φ lo lo') (hhi : ORel φ hi hi') (e : sliceG P t x lo hi = some c) : ∃ u, (Instr.sliceAt t v lo' hi' none).run P w = .ok u w ∧ VR φ c u := by
  unfold sliceG at e
  split at e
  · rename_i b k ex z fl el hu
    split at e
    · rename_i z' l y hs h1 h2
      obtain ⟨h3, e2⟩ := bif_some e
      clear e
      simp only [Bool.and_eq_true] at h3
      obtain ⟨⟨h3, h4⟩, h5⟩ := h3
      have h3 := beq_eq' h3
      subst h3
      have h4 : (l : Int) ≤ y.ev Val.ρ := askB_leq h4
      have h5 : y.ev Val.ρ < 4611686018427387904 := askB_lss h5
      injection e2 with e2; subst e2
      have hL := low_rel hlo h1
      have hH := high_rel hhi h2
      have hev := subN_ev h4 h5
      cases hx with
      | gs hn hc ha =>
        rename_i cp n a
        obtain ⟨u, hu2⟩ : ∃ u : Nat, (u : Int) = y.ev Val.ρ := ⟨(y.ev Val.ρ).toNat, by omega⟩
        have hun : u ≤ n := by
          rcases hH with ⟨_, rfl⟩ | ⟨_, _, h⟩ <;> omega
        obtain ⟨hr, _, _⟩ := run_bounds (P := P) (b := true) (n := n) (m := cp) (hb := u) (lb := l) (lo := lo') (hi := hi')
          (by rcases hH with ⟨h, rfl⟩ | ⟨kd, h, h'⟩
              · exact .inl ⟨h, by omega⟩
              · exact .inr ⟨kd, _, h, by omega, by omega, by omega⟩)
          (by rcases hL with ⟨h, h'⟩ | ⟨kd, i, h, h', h''⟩
              · exact .inl ⟨h, h'⟩
              · exact .inr ⟨kd, i, h, h', by omega, h''⟩) hc w
        refine ⟨.slice (if cp = l then a else a.map (·.add (l * z))) (u - l) (cp - l), by simp [Instr.sliceAt, run_und hu, Instr.slice, hr, run_sizeOf_szC hs], .gs (by omega) (by omega) ?_⟩
        rcases ha with ⟨p, hp, rfl, hfit⟩ | ⟨h0, h0'⟩
        · by_cases hm : cp = l
          · exact .inr ⟨by omega, fun _ => by omega⟩
          · rw [if_neg hm]
            refine .inl ⟨p, hp, ?_, fun hf => ?_⟩
            · simp only [Option.map_some, add_lit']
              rw [Nat.add_mul]; congr 2; omega
            · have := hfit hf
              have e1 : cp * z = l * z + (cp - l) * z := by rw [← Nat.add_mul]; congr 1; omega
              rw [Nat.add_mul]; omega
        · exact .inr ⟨by omega, fun hf => by have := h0' hf; omega⟩
    · cases e
  · cases e
theorem sliceK_rel {t : TypeId} {x c : CV} {lo hi : Option CV} {v : Value} {lo' hi' : Option Value} (hx : VR φ x v) (hlo : ORel φ lo lo') (hhi : ORel φ hi hi') (e : sliceK P t x lo hi = some c) : ∃ u, (Instr.sliceAt t v lo' hi' none).run P w = .ok u w ∧ VR φ c u := by
  unfold sliceK at e
  split at e
  · rename_i s hu
    split at e
    · rename_i u h1
      split at e
      · rename_i l h2
        injection e with e; subst e
        cases hx
        obtain ⟨hr, g1, g2⟩ := run_bounds (P := P) (b := false) (m := s.size) (bound_rel hhi h1) (bound_rel hlo h2) (Nat.le_refl _) w
        exact ⟨_, by simp [Instr.sliceAt, run_und hu, Instr.slice, hr], .str _⟩
      · cases e
    · cases e
  · cases e
theorem exO_rel {x : Option CV} {v : Option Value} {d l : Ex} (hx : ORel φ x v) (e : exO d x = some l) : (v = none ∧ l = d) ∨ ∃ k, v = some (.int k (l.ev Val.ρ)) := by
  cases x with
  | none => cases v with
    | none => left; injection e with e; exact ⟨rfl, e.symm⟩
    | some u => exact hx.elim
  | some c => cases v with
    | none => exact hx.elim
    | some u =>
      have hx : VR φ c u := hx
      unfold exO at e
      simp only at e
      rw [Option.map_eq_some_iff] at e
      obtain ⟨⟨k, y⟩, h1, rfl⟩ := e
      exact .inr ⟨k, by rw [exOf_rel hx h1]⟩
theorem sliceS_rel {t : TypeId} {x c : CV} {lo hi : Option CV} {v : Value} {lo' hi' : Option Value} (hx : VR φ x v) (hlo : ORel φ lo lo') (hhi : ORel φ hi hi') (e : sliceS P t x lo hi = some c) : ∃ u, (Instr.sliceAt t v lo' hi' none).run P w = .ok u w ∧ VR φ c u := by
  unfold sliceS at e
  split at e
  · rename_i ex hs hu
    split at e
    · rename_i l u h1 h2
      obtain ⟨h3, e2⟩ := bif_some e
      clear e
      simp only [Bool.and_eq_true] at h3
      obtain ⟨⟨h3, h4⟩, h5⟩ := h3
      have h3 : 0 ≤ l.ev Val.ρ := askB_leq h3
      have h4 : l.ev Val.ρ ≤ u.ev Val.ρ := askB_leq h4
      have h5 := askB_leq h5
      simp only [Ex.ev, sln] at h5
      injection e2 with e2; subst e2
      cases strC_rel hx hs
      have hL := exO_rel (d := .c 0) hlo h1
      have hH := exO_rel (d := .sln ex) hhi h2
      obtain ⟨hr, g1, g2⟩ := run_bounds (P := P) (b := false) (n := (strOf (ex.ev Val.ρ)).size) (m := (strOf (ex.ev Val.ρ)).size) (hb := (u.ev Val.ρ).toNat) (lb := (l.ev Val.ρ).toNat) (lo := lo') (hi := hi')
        (by rcases hH with ⟨h, rfl⟩ | ⟨kd, h⟩
            · exact .inl ⟨h, by show (sln (ex.ev Val.ρ)).toNat = _; unfold sln; omega⟩
            · exact .inr ⟨kd, _, h, by omega, h5, rfl⟩)
        (by rcases hL with ⟨h, rfl⟩ | ⟨kd, h⟩
            · exact .inl ⟨h, rfl⟩
            · exact .inr ⟨kd, _, h, h3, by omega, rfl⟩) (Nat.le_refl _) w
      refine ⟨.string ((strOf (ex.ev Val.ρ)).extract (l.ev Val.ρ).toNat (u.ev Val.ρ).toNat), by simp [Instr.sliceAt, run_und hu, Instr.slice, hr], ?_⟩
      have := VR.ss (φ := φ) (.cut ex l u)
      rw [show (Ex.cut ex l u).ev Val.ρ = codeS ((strOf (ex.ev Val.ρ)).extract (l.ev Val.ρ).toNat (u.ev Val.ρ).toNat) from rfl, strOf_code] at this
      exact this
    · cases e
  · cases e
theorem zeroO_rel {x : Option CV} {v : Option Value} (hx : ORel φ x v) (h : zeroO x = true) : v = none ∨ ∃ k, v = some (.int k 0) := by
  cases x with
  | none => cases v with
    | none => exact .inl rfl
    | some u => exact hx.elim
  | some c => cases v with
    | none => exact hx.elim
    | some u =>
      have hx : VR φ c u := hx
      cases hx <;> first
        | (cases h; done)
        | (rename_i k n
           have : n = 0 := by simpa [zeroO] using h
           subst this; exact .inr ⟨k, rfl⟩)
theorem sliceN_rel {t : TypeId} {x c : CV} {lo hi : Option CV} {v : Value} {lo' hi' : Option Value} (hx : VR φ x v) (hlo : ORel φ lo lo') (hhi : ORel φ hi hi') (e : sliceN P t x lo hi = some c) : ∃ u, (Instr.sliceAt t v lo' hi' none).run P w = .ok u w ∧ VR φ c u := by
  unfold sliceN at e
  split at e
  · rename_i el hu
    split at e
    · rename_i z hz
      obtain ⟨h1, e2⟩ := bif_some e
      simp only [Bool.and_eq_true] at h1
      injection e2 with e2; subst e2
      cases hx
      rename_i ad
      refine ⟨.slice ad 0 0, ?_, .nils⟩
      rcases zeroO_rel hlo h1.1 with rfl | ⟨k1, rfl⟩ <;> rcases zeroO_rel hhi h1.2 with rfl | ⟨k2, rfl⟩ <;> simp [Instr.sliceAt, run_und hu, Instr.slice, Instr.sliceBounds, Instr.sliceBound, asIntOf, run_sizeOf_szC hz]
    · cases e
  · cases e
theorem cap_rel {t ty : TypeId} {x c : CV} {v : Value} (hx : VR φ x v) (e : capC P t x = some c) : ∃ u, (Builtin.cap_ #[t] ty #[v]).run P w = .ok u w ∧ VR φ c u := by
  unfold capC at e
  split at e
  · rename_i hu; cases hx; injection e with e; subst e; exact ⟨_, by simp [Builtin.cap_, run_und hu, goInt], .int _ _⟩
  · cases e
theorem slice_rel (hh : HR φ h w) {t : TypeId} {x c : CV} {lo hi : Option CV} {v : Value} {lo' hi' : Option Value} (hx : VR φ x v) (hlo : ORel φ lo lo') (hhi : ORel φ hi hi') (e : sliceC P t x lo hi h = some c) : ∃ u, (Instr.sliceAt t v lo' hi' none).run P w = .ok u w ∧ VR φ c u := by
  unfold sliceC at e
  split at e
  · rename_i b o n z el hu
    split at e
    · rename_i z' hb hs h1
      split at e
      · rename_i lb h2
        obtain ⟨hz', e2⟩ := bif_some e
        have hz' := beq_eq' hz'
        clear e
        subst hz'
        injection e2 with e2; subst e2
        cases hx with
        | sl hp ho hn hz =>
          rename_i o' cp p
          obtain ⟨hr, g1, g2⟩ := run_bounds (P := P) (b := true) (m := cp) (bound_rel hhi h1) (bound_rel hlo h2) hn w
          by_cases hm : cp = lb
          · subst hm
            have hb0 : hb = cp := by omega
            subst hb0
            refine ⟨.slice (some ⟨p.r, o', none⟩) 0 0, by simp [Instr.sliceAt, run_und hu, Instr.slice, hr, run_sizeOf_szC hs], ?_⟩
            rw [Nat.sub_self]
            exact .sl hp (.inr ⟨rfl, rfl⟩) (Nat.le_refl _) (by omega)
          · have ho' : o' = p.o + o := by rcases ho with e | ⟨_, e⟩ <;> omega
            subst ho'
            refine ⟨.slice (some ⟨p.r, p.o + o + lb * z, none⟩) (hb - lb) (cp - lb), by simp [Instr.sliceAt, run_und hu, Instr.slice, hr, run_sizeOf_szC hs, hm, add_lit'], .sl hp (.inl (by omega)) (by omega) ?_⟩
            have : cp * z = lb * z + (cp - lb) * z := by rw [← Nat.add_mul]; congr 1; omega
            omega
      · cases e
    · cases e
  · rename_i b o n el hu
    split at e
    · rename_i z hb hs h1
      split at e
      · rename_i lb h2
        obtain ⟨hroom, e2⟩ := bif_some e
        injection e2 with e2; subst e2
        cases hx with
        | ptr hp =>
          rename_i p
          obtain ⟨hr, g1, g2⟩ := run_bounds (P := P) (b := false) (m := n) (bound_rel hhi h1) (bound_rel hlo h2) (Nat.le_refl _) w
          have hfit : p.o + (o + n * z) ≤ p.z := by
            unfold roomC at hroom
            split at hroom
            · rename_i l t' ro hb'
              obtain ⟨cs, fz, _, _, hl, _, _⟩ := hh.ob b _ p hb' hp
              have := ble_le hroom
              omega
            · cases hroom
          by_cases hm : n = lb
          · subst hm
            have hb0 : hb = n := by omega
            subst hb0
            refine ⟨.slice (some ⟨p.r, p.o + o, none⟩) 0 0, by simp [Instr.sliceAt, run_und hu, Instr.sureAddr, hr, run_sizeOf_szC hs], ?_⟩
            rw [Nat.sub_self]
            exact .sl hp (.inr ⟨rfl, rfl⟩) (Nat.le_refl _) (by omega)
          · refine ⟨.slice (some ⟨p.r, p.o + o + lb * z, none⟩) (hb - lb) (n - lb), by simp [Instr.sliceAt, run_und hu, Instr.sureAddr, hr, run_sizeOf_szC hs, hm, add_lit'], .sl hp (.inl (by omega)) (by omega) ?_⟩
            have : n * z = lb * z + (n - lb) * z := by rw [← Nat.add_mul]; congr 1; omega
            omega
      · cases e
    · cases e
  · split at e
    · rename_i c' h1
      injection e with e; subst e
      exact sliceG_rel hx hlo hhi h1
    · split at e
      · rename_i c' h1
        injection e with e; subst e
        exact sliceK_rel hx hlo hhi h1
      · split at e
        · rename_i c' h1
          injection e with e; subst e
          exact sliceN_rel hx hlo hhi h1
        · exact sliceS_rel hx hlo hhi e
theorem slice3_rel {t : TypeId} {x m c : CV} {lo hi : Option CV} {v mv : Value} {lo' hi' : Option Value} (hx : VR φ x v) (hlo : ORel φ lo lo') (hhi : ORel φ hi hi') (hm : VR φ m mv) (e : slice3C P t x lo hi m = some c) (w : World) : ∃ u, (Instr.sliceAt t v lo' hi' (some mv)).run P w = .ok u w ∧ VR φ c u := by
  unfold slice3C at e
  split at e
  · rename_i el ka a kb b hu
    split at e
    · rename_i z hz
      obtain ⟨h1, e2⟩ := bif_some e
      clear e
      simp only [Bool.and_eq_true, beq_iff_eq] at h1
      obtain ⟨⟨⟨h1, h2⟩, h3⟩, h4⟩ := h1
      injection e2 with e2; subst e2; subst h2; subst h3
      cases hm
      obtain ⟨kh, rfl⟩ : ∃ kh, hi' = some (.int kh 0) := by
        cases hi' with
        | none => exact hhi.elim
        | some u =>
          have hhi : VR φ (.int ka 0) u := hhi
          cases hhi; exact ⟨_, rfl⟩
      have hl : lo' = none ∨ ∃ kl, lo' = some (.int kl 0) := by
        cases lo with
        | none => cases lo' with
          | none => exact .inl rfl
          | some u => exact hlo.elim
        | some l => cases lo' with
          | none => exact hlo.elim
          | some u =>
            have hlo : VR φ l u := hlo
            cases hlo <;> first
              | (cases h1; done)
              | (rename_i kl n
                 have : n = 0 := by simpa [zeroO] using h1
                 subst this; exact .inr ⟨kl, rfl⟩)
      have hs : ∃ ad n k, v = .slice ad n k := by
        cases hx <;> first
          | (cases h4; done)
          | exact ⟨_, _, _, rfl⟩
      obtain ⟨ad, n, k, rfl⟩ := hs
      refine ⟨.slice ad 0 0, ?_, .nils⟩
      rcases hl with rfl | ⟨kl, rfl⟩ <;> simp [Instr.sliceAt, run_und hu, Instr.slice, Instr.sliceBounds, Instr.sliceBound, asIntOf, run_sizeOf_szC hz]
    · cases e
  · cases e
theorem makeSlice_rel (hh : HR φ h w) {t : TypeId} {l k c : CV} {lv kv : Value} {h' : CH} {lw : Nat} (hl : VR φ l lv) (hk : VR φ k kv) (e : makeSliceC P t l k h = some (c, h', lw)) :
    ∃ u w' φ', (Instr.makeSlice t lv kv).run P w = .ok u w' ∧ Went φ h.n lw w φ' w' ∧ HR φ' h' w' ∧ VR φ' c u := by
  unfold makeSliceC at e
  split at e
  · rename_i k1 n k2 m el hu
    cases hl; cases hk
    split at e
    · rename_i z v hs hz
      obtain ⟨h1, e2⟩ := bif_some e
      simp only [Bool.and_eq_true, decide_eq_true_eq, beq_iff_eq] at h1
      obtain ⟨⟨⟨⟨⟨h1, h2⟩, h3⟩, h4⟩, h5⟩, h6⟩ := h1
      have h1 := ble_le h1
      have h2 := beq_eq' h2
      have h3 := blt_lt h3
      subst h4
      injection e2 with e2; injection e2 with e1 e2; injection e2 with e2 e3
      subst e1; subst e2; subst e3
      obtain ⟨i, hi, rfl⟩ := szC_info hs
      obtain ⟨i2, zv, hi2, hz2, hzo⟩ := zeroC_info hz
      rw [hi] at hi2; injection hi2 with hi2; subst hi2
      have hzr : VR φ v zv := ofV_rel hzo
      have hzs : zv.cells.size = i.size := by rw [← h2, hzr.cells.len]; simp
      have hbb : i.bytes ≤ 65536 := by unfold Program.bytesOf at h1; simpa [hi] using h1
      have hmul : (i.bytes : Int) * n ≤ 281474976710656 := by
        have : (i.bytes : Int) * n ≤ 65536 * 65536 := Int.mul_le_mul (by omega) (by omega) h5 (by omega)
        omega
      have hrun := run_make w t el i zv hu hi hz2 k1 k2 n n h5 (Int.le_refl _) hmul (by omega)
      have hmz := made_zeros zv.cells n.toNat (by omega)
      rw [hzs] at hmz
      have hmc : madeCells zv.cells (n.toNat * i.size) = (Array.range (n.toNat * i.size)).map (zv.cells[· % i.size]!) := by unfold madeCells; rw [hzs]
      obtain ⟨g1, g2, g3⟩ := row_rel' (cs := madeCells zv.cells (n.toNat * i.size)) hh el (by rw [hmc, hmz]; exact zeros_rel hzr.cells n.toNat)
      refine ⟨_, _, _, hrun, g1, g2, VR.sl (o' := 0) g3 (.inl rfl) (Nat.le_refl _) ?_⟩
      show 0 + n.toNat * i.size ≤ (madeCells zv.cells (n.toNat * i.size)).size
      rw [size_madeCells]; omega
    · cases e
  · rename_i k1 a k2 b el hu
    cases hl; cases hk
    split at e
    · rename_i z v hs hz
      obtain ⟨h1, e2⟩ := bif_some e
      simp only [Bool.and_eq_true] at h1
      obtain ⟨⟨⟨⟨⟨h1, h2⟩, h3⟩, h4⟩, h5⟩, h6⟩ := h1
      have h1 := ble_le h1
      have h2 := beq_eq' h2
      have h3 := blt_lt h3
      have h4 := Ex.eq_of_beq h4
      subst h4
      have h5 : 0 ≤ a.ev Val.ρ := askB_leq h5
      have h6 : a.ev Val.ρ < 65536 := askB_lss h6
      split at e2
      · rename_i j hmade
        injection e2 with e2; injection e2 with e1 e2; injection e2 with e2 e3
        subst e1; subst e2; subst e3
        obtain ⟨vs, hvs, hlj⟩ := Env.madeOk hmade
        obtain ⟨i, hi, rfl⟩ := szC_info hs
        obtain ⟨i2, zv, hi2, hz2, hzo⟩ := zeroC_info hz
        rw [hi] at hi2; injection hi2 with hi2; subst hi2
        have hzr : VR φ v zv := ofV_rel hzo
        have hzs : zv.cells.size = i.size := by rw [← h2, hzr.cells.len]; simp
        have hbb : i.bytes ≤ 65536 := by unfold Program.bytesOf at h1; simpa [hi] using h1
        have hmul : (i.bytes : Int) * a.ev Val.ρ ≤ 281474976710656 := by
          have : (i.bytes : Int) * a.ev Val.ρ ≤ 65536 * 65536 := Int.mul_le_mul (by omega) (by omega) h5 (by omega)
          omega
        have hrun := run_make w t el i zv hu hi hz2 k1 k2 (a.ev Val.ρ) (a.ev Val.ρ) h5 (Int.le_refl _) hmul (by omega)
        have hvz : zv.cells.toList = vs := (pvs_rel (φ := φ) hvs).2 _ hzr.cells
        generalize hn : (a.ev Val.ρ).toNat = n at *
        have hmz := made_zeros zv.cells n (by omega)
        rw [hzs] at hmz
        have hmc : madeCells zv.cells (n * i.size) = (Array.range (n * i.size)).map (zv.cells[· % i.size]!) := by unfold madeCells; rw [hzs]
        have hcl : (madeCells zv.cells (n * i.size)).toList = Val.lst j := by rw [hmc, hmz, hlj, hvz]
        have hsz : (madeCells zv.cells (n * i.size)).size = n * i.size := size_madeCells ..
        have hll : (Val.lst j).length = n * i.size := by rw [← hcl, Array.length_toList, hsz]
        refine ⟨_, _, φ.put h.n ⟨w.heap.size, 0, (madeCells zv.cells (n * i.size)).size⟩, hrun, Went.alloc hh _ _ rfl _, hh.new rfl ⟨madeCells zv.cells (n * i.size), el, (0, 0), rfl, rfl, ?_, ?_, ?_, fun _ => ⟨rfl, rfl⟩⟩, VR.gs (n := n) (c := n) (by omega) (Nat.le_refl _) (.inl ⟨_, Phi.put_same _ _ _, by simp, fun _ => ?_⟩)⟩
        · show 0 + (Val.lst j).length + ([] : List CV).length ≤ _
          rw [hll, hsz]; simp
        · show ((madeCells zv.cells (n * i.size)).toList.drop 0).take (Val.lst j).length = Val.lst j
          rw [hcl, List.drop_zero, List.take_length]
        · exact .nil
        · show 0 + 0 * i.size + n * i.size ≤ (madeCells zv.cells (n * i.size)).size
          rw [hsz]; omega
      · cases e2
    · cases e
  · cases e
theorem len_rel (hh : HR φ h w) {t ty : TypeId} {x c : CV} {v : Value} (hx : VR φ x v) (e : lenC P t x h = some c) : ∃ u, (Builtin.len_ #[t] ty #[v]).run P w = .ok u w ∧ VR φ c u := by
  unfold lenC at e
  split at e
  · rename_i hu; cases hx; injection e with e; subst e; exact ⟨_, by simp [Builtin.len_, run_und hu, goInt], .int _ _⟩
  · rename_i hu; cases hx; injection e with e; subst e; exact ⟨_, by simp [Builtin.len_, run_und hu, goInt], .int _ _⟩
  · rename_i n z fl hu
    cases hx with
    | gs hn hc ha =>
      rename_i cp m a
      have hn : (m : Int) = n := hn
      injection e with e; subst e
      exact ⟨.int .i64 n, by simp [Builtin.len_, run_und hu, goInt, hn], .int _ _⟩
  · rename_i ex _ _ _ hu
    cases hx with
    | gs hn hc ha =>
      rename_i cp m a
      injection e with e; subst e
      exact ⟨.int .i64 (ex.ev Val.ρ), by simp [Builtin.len_, run_und hu, goInt, hn], .sym _ _⟩
  · rename_i hu; cases hx; injection e with e; subst e; exact ⟨_, by simp [Builtin.len_, run_und hu, goInt], .int _ _⟩
  · rename_i ex hu; cases hx; injection e with e; subst e; exact ⟨.int .i64 (sln (ex.ev Val.ρ)), by simp [Builtin.len_, run_und hu, goInt, sln], .sym _ (.sln ex)⟩
  · rename_i hu; cases hx; injection e with e; subst e; exact ⟨_, by simp [Builtin.len_, run_und hu, goInt], .int _ _⟩
  · rename_i hu
    cases hx with
    | map hp =>
      split at e
      · rename_i l hb
        injection e with e; subst e
        obtain ⟨es, clock, ho, h1, _⟩ := hh.ob _ _ _ hb hp
        have hl := h1.len
        simp at hl
        have hg : ∀ k, (getObj k : Sem Obj).run P w = (getObj k : Sem Obj).run P w := fun _ => rfl
        exact ⟨.int .i64 l.length, by simp [Builtin.len_, run_und hu, goInt, getObj, Sem.run, ho, hl], .int _ _⟩
      · cases e
  · cases e
theorem min_rel {mx : Bool} : ∀ {l : List CV} {l' : List Value} {a c : CV} {v : Value}, VR φ a v → VRs φ l l' → minFrom mx a l = some c → ∀ w, ∃ u, (l'.foldlM (if mx then Builtin.max2 else Builtin.min2) v).run P w = .ok u w ∧ VR φ c u
  | _, _, a, c, v, ha, .nil, e, w => by injection e with e; subst e; exact ⟨_, by simp, ha⟩
  | _, _, a, c, v, ha, .cons (c := b) h t, e, w => by
    unfold minFrom at e
    split at e
    · rename_i k x k' y h1 h2
      split at e
      · rename_i hk; subst hk
        have e1 := exOf_rel ha h1
        have e2 := exOf_rel h h2
        subst e1; subst e2
        split at e
        · rename_i r hr
          cases mx with
          | true =>
            simp only [cond_true] at hr
            have hc := askO_ok hr
            simp only [cmpC] at hc
            injection hc with hc
            have hacc : VR φ (bif r then b else a) (.int k (if x.ev Val.ρ < y.ev Val.ρ then y.ev Val.ρ else x.ev Val.ρ)) := by
              subst hc
              by_cases hq : x.ev Val.ρ < y.ev Val.ρ
              · simp only [hq, decide_true, cond_true, if_true]; exact h
              · simp only [hq, decide_false, cond_false, if_false]; exact ha
            obtain ⟨u, hr2, hv⟩ := min_rel hacc t e w
            refine ⟨u, ?_, hv⟩
            rw [List.foldlM_cons]
            simpa [Builtin.max2] using hr2
          | false =>
            simp only [cond_false] at hr
            have hc := askO_ok hr
            simp only [cmpC] at hc
            injection hc with hc
            have hacc : VR φ (bif r then b else a) (.int k (if y.ev Val.ρ < x.ev Val.ρ then y.ev Val.ρ else x.ev Val.ρ)) := by
              subst hc
              by_cases hq : y.ev Val.ρ < x.ev Val.ρ
              · simp only [hq, decide_true, cond_true, if_true]; exact h
              · simp only [hq, decide_false, cond_false, if_false]; exact ha
            obtain ⟨u, hr2, hv⟩ := min_rel hacc t e w
            refine ⟨u, ?_, hv⟩
            rw [List.foldlM_cons]
            simpa [Builtin.min2] using hr2
        · cases e
      · cases e
    · cases e
theorem copy_rel (hh : HR φ h w) {t tx ty : TypeId} {d s c : CV} {dv sv : Value} {h' : CH} {b : Nat} (hd : VR φ d dv) (hs : VR φ s sv) (e : copyC P t d s h = some (c, h', b)) :
    ∃ u w', (Builtin.copy_ #[t, tx] ty #[dv, sv]).run P w = .ok u w' ∧ Went φ h.n b w φ w' ∧ HR φ h' w' ∧ VR φ c u := by
  unfold copyC at e
  split at e
  · rename_i el b0 o n z b2 o2 n2 z2 hu
    split at e
    · rename_i z' l t' vs hz hb hvs
      obtain ⟨h1, e2⟩ := bif_some e
      clear e
      simp only [Bool.and_eq_true] at h1
      obtain ⟨⟨⟨⟨⟨h1, h2⟩, h3⟩, h4⟩, h5⟩, h6⟩ := h1
      have h1 := beq_eq' h1
      have h2 := beq_eq' h2
      have h3 := blt_lt h3
      have h5 := ble_le h5
      subst h1; subst h2
      injection e2 with e2; injection e2 with e1 e2; injection e2 with e2 e3
      subst e1; subst e2; subst e3
      cases hd with
      | sl hp ho hn hzz =>
        rename_i o' cp p
        cases hs with
        | sl hp2 ho2 hn2 hz2 =>
          rename_i o2' cp2 p2
          obtain ⟨vs', g1, g2, g3, g4⟩ := readC_rel hh hvs hp2
          have k1 : o' = p.o + o := by rcases ho with e | ⟨e, _⟩ <;> omega
          have k2 : o2' = p2.o + o2 := by rcases ho2 with e | ⟨e, _⟩ <;> omega
          subst k1; subst k2
          obtain ⟨w', r1, r2, r3⟩ := storeCells_rel (P := P) (o := o) hh hb hp h5 g1 h6
          have r4 := run_loadCells_list (P := P) w ⟨p2.r, p2.o + o2, none⟩ vs' g4
          rw [g2] at r4
          refine ⟨.int .i64 (min n2 n : Nat), w', ?_, r2, r3, .int _ _⟩
          have r5 : (Nat.min n2 n) = min n2 n := rfl
          simp [Builtin.copy_, run_und hu, Builtin.lenOf, Builtin.firstCells, run_sizeOf_szC hz, r5, r4, r1, goInt]
    · cases e
  · cases e
end
end Go.Proofs.YthffbfkcmbgghaaGreat.Cm
