/-
  Walks of chapter 1's turns: the reference's winding.
-/
import Derived.Test.YtegkppphaglpgaaWa
import Derived.Deep.DeepCutAuto
namespace Go.Proofs.Ytegkppphaglpgaa
open Go.RowKit Go.Shelf

theorem winding_take (path : List Pt) (p : Pt) : winding path p = (((ways path).take path.length).map fun x => cross x.1 x.2 p).sum := by
  rw [List.take_of_length_le (by rw [ways_len]; omega)]; rfl
set_option maxRecDepth 100000 in
set_option maxHeartbeats 4000000 in
theorem Winding_any (v : Value) (path : List Pt) (p : Pt) (w : World) (hs : Sl e2 2 w v path) (h30 : path.length ≤ 30) (hsm : ∀ x ∈ ways path, Sm x.1 ∧ Sm x.2) (hp : Sm p) :
    Calls Try.prog 78 #[v, .agg #[.int .i64 p.1, .int .i64 p.2]] w fun e w' => e = .returned (.int .i64 (winding path p)) ∧ Below w.heap.size w w' := by
  obtain ⟨A, c, rfl, hcap⟩ := hs.form
  have HS := Lib.hid hs
  have HM := Lib.hid hsm
  clear hs hsm
  go_enter Try.func78, Try.ntmps78
  go_wp2_with fail
  go_loopw [5, 6, 7, 8] (fun n i _ _ wr => ∃ k : Nat, k ≤ path.length ∧ i = .int .i64 k ∧ n = .int .i64 (((ways path).take k).map fun x => cross x.1 x.2 p).sum ∧ Below w.heap.size w wr ∧ At wr ⟨w.heap.size, 0, none⟩ (.int .i64 p.1) ∧ At wr ⟨w.heap.size, 1, none⟩ (.int .i64 p.2)) (fun _ i _ _ _ => path.length - (intOf i).toNat)
  case atStart => exact ⟨0, Nat.zero_le _, rfl, rfl, below_alloc1 _ _, At.new w #[.int .i64 p.1, .int .i64 p.2] 61 0 _ rfl, At.new w #[.int .i64 p.1, .int .i64 p.2] 61 1 _ rfl⟩
  case round =>
    obtain ⟨k, hk, rfl, rfl, hb, hq1, hq2⟩ := hrel
    have HB := Lib.hid hb
    have HQ := Lib.hid (And.intro hq1 hq2)
    have g1 := hq1.1
    have g2 := hq2.1
    have g3 := hq1.lt
    simp only at g3
    clear hq1 hq2
    by_cases hlt : k < path.length
    · obtain ⟨b, off, j, a1, a2, b1, b2, rfl, hbl, hjl, htk, hmem, hc0, hc1, hd0, hd1, hL, hne, h8, h9, h5⟩ := (HS.out.below hb).way hlt (by omega)
      have hjl' : (j : Int) < (path.length : Int) := by omega
      have h7 : (0 : Int) ≤ (k : Int) + 1 := by omega
      have hon := fun w => side_any (a1, a2) (b1, b2) p w (HM.out _ hmem).1 (HM.out _ hmem).2 hp
      have HT := Lib.hid htk
      have HON := Lib.hid hon
      have hsum : (((ways path).take (k + 1)).map fun x => cross x.1 x.2 p).sum = (((ways path).take k).map fun x => cross x.1 x.2 p).sum + cross (a1, a2) (b1, b2) p := by rw [htk]; simp
      have HN := Lib.hid hsum
      have hbd := sum_bd (((ways path).take k).map fun x => cross x.1 x.2 p) (by intro y hy; obtain ⟨x, _, rfl⟩ := List.mem_map.1 hy; exact cross_bd _ _ _)
      have hlen : (((ways path).take k).map fun x => cross x.1 x.2 p).length ≤ k := by rw [List.length_map]; exact List.length_take_le _ _
      have hcr : cross (a1, a2) (b1, b2) p = if a2 ≤ p.2 ∧ p.2 < b2 ∧ 0 < side (a1, a2) (b1, b2) p then 1 else if b2 ≤ p.2 ∧ p.2 < a2 ∧ side (a1, a2) (b1, b2) p < 0 then -1 else 0 := rfl
      have HCR := Lib.hid hcr
      clear htk hmem hon hb hsum hcr
      generalize (((ways path).take k).map fun x => cross x.1 x.2 p).sum = sm at *
      generalize cross (a1, a2) (b1, b2) p = cr at *
      generalize side (a1, a2) (b1, b2) p = sd at *
      obtain ⟨p1, p2⟩ := p
      simp only at *
      have hsm1 : -(k : Int) ≤ sm := by omega
      have hsm2 : sm ≤ (k : Int) := by omega
      clear hbd hlen
      have hbs1 : b < wr.heap.size + 1 := by omega
      have g4 : w.heap.size < wr.heap.size + 1 := by omega
      go_upto_region 5 with fail
      go_cut [7, 8] (fun va vb wx => ∃ X Y : Nat, va = .pointer (some ⟨X, 0, none⟩) ∧ vb = .pointer (some ⟨Y, 0, none⟩) ∧ (At wx ⟨X, 0, none⟩ (.int .i64 a1) ∧ At wx ⟨X, 1, none⟩ (.int .i64 a2) ∧ At wx ⟨Y, 0, none⟩ (.int .i64 b1) ∧ At wx ⟨Y, 1, none⟩ (.int .i64 b2)) ∧
        (At wx ⟨w.heap.size, 0, none⟩ (.int .i64 p1) ∧ At wx ⟨w.heap.size, 1, none⟩ (.int .i64 p2)) ∧ Below w.heap.size w wx)
      case first =>
        go_region
        · go_wp2_with fail
          go_meet
          obtain ⟨u, v⟩ := box2 wr #[.int .i64 a1, .int .i64 a2] #[.int .i64 b1, .int .i64 b2] 61 61
          exact ⟨wr.heap.size, wr.heap.size + 1, rfl, rfl, ⟨(u 0 _ rfl).drew, (u 1 _ rfl).drew, (v 0 _ rfl).drew, (v 1 _ rfl).drew⟩, ⟨((HQ.out.1.al _).al _).drew, ((HQ.out.2.al _).al _).drew⟩, (below_al (below_al HB.out _) _).drew⟩
        · go_wp2_with fail
          go_meet
          obtain ⟨u, v⟩ := box2 wr #[.int .i64 b1, .int .i64 b2] #[.int .i64 a1, .int .i64 a2] 61 61
          exact ⟨wr.heap.size + 1, wr.heap.size, rfl, rfl, ⟨(v 0 _ rfl).drew, (v 1 _ rfl).drew, (u 0 _ rfl).drew, (u 1 _ rfl).drew⟩, ⟨((HQ.out.1.al _).al _).drew, ((HQ.out.2.al _).al _).drew⟩, (below_al (below_al HB.out _) _).drew⟩
      case rest =>
        obtain ⟨X, Y, rfl, rfl, ⟨A1, A2, B1, B2⟩, ⟨P1, P2⟩, HBc⟩ := hcut
        have c1 := A1.1
        have c2 := A2.1
        have c3 := B1.1
        have c4 := B2.1
        have c5 := P1.1
        have c6 := P2.1
        have KA := Lib.hid (And.intro A1 (And.intro A2 (And.intro B1 (And.intro B2 (And.intro P1 P2)))))
        have KB := Lib.hid HBc
        clear A1 A2 B1 B2 P1 P2 HBc hc0 hc1 hd0 hd1 g1 g2 HB HQ h8 h9 h5 h7 hL hne hjl' hbs1 g4 hbl g3
        by_cases x1 : a2 ≤ p2
        all_goals by_cases x2 : p2 < b2
        all_goals by_cases x5 : 0 < sd
        all_goals by_cases x6 : sd < 0
        all_goals try omega
        all_goals
          go_wp2_with (first
            | (go_at_call 134; refine (HON.out _).mono ?_; rintro e w2 ⟨rfl, hb2⟩; have A1 := KA.out.1.below hb2; obtain ⟨d1, _⟩ := A1; obtain ⟨d2, _⟩ := KA.out.2.1.below hb2; obtain ⟨d3, _⟩ := KA.out.2.2.1.below hb2; obtain ⟨d4, _⟩ := KA.out.2.2.2.1.below hb2; obtain ⟨d5, _⟩ := KA.out.2.2.2.2.1.below hb2; obtain ⟨d6, _⟩ := KA.out.2.2.2.2.2.below hb2; have ⟨P5, P6⟩ := KA.out.2.2.2.2; have K2 : Hid (Below w.heap.size w w2 ∧ At w2 ⟨w.heap.size, 0, none⟩ (.int .i64 p1) ∧ At w2 ⟨w.heap.size, 1, none⟩ (.int .i64 p2)) := ⟨below_tr KB.out hb2, P5.below hb2, P6.below hb2⟩; clear P5 P6 hb2)
            | (go_at_call 134; refine (HON.out _).mono ?_; rintro e w3 ⟨rfl, hb3⟩))
          go_roundw
          case rel =>
            first
              | exact ⟨k + 1, by omega, by go_num, congrArg (Value.int .i64) (by rw [HN.out, HCR.out]; (repeat' split) <;> omega), K2.out.1, K2.out.2.1, K2.out.2.2⟩
              | exact ⟨k + 1, by omega, by go_num, congrArg (Value.int .i64) (by rw [HN.out, HCR.out]; (repeat' split) <;> omega), KB.out, KA.out.2.2.2.2.1, KA.out.2.2.2.2.2⟩
          case measure => simp [intOf]; omega
    · clear hb
      obtain rfl : k = path.length := by omega
      go_wp2_with fail
      go_ret
      exact ⟨ret_int (winding_take path p).symm, HB.out⟩
end Go.Proofs.Ytegkppphaglpgaa
