/-
  The arguments of the statements about readings opened: readings, with some of them.
-/
import Derived.Test.YtekinmafdhgmpaaQM
namespace Go.Proofs.Ytekinmafdhgmpaa
open Go.ChangeShapes Go.WideShapes Go.ChangeAt Go.RowKit Go.Deep
section
variable {H : Type} {encH : TypeId × Value → H} {w : World} {base : Nat} {spare : Nat → Bool} {held : Bool} {r : Reach} {b0 : Nat} {v : Value} {d : DataW H} {p : List MemPlace}
set_option maxRecDepth 100000 in
theorem trod_read {fuel : Nat} {cs : List Value} {x : DataW H × List MemPlace} (h : DataW.trod encH Try.prog w base spare held fuel 63 cs = some x) : ∃ q : Int × Int × Int, cs = e3 q := by
  obtain ⟨xs, n, _, _, hl, hxl, hf⟩ := DataW.trod_struct Try.underlying63 h
  have hc3 : Try.prog.cellsOf 63 = 3 := by kernel_rfl
  have hc2 : Try.prog.cellsOf 56 = 2 := by kernel_rfl
  have hc1 : Try.prog.cellsOf 3 = 1 := by kernel_rfl
  rw [hc3] at hl
  match cs, hl with
  | [c0, c1, c2], _ =>
    have h0 : DataW.trod encH Try.prog w base spare held n 3 (List.take (Try.prog.cellsOf 3) [c0, c1, c2]) = xs[0]? := hf 0 _ rfl
    have h1 : DataW.trod encH Try.prog w base spare held n 56 (List.take (Try.prog.cellsOf 56) [c1, c2]) = xs[1]? := hf 1 _ rfl
    have hx2 : xs.length = 2 := hxl
    rw [hc1, List.getElem?_eq_getElem (by omega)] at h0
    rw [hc2, List.getElem?_eq_getElem (by omega)] at h1
    obtain ⟨a, ha⟩ := trod_one Try.underlying3 h0
    obtain ⟨⟨b, c⟩, hb⟩ := trod_two Try.underlying56 Try.underlying3 (by kernel_rfl) hc2 ⟨rfl, rfl⟩ ⟨rfl, rfl⟩ h1
    simp [e1, e2] at ha hb
    exact ⟨(a, b, c), by rw [ha, hb.1, hb.2]; rfl⟩
set_option maxRecDepth 100000 in
theorem arg_readings (hv : Value.okWide Try.prog w r b0 31 v) (h : DataW.Trod encH Try.prog w base spare held 31 v d p) : ∃ (t y : Value) (rs : List (Int × Int × Int)) (s : List Int), v = .agg #[t, y] ∧ Sl e3 3 w t rs ∧ Sl e1 1 w y s := by
  obtain ⟨cs, fuel, rfl, hq⟩ := arg_agg Try.underlying31 hv h
  obtain ⟨xs, n, _, _, hl, hxl, hf⟩ := DataW.trod_struct Try.underlying31 hq
  have hc2 : Try.prog.cellsOf 31 = 2 := by kernel_rfl
  have hc1 : Try.prog.cellsOf 28 = 1 := by kernel_rfl
  have hc0 : Try.prog.cellsOf 29 = 1 := by kernel_rfl
  rw [hc2] at hl
  clear hv h hq
  obtain ⟨cs⟩ := cs
  match cs, hl with
  | [c0, c1], _ =>
    have h0 : DataW.trod encH Try.prog w base spare held n 28 (List.take (Try.prog.cellsOf 28) [c0, c1]) = xs[0]? := hf 0 _ rfl
    have h1 : DataW.trod encH Try.prog w base spare held n 29 (List.take (Try.prog.cellsOf 29) [c1]) = xs[1]? := hf 1 _ rfl
    have hx2 : xs.length = 2 := hxl
    rw [hc1, List.getElem?_eq_getElem (by omega)] at h0
    rw [hc0, List.getElem?_eq_getElem (by omega)] at h1
    obtain ⟨u, ks, hu, hs, _⟩ := trod_list (enc := e3) (s := 3) (by decide) e3_len Try.underlying28 (by kernel_rfl) (fun _ _ _ h => trod_read h) h0
    obtain ⟨y, ss, hy, hss, _⟩ := trod_list (enc := e1) (s := 1) (by decide) e1_len Try.underlying29 (by kernel_rfl) (fun _ _ _ h => trod_one Try.underlying3 h) h1
    simp at hu hy
    exact ⟨u, y, ks, ss, by rw [hu, hy], hs, hss⟩
end
end Go.Proofs.Ytekinmafdhgmpaa
