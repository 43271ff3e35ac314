/-
  The law CableWound's last argument opened: a struct of two points and a number, five cells.
-/
import Derived.Test.YtghglgaimhfedaaQM
namespace Go.Proofs.Ytghglgaimhfedaa
open Go.ChangeShapes Go.WideShapes Go.ChangeAt Go.RowKit Go.Deep
section
variable {H : Type} {encH : TypeId × Value → H} {w : World} {base : Nat} {spare : Nat → Bool} {held : Bool} {r : Reach} {b0 : Nat} {v : Value} {d : DataW H} {p : List MemPlace}
set_option maxRecDepth 100000 in
theorem arg_post (hv : Value.okWide Try.prog w r b0 117 v) (h : DataW.Trod encH Try.prog w base spare held 117 v d p) : ∃ (a b : Int × Int) (n : Int), v = .agg #[.int .i64 a.1, .int .i64 a.2, .int .i64 b.1, .int .i64 b.2, .int .i64 n] := by
  obtain ⟨cs, fuel, rfl, hq⟩ := arg_agg Try.underlying117 hv h
  obtain ⟨xs, n, _, _, hl, hxl, hf⟩ := DataW.trod_struct Try.underlying117 hq
  have hc5 : Try.prog.cellsOf 117 = 5 := by kernel_rfl
  have hc2 : Try.prog.cellsOf 61 = 2 := by kernel_rfl
  have hc1 : Try.prog.cellsOf 3 = 1 := by kernel_rfl
  rw [hc5] at hl
  clear hv h hq
  obtain ⟨cs⟩ := cs
  match cs, hl with
  | [c0, c1, c2, c3, c4], _ =>
    have h0 : DataW.trod encH Try.prog w base spare held n 61 (List.take (Try.prog.cellsOf 61) [c0, c1, c2, c3, c4]) = xs[0]? := hf 0 _ rfl
    have h1 : DataW.trod encH Try.prog w base spare held n 61 (List.take (Try.prog.cellsOf 61) [c2, c3, c4]) = xs[1]? := hf 1 _ rfl
    have h2 : DataW.trod encH Try.prog w base spare held n 3 (List.take (Try.prog.cellsOf 3) [c4]) = xs[2]? := hf 2 _ rfl
    have hx3 : xs.length = 3 := hxl
    rw [hc2, List.getElem?_eq_getElem (by omega)] at h0 h1
    rw [hc1, List.getElem?_eq_getElem (by omega)] at h2
    obtain ⟨a0, a1, ha⟩ := trod_pair Try.underlying61 Try.underlying3 hc1 hc2 h0
    obtain ⟨b0, b1, hb⟩ := trod_pair Try.underlying61 Try.underlying3 hc1 hc2 h1
    obtain ⟨m, hm⟩ := trod_one Try.underlying3 h2
    simp [e1] at ha hb hm
    exact ⟨(a0, a1), (b0, b1), m, by rw [ha.1, ha.2, hb.1, hb.2, hm]⟩
end
end Go.Proofs.Ytghglgaimhfedaa
