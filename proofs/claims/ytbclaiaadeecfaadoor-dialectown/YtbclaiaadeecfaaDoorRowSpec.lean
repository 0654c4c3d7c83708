/-
  Arguments opened: what a schema says of a field (a struct of five numbers) by value.
-/
import Derived.OpenShut
import Derived.ChangeArms
import Derived.WideShapes
import Derived.Test.YtbclaiaadeecfaaDoorRows
namespace Go.Proofs.YtbclaiaadeecfaaDoor
open Go.ChangeShapes Go.WideShapes Go.RowKit

section
variable {H : Type} {enc : TypeId × Value → H} {w : World} {base : Nat} {spare : Nat → Bool} {held : Bool}

theorem open_spec {r : Reach} {b0 : Nat} {v : Value} {d : DataW H} {p : List MemPlace} (hv : Value.okWide Tryd.prog w r b0 28 v) (h : DataW.Trod enc Tryd.prog w base spare held 28 v d p) :
    ∃ a b c e f : Int, v = .agg #[.int .i64 a, .int .i64 b, .int .i64 c, .int .i64 e, .int .i64 f] := by
  obtain ⟨cs, rfl, hsz⟩ := okWide_struct Tryd.underlying28 hv
  have hC : Tryd.prog.cellsOf 28 = 5 := by kernel_rfl
  have c1 : Tryd.prog.cellsOf 3 = 1 := by kernel_rfl
  obtain ⟨l⟩ := cs
  obtain ⟨fuel, hf⟩ := h
  obtain ⟨xs, m, _, _, _, hlen, hg⟩ := DataW.trod_struct Tryd.underlying28 hf
  have hl : xs.length = 5 := hlen
  have one : ∀ i, i < 5 → ∃ x, xs[i]? = some x := fun i hi => ⟨xs[i]'(by omega), List.getElem?_eq_getElem (by omega)⟩
  match l, hsz.trans hC with
  | [v0, v1, v2, v3, v4], _ =>
    have g0 : DataW.trod enc Tryd.prog w base spare held m 3 (([v0, v1, v2, v3, v4].drop 0).take (Tryd.prog.cellsOf 3)) = xs[0]? := hg 0 _ rfl
    have g1 : DataW.trod enc Tryd.prog w base spare held m 3 (([v0, v1, v2, v3, v4].drop 1).take (Tryd.prog.cellsOf 3)) = xs[1]? := hg 1 _ rfl
    have g2 : DataW.trod enc Tryd.prog w base spare held m 3 (([v0, v1, v2, v3, v4].drop 2).take (Tryd.prog.cellsOf 3)) = xs[2]? := hg 2 _ rfl
    have g3 : DataW.trod enc Tryd.prog w base spare held m 3 (([v0, v1, v2, v3, v4].drop 3).take (Tryd.prog.cellsOf 3)) = xs[3]? := hg 3 _ rfl
    have g4 : DataW.trod enc Tryd.prog w base spare held m 3 (([v0, v1, v2, v3, v4].drop 4).take (Tryd.prog.cellsOf 3)) = xs[4]? := hg 4 _ rfl
    rw [c1] at g0 g1 g2 g3 g4
    obtain ⟨x0, e0⟩ := one 0 (by omega)
    obtain ⟨x1, e1⟩ := one 1 (by omega)
    obtain ⟨x2, e2⟩ := one 2 (by omega)
    obtain ⟨x3, e3⟩ := one 3 (by omega)
    obtain ⟨x4, e4⟩ := one 4 (by omega)
    obtain ⟨a, ha, _⟩ := DataW.trod_int Tryd.underlying3 (g0.trans e0)
    obtain ⟨b, hb, _⟩ := DataW.trod_int Tryd.underlying3 (g1.trans e1)
    obtain ⟨c, hc, _⟩ := DataW.trod_int Tryd.underlying3 (g2.trans e2)
    obtain ⟨e, he, _⟩ := DataW.trod_int Tryd.underlying3 (g3.trans e3)
    obtain ⟨f, hf, _⟩ := DataW.trod_int Tryd.underlying3 (g4.trans e4)
    simp at ha hb hc he hf
    exact ⟨a, b, c, e, f, by rw [ha, hb, hc, he, hf]⟩
end
end Go.Proofs.YtbclaiaadeecfaaDoor
