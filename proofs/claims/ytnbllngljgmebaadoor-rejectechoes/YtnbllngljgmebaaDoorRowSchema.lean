/-
  Arguments opened: a schema (a struct of two numbers and a slice of specs) by value.
-/
import Derived.OpenShut
import Derived.ChangeArms
import Derived.ChangeSlices
import Derived.ChangeSame
import Derived.WideShapes
import Derived.Test.YtnbllngljgmebaaDoorPackSch
namespace Go.Proofs.YtnbllngljgmebaaDoor
open Go.ChangeShapes Go.WideShapes Go.RowKit

def cellInt (o : Option Value) : Int := match o with | some (.int _ z) => z | _ => 0
def spOf (w : World) (p : Addr) : Sp := (cellInt (w.cell? p), cellInt (w.cell? ⟨p.block, p.off + 1, none⟩), cellInt (w.cell? ⟨p.block, p.off + 2, none⟩), cellInt (w.cell? ⟨p.block, p.off + 3, none⟩), cellInt (w.cell? ⟨p.block, p.off + 4, none⟩))
theorem spOf_at {w : World} {p : Addr} {x : Sp} (h : SpAt w p x) : spOf w p = x := by
  obtain ⟨h0, h1, h2, h3, h4⟩ := h
  unfold spOf
  rw [h0, h1, h2, h3, h4]
  rfl
section
variable {H : Type} {enc : TypeId × Value → H} {w : World} {base : Nat} {spare : Nat → Bool} {held : Bool}

set_option maxRecDepth 100000 in
theorem open_spec_cells {n : Nat} {cs : List Value} {d : DataW H × List MemPlace} (hl : cs.length = 5) (h : DataW.trod enc Tryd.prog w base spare held n 67 cs = some d) : ∃ a b c e f : Int, cs = [.int .i64 a, .int .i64 b, .int .i64 c, .int .i64 e, .int .i64 f] := by
  have c1 : Tryd.prog.cellsOf 3 = 1 := by kernel_rfl
  obtain ⟨xs, m, _, _, _, hlen, hg⟩ := DataW.trod_struct Tryd.underlying67 h
  have hl5 : xs.length = 5 := hlen
  have one : ∀ i, i < 5 → ∃ x, xs[i]? = some x := fun i hi => ⟨xs[i]'(by omega), List.getElem?_eq_getElem (by omega)⟩
  match cs, hl with
  | [v0, v1, v2, v3, v4], _ =>
    have g0 : DataW.trod enc Tryd.prog w base spare held m 3 (([v0, v1, v2, v3, v4].drop 0).take (Tryd.prog.cellsOf 3)) = xs[0]? := hg 0 _ rfl
    have g1 : DataW.trod enc Tryd.prog w base spare held m 3 (([v0, v1, v2, v3, v4].drop 1).take (Tryd.prog.cellsOf 3)) = xs[1]? := hg 1 _ rfl
    have g2 : DataW.trod enc Tryd.prog w base spare held m 3 (([v0, v1, v2, v3, v4].drop 2).take (Tryd.prog.cellsOf 3)) = xs[2]? := hg 2 _ rfl
    have g3 : DataW.trod enc Tryd.prog w base spare held m 3 (([v0, v1, v2, v3, v4].drop 3).take (Tryd.prog.cellsOf 3)) = xs[3]? := hg 3 _ rfl
    have g4 : DataW.trod enc Tryd.prog w base spare held m 3 (([v0, v1, v2, v3, v4].drop 4).take (Tryd.prog.cellsOf 3)) = xs[4]? := hg 4 _ rfl
    rw [c1] at g0 g1 g2 g3 g4
    obtain ⟨x0, e0⟩ := one 0 (by omega)
    obtain ⟨x1, e1⟩ := one 1 (by omega)
    obtain ⟨x2, e2⟩ := one 2 (by omega)
    obtain ⟨x3, e3⟩ := one 3 (by omega)
    obtain ⟨x4, e4⟩ := one 4 (by omega)
    obtain ⟨a, ha, _⟩ := DataW.trod_int Tryd.underlying3 (g0.trans e0)
    obtain ⟨b, hb, _⟩ := DataW.trod_int Tryd.underlying3 (g1.trans e1)
    obtain ⟨c, hc, _⟩ := DataW.trod_int Tryd.underlying3 (g2.trans e2)
    obtain ⟨e, he, _⟩ := DataW.trod_int Tryd.underlying3 (g3.trans e3)
    obtain ⟨f, hf, _⟩ := DataW.trod_int Tryd.underlying3 (g4.trans e4)
    simp at ha hb hc he hf
    exact ⟨a, b, c, e, f, by rw [ha, hb, hc, he, hf]⟩
set_option maxRecDepth 100000 in
theorem open_specs_cell {n : Nat} {v : Value} {d : DataW H × List MemPlace} (h : DataW.trod enc Tryd.prog w base spare held n 22 [v] = some d) : ∃ (A : Option Addr) (cap : Nat) (l : List Sp), v = .slice A l.length cap ∧ Spl w A l ∧ l.length ≤ maxLen := by
  have hC : Tryd.prog.cellsOf 67 = 5 := by kernel_rfl
  rcases DataW.trod_slice Tryd.underlying22 h with ⟨hcs, _⟩ | ⟨a, len, cap, elems, rest, n, _, hcs, _, hb, hl, hm, hlen, hel, _, _⟩
  · simp at hcs
    subst hcs
    exact ⟨none, 0, [], rfl, spl_nil _ _, by simp⟩
  · simp at hcs
    subst hcs
    have hat : ∀ i, i < len → ∃ x : Sp, SpAt w (a.add (i * 5)) x := by
      intro i hi
      have h1 := hel i hi
      rw [List.getElem?_eq_getElem (by omega), hC, Option.bind_eq_some_iff] at h1
      obtain ⟨cs, hc, ht⟩ := h1
      obtain ⟨_, hl2, hcell⟩ := World.cells?_some hc
      obtain ⟨z0, z1, z2, z3, z4, rfl⟩ := open_spec_cells hl2 ht
      have e0 := hcell 0 (by omega)
      exact ⟨(z0, z1, z2, z3, z4), by simpa [Addr.add] using e0, hcell 1 (by omega), hcell 2 (by omega), hcell 3 (by omega), hcell 4 (by omega)⟩
    refine ⟨some a, cap, (List.range len).map (fun i => spOf w (a.add (i * 5))), by simp, fun i hi => ⟨a, rfl, ?_⟩, by simp; omega⟩
    have hi' : i < len := by simpa using hi
    obtain ⟨x, hx⟩ := hat i hi'
    rw [show spAt ((List.range len).map (fun i => spOf w (a.add (i * 5)))) i = spOf w (a.add (i * 5)) by simp [spAt, List.getD, hi'], spOf_at hx]
    exact hx
set_option maxRecDepth 100000 in
theorem open_schema {r : Reach} {b0 : Nat} {v : Value} {d : DataW H} {p : List MemPlace} (hv : Value.okWide Tryd.prog w r b0 24 v) (h : DataW.Trod enc Tryd.prog w base spare held 24 v d p) :
    ∃ (st ve : Int) (A : Option Addr) (cap : Nat) (l : List Sp), v = .agg #[.int .i64 st, .int .i64 ve, .slice A l.length cap] ∧ Spl w A l ∧ l.length ≤ maxLen := by
  obtain ⟨cs, rfl, hsz⟩ := okWide_struct Tryd.underlying24 hv
  have hC : Tryd.prog.cellsOf 24 = 3 := by kernel_rfl
  have c1 : Tryd.prog.cellsOf 3 = 1 := by kernel_rfl
  have c2 : Tryd.prog.cellsOf 22 = 1 := by kernel_rfl
  obtain ⟨l⟩ := cs
  obtain ⟨fuel, hf⟩ := h
  obtain ⟨xs, m, _, _, _, hlen, hg⟩ := DataW.trod_struct Tryd.underlying24 hf
  have hl : xs.length = 3 := hlen
  have one : ∀ i, i < 3 → ∃ x, xs[i]? = some x := fun i hi => ⟨xs[i]'(by omega), List.getElem?_eq_getElem (by omega)⟩
  match l, hsz.trans hC with
  | [v0, v1, v2], _ =>
    have g0 : DataW.trod enc Tryd.prog w base spare held m 3 (([v0, v1, v2].drop 0).take (Tryd.prog.cellsOf 3)) = xs[0]? := hg 0 _ rfl
    have g1 : DataW.trod enc Tryd.prog w base spare held m 3 (([v0, v1, v2].drop 1).take (Tryd.prog.cellsOf 3)) = xs[1]? := hg 1 _ rfl
    have g2 : DataW.trod enc Tryd.prog w base spare held m 22 (([v0, v1, v2].drop 2).take (Tryd.prog.cellsOf 22)) = xs[2]? := hg 2 _ rfl
    rw [c1] at g0 g1
    rw [c2] at g2
    obtain ⟨x0, e0⟩ := one 0 (by omega)
    obtain ⟨x1, e1⟩ := one 1 (by omega)
    obtain ⟨x2, e2⟩ := one 2 (by omega)
    obtain ⟨a, ha, _⟩ := DataW.trod_int Tryd.underlying3 (g0.trans e0)
    obtain ⟨b, hb, _⟩ := DataW.trod_int Tryd.underlying3 (g1.trans e1)
    obtain ⟨A, cap, k, hk, ht, hm⟩ := open_specs_cell (g2.trans e2)
    simp at ha hb
    exact ⟨a, b, A, cap, k, by rw [ha, hb, hk], ht, hm⟩
end
end Go.Proofs.YtnbllngljgmebaaDoor
