/-
  Arguments opened: a message (a struct of a text and a slice of values) by value, and a value (a struct of a number and a text) by value.
-/
import Derived.OpenShut
import Derived.ChangeArms
import Derived.ChangeSlices
import Derived.ChangeSame
import Derived.WideShapes
import Derived.Test.YtnbllngljgmebaaDoorPackMsg
namespace Go.Proofs.YtnbllngljgmebaaDoor
open Go.ChangeShapes Go.WideShapes Go.RowKit

def valOf (w : World) (a : Addr) (i : Nat) : Item := (match w.cell? (a.add (i * 2)) with | some (.int _ z) => z | _ => 0, match w.cell? ⟨(a.add (i * 2)).block, (a.add (i * 2)).off + 1, none⟩ with | some (.string s) => s | _ => ⟨#[]⟩)
section
variable {H : Type} {enc : TypeId × Value → H} {w : World} {base : Nat} {spare : Nat → Bool} {held : Bool}

set_option maxRecDepth 100000 in
theorem open_val_cells {n : Nat} {cs : List Value} {d : DataW H × List MemPlace} (hl : cs.length = 2) (h : DataW.trod enc Tryd.prog w base spare held n 63 cs = some d) : ∃ (z : Int) (s : ByteArray), cs = [.int .i64 z, .string s] ∧ s.size ≤ maxLen := by
  have c1 : Tryd.prog.cellsOf 3 = 1 := by kernel_rfl
  have c2 : Tryd.prog.cellsOf 9 = 1 := by kernel_rfl
  obtain ⟨xs, m, _, _, _, hlen, hg⟩ := DataW.trod_struct Tryd.underlying63 h
  have hl2 : xs.length = 2 := hlen
  have one : ∀ i, i < 2 → ∃ x, xs[i]? = some x := fun i hi => ⟨xs[i]'(by omega), List.getElem?_eq_getElem (by omega)⟩
  match cs, hl with
  | [v0, v1], _ =>
    have g0 : DataW.trod enc Tryd.prog w base spare held m 3 (([v0, v1].drop 0).take (Tryd.prog.cellsOf 3)) = xs[0]? := hg 0 _ rfl
    have g1 : DataW.trod enc Tryd.prog w base spare held m 9 (([v0, v1].drop 1).take (Tryd.prog.cellsOf 9)) = xs[1]? := hg 1 _ rfl
    rw [c1] at g0
    rw [c2] at g1
    obtain ⟨x0, e0⟩ := one 0 (by omega)
    obtain ⟨x1, e1⟩ := one 1 (by omega)
    obtain ⟨a, ha, _⟩ := DataW.trod_int Tryd.underlying3 (g0.trans e0)
    obtain ⟨s, hs, _, hm⟩ := DataW.trod_string Tryd.underlying9 (g1.trans e1)
    simp at ha hs
    exact ⟨a, s, by rw [ha, hs], hm⟩
set_option maxRecDepth 100000 in
theorem open_vals_cell {n : Nat} {v : Value} {d : DataW H × List MemPlace} (h : DataW.trod enc Tryd.prog w base spare held n 43 [v] = some d) : ∃ (A : Option Addr) (cap : Nat) (l : List Item), v = .slice A l.length cap ∧ Tlvs w A l ∧ l.length ≤ maxLen ∧ (∀ x ∈ l, x.2.size ≤ maxLen) ∧ l.length ≤ cap := by
  have hC : Tryd.prog.cellsOf 63 = 2 := by kernel_rfl
  rcases DataW.trod_slice Tryd.underlying43 h with ⟨hcs, _⟩ | ⟨a, len, cap, elems, rest, n, _, hcs, _, hb, hl, hm, hlen, hel, _, _⟩
  · simp at hcs
    subst hcs
    exact ⟨none, 0, [], rfl, tlvs_nil _ _, by simp, by simp, by simp⟩
  · simp at hcs
    subst hcs
    have hat : ∀ i, i < len → ∃ (z : Int) (s : ByteArray), w.cell? (a.add (i * 2)) = some (.int .i64 z) ∧ w.cell? ⟨(a.add (i * 2)).block, (a.add (i * 2)).off + 1, none⟩ = some (.string s) ∧ s.size ≤ maxLen := by
      intro i hi
      have h1 := hel i hi
      rw [List.getElem?_eq_getElem (by omega), hC, Option.bind_eq_some_iff] at h1
      obtain ⟨cs, hc, ht⟩ := h1
      obtain ⟨_, hl2, hcell⟩ := World.cells?_some hc
      obtain ⟨z, s, rfl, hs⟩ := open_val_cells hl2 ht
      have e0 := hcell 0 (by omega)
      exact ⟨z, s, by simpa [Addr.add] using e0, hcell 1 (by omega), hs⟩
    have hof : ∀ i, i < len → ∃ (z : Int) (s : ByteArray), valOf w a i = (z, s) ∧ w.cell? (a.add (i * 2)) = some (.int .i64 z) ∧ w.cell? ⟨(a.add (i * 2)).block, (a.add (i * 2)).off + 1, none⟩ = some (.string s) ∧ s.size ≤ maxLen := by
      intro i hi
      obtain ⟨z, s, h1, h2, h3⟩ := hat i hi
      exact ⟨z, s, by unfold valOf; rw [h1, h2], h1, h2, h3⟩
    refine ⟨some a, cap, (List.range len).map (valOf w a), by simp, fun i hi => ⟨a, rfl, ?_⟩, by simp; omega, fun x hx => ?_, by simp; omega⟩
    · have hi' : i < len := by simpa using hi
      obtain ⟨z, s, h1, h2, h3, _⟩ := hof i hi'
      rw [show itemAt ((List.range len).map (valOf w a)) i = valOf w a i by simp [itemAt, List.getD, hi'], h1]
      exact ⟨h2, h3⟩
    · obtain ⟨i, hi, rfl⟩ := List.mem_map.1 hx
      obtain ⟨z, s, h1, _, _, h4⟩ := hof i (by simpa using hi)
      rw [h1]
      exact h4
set_option maxRecDepth 100000 in
theorem open_message {r : Reach} {b0 : Nat} {v : Value} {d : DataW H} {p : List MemPlace} (hv : Value.okWide Tryd.prog w r b0 45 v) (h : DataW.Trod enc Tryd.prog w base spare held 45 v d p) :
    ∃ (m : ByteArray) (A : Option Addr) (cap : Nat) (l : List Item), v = .agg #[.string m, .slice A l.length cap] ∧ m.size ≤ maxLen ∧ Tlvs w A l ∧ l.length ≤ maxLen ∧ (∀ x ∈ l, x.2.size ≤ maxLen) ∧ l.length ≤ cap := by
  obtain ⟨cs, rfl, hsz⟩ := okWide_struct Tryd.underlying45 hv
  have hC : Tryd.prog.cellsOf 45 = 2 := by kernel_rfl
  have c1 : Tryd.prog.cellsOf 9 = 1 := by kernel_rfl
  have c2 : Tryd.prog.cellsOf 43 = 1 := by kernel_rfl
  obtain ⟨l⟩ := cs
  obtain ⟨fuel, hf⟩ := h
  obtain ⟨xs, m, _, _, _, hlen, hg⟩ := DataW.trod_struct Tryd.underlying45 hf
  have hl : xs.length = 2 := hlen
  have one : ∀ i, i < 2 → ∃ x, xs[i]? = some x := fun i hi => ⟨xs[i]'(by omega), List.getElem?_eq_getElem (by omega)⟩
  match l, hsz.trans hC with
  | [v0, v1], _ =>
    have g0 : DataW.trod enc Tryd.prog w base spare held m 9 (([v0, v1].drop 0).take (Tryd.prog.cellsOf 9)) = xs[0]? := hg 0 _ rfl
    have g1 : DataW.trod enc Tryd.prog w base spare held m 43 (([v0, v1].drop 1).take (Tryd.prog.cellsOf 43)) = xs[1]? := hg 1 _ rfl
    rw [c1] at g0
    rw [c2] at g1
    obtain ⟨x0, e0⟩ := one 0 (by omega)
    obtain ⟨x1, e1⟩ := one 1 (by omega)
    obtain ⟨s, hs, _, hm⟩ := DataW.trod_string Tryd.underlying9 (g0.trans e0)
    obtain ⟨A, cap, k, hk, ht, hm2, hf2, hc2⟩ := open_vals_cell (g1.trans e1)
    simp at hs
    exact ⟨s, A, cap, k, by rw [hs, hk], hm, ht, hm2, hf2, hc2⟩
set_option maxRecDepth 100000 in
theorem open_value {r : Reach} {b0 : Nat} {v : Value} {d : DataW H} {p : List MemPlace} (hv : Value.okWide Tryd.prog w r b0 63 v) (h : DataW.Trod enc Tryd.prog w base spare held 63 v d p) :
    ∃ (z : Int) (s : ByteArray), v = .agg #[.int .i64 z, .string s] ∧ s.size ≤ maxLen := by
  obtain ⟨cs, rfl, hsz⟩ := okWide_struct Tryd.underlying63 hv
  have hC : Tryd.prog.cellsOf 63 = 2 := by kernel_rfl
  obtain ⟨l⟩ := cs
  obtain ⟨fuel, hf⟩ := h
  obtain ⟨z, s, hz, hs⟩ := open_val_cells (hsz.trans hC) hf
  exact ⟨z, s, by rw [show l = [.int .i64 z, .string s] from hz], hs⟩
end
end Go.Proofs.YtnbllngljgmebaaDoor
