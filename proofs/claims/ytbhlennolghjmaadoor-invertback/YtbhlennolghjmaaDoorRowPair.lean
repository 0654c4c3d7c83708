/-
  Arguments opened: a slice of pairs of texts.
-/
import Derived.OpenShut
import Derived.ChangeSlices
import Derived.ChangeSame
import Derived.WideShapes
import Derived.Test.YtbhlennolghjmaaDoorPackCod
namespace Go.Proofs.YtbhlennolghjmaaDoor
open Go.ChangeShapes Go.WideShapes Go.RowKit

def duoOf (w : World) (a : Addr) (i : Nat) : PairT := (match w.cell? (a.add (i * 2)) with | some (.string s) => s | _ => ⟨#[]⟩, match w.cell? ⟨(a.add (i * 2)).block, (a.add (i * 2)).off + 1, none⟩ with | some (.string s) => s | _ => ⟨#[]⟩)
section
variable {H : Type} {enc : TypeId × Value → H} {w : World} {base : Nat} {spare : Nat → Bool} {held : Bool}

set_option maxRecDepth 100000 in
theorem open_pair_list {r : Reach} {b0 : Nat} {v : Value} {d : DataW H} {p : List MemPlace} (hv : Value.okWide Tryd.prog w r b0 22 v) (h : DataW.Trod enc Tryd.prog w base spare held 22 v d p) :
    ∃ (A : Option Addr) (cap : Nat) (l : List PairT), v = .slice A l.length cap ∧ Prs w A l ∧ l.length ≤ maxLen ∧ Fit2 l ∧ l.length ≤ cap := by
  obtain ⟨a0, len, cap, rfl⟩ := okWide_slice Tryd.underlying22 hv
  obtain ⟨fuel, hf⟩ := h
  have hC : Tryd.prog.cellsOf 62 = 2 := by kernel_rfl
  have c2 : Tryd.prog.cellsOf 9 = 1 := by kernel_rfl
  rcases DataW.trod_slice Tryd.underlying22 hf with ⟨hcs, _⟩ | ⟨a, len', cap', elems, rest, n, _, hcs, _, hb, hl, hm, hlen, hel, _, _⟩
  · simp [Value.cells] at hcs
    obtain ⟨rfl, rfl, rfl⟩ := hcs
    exact ⟨none, 0, [], rfl, prs_nil _ _, by simp, fun x hx => by simp at hx, Nat.zero_le _⟩
  · simp [Value.cells] at hcs
    obtain ⟨rfl, rfl, rfl⟩ := hcs
    have hat : ∀ i, i < len → ∃ (z s : ByteArray), w.cell? (a.add (i * 2)) = some (.string z) ∧ w.cell? ⟨(a.add (i * 2)).block, (a.add (i * 2)).off + 1, none⟩ = some (.string s) ∧ z.size ≤ maxLen ∧ s.size ≤ maxLen := by
      intro i hi
      have h1 := hel i hi
      rw [List.getElem?_eq_getElem (by omega), hC, Option.bind_eq_some_iff] at h1
      obtain ⟨cs, hc, ht⟩ := h1
      obtain ⟨_, hl2, hcell⟩ := World.cells?_some hc
      obtain ⟨y0, y1, m, _, _, h0, h1⟩ := trod_struct2 Tryd.underlying62 ht
      dsimp only at h0 h1
      rw [c2] at h0 h1
      obtain ⟨z, hz, _, hzm⟩ := DataW.trod_string Tryd.underlying9 h0
      obtain ⟨s, hs, _, hsm⟩ := DataW.trod_string Tryd.underlying9 h1
      match cs, hl2 with
      | [x0, x1], _ =>
        simp at hz hs
        subst hz
        subst hs
        have e0 := hcell 0 (by omega)
        have e1 := hcell 1 (by omega)
        refine ⟨z, s, ?_, e1, hzm, hsm⟩
        simpa [Addr.add] using e0
    have hit : ∀ i, i < len → duoAt ((List.range len).map (duoOf w a)) i = duoOf w a i := fun i hi => by simp [duoAt, List.getD, hi]
    refine ⟨some a, cap, (List.range len).map (duoOf w a), by simp, fun i hi => ⟨a, rfl, ?_⟩, by simp; omega, fun x hx => ?_, by simp; omega⟩
    · have hi' : i < len := by simpa using hi
      obtain ⟨z, s, h1, h2, _, _⟩ := hat i hi'
      rw [hit i hi']
      unfold duoOf
      rw [h1, h2]
      exact ⟨rfl, rfl⟩
    · simp only [List.mem_map, List.mem_range] at hx
      obtain ⟨i, hi, rfl⟩ := hx
      obtain ⟨z, s, h1, h2, h3, h4⟩ := hat i hi
      unfold duoOf
      rw [h1, h2]
      exact ⟨h3, h4⟩
end
end Go.Proofs.YtbhlennolghjmaaDoor
