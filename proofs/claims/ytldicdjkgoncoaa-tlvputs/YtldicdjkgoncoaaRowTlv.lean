/-
  Arguments opened: a slice of tagged values.
-/
import Derived.OpenShut
import Derived.ChangeSlices
import Derived.ChangeSame
import Derived.WideShapes
import Derived.Test.YtldicdjkgoncoaaTlvCheck
namespace Go.Proofs.Ytldicdjkgoncoaa
open Go.ChangeShapes Go.WideShapes Go.RowKit

def itemOf (w : World) (a : Addr) (i : Nat) : Item := (match w.cell? (a.add (i * 2)) with | some (.int _ z) => z | _ => 0, match w.cell? ⟨(a.add (i * 2)).block, (a.add (i * 2)).off + 1, none⟩ with | some (.string s) => s | _ => ⟨#[]⟩)
section
variable {H : Type} {enc : TypeId × Value → H} {w : World} {base : Nat} {spare : Nat → Bool} {held : Bool}

theorem open_tlv_list {r : Reach} {b0 : Nat} {v : Value} {d : DataW H} {p : List MemPlace} (hv : Value.okWide Try.prog w r b0 22 v) (h : DataW.Trod enc Try.prog w base spare held 22 v d p) :
    ∃ (A : Option Addr) (cap : Nat) (l : List Item), v = .slice A l.length cap ∧ Tlvs w A l ∧ l.length ≤ maxLen ∧ Fine l := by
  obtain ⟨a0, len, cap, rfl⟩ := okWide_slice Try.underlying22 hv
  obtain ⟨fuel, hf⟩ := h
  have hC : Try.prog.cellsOf 42 = 2 := by kernel_rfl
  have c1 : Try.prog.cellsOf 3 = 1 := by kernel_rfl
  have c2 : Try.prog.cellsOf 9 = 1 := by kernel_rfl
  rcases DataW.trod_slice Try.underlying22 hf with ⟨hcs, _⟩ | ⟨a, len', cap', elems, rest, n, _, hcs, _, hb, hl, hm, hlen, hel, _, _⟩
  · simp [Value.cells] at hcs
    obtain ⟨rfl, rfl, rfl⟩ := hcs
    exact ⟨none, 0, [], rfl, tlvs_nil _ _, by simp, fun i hi => by simp at hi⟩
  · simp [Value.cells] at hcs
    obtain ⟨rfl, rfl, rfl⟩ := hcs
    have hat : ∀ i, i < len → ∃ (z : Int) (s : ByteArray), w.cell? (a.add (i * 2)) = some (.int .i64 z) ∧ w.cell? ⟨(a.add (i * 2)).block, (a.add (i * 2)).off + 1, none⟩ = some (.string s) ∧ (Lit.int .i64 z).wf = true ∧ s.size ≤ maxLen := by
      intro i hi
      have h1 := hel i hi
      rw [List.getElem?_eq_getElem (by omega), hC, Option.bind_eq_some_iff] at h1
      obtain ⟨cs, hc, ht⟩ := h1
      obtain ⟨_, hl2, hcell⟩ := World.cells?_some hc
      obtain ⟨y0, y1, m, _, _, h0, h1⟩ := trod_struct2 Try.underlying42 ht
      dsimp only at h0 h1
      rw [c1] at h0
      rw [c2] at h1
      obtain ⟨z, hz, _, hw⟩ := DataW.trod_int Try.underlying3 h0
      obtain ⟨s, hs, _, hsm⟩ := DataW.trod_string Try.underlying9 h1
      match cs, hl2 with
      | [x0, x1], _ =>
        simp at hz hs
        subst hz
        subst hs
        have e0 := hcell 0 (by omega)
        have e1 := hcell 1 (by omega)
        refine ⟨z, s, ?_, e1, hw, hsm⟩
        simpa [Addr.add] using e0
    have hit : ∀ i, i < len → itemAt ((List.range len).map (itemOf w a)) i = itemOf w a i := fun i hi => by simp [itemAt, List.getD, hi]
    refine ⟨some a, cap, (List.range len).map (itemOf w a), by simp, fun i hi => ⟨a, rfl, ?_⟩, by simp; omega, fun i hi => ?_⟩
    · have hi' : i < len := by simpa using hi
      obtain ⟨z, s, h1, h2, _, _⟩ := hat i hi'
      rw [hit i hi']
      unfold itemOf
      rw [h1, h2]
      exact ⟨rfl, rfl⟩
    · have hi' : i < len := by simpa using hi
      obtain ⟨z, s, h1, h2, h3, h4⟩ := hat i hi'
      rw [hit i hi']
      unfold itemOf
      rw [h1, h2]
      exact ⟨h3, h4⟩
end
end Go.Proofs.Ytldicdjkgoncoaa
