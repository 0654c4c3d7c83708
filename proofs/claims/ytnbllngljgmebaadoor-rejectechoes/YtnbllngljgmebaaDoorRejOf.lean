/-
  A side in a block of seven cells; a fault's block.
-/
import Derived.Test.YtnbllngljgmebaaDoorPackMsg
import Derived.Test.YtnbllngljgmebaaDoorPackBase
import Derived.OwnWalk
namespace Go.Proofs.YtnbllngljgmebaaDoor
open Go.RowKit

theorem Tryd.infoCode : (Tryd.prog.info? 61).map (fun i => (i.zero, i.size, i.bytes)) = some (some (.agg #[.int .i64 0, .string ⟨#[]⟩]), 2, 24) := by kernel_rfl
theorem Tryd.infoInt : (Tryd.prog.info? 3).map (fun i => (i.zero, i.size, i.bytes)) = some (some (.int .i64 0), 1, 8) := by kernel_rfl
theorem obj_seven {u : World} {g : Nat} {a b c d e f h : Value} {t : TypeId} (hg : u.heap[g]? = some (.cells #[a, b, c, d, e, f, h] t)) :
    u.cell? ⟨g, 0, none⟩ = some a ∧ u.cell? ⟨g, 1, none⟩ = some b ∧ u.cell? ⟨g, 2, none⟩ = some c ∧ u.cell? ⟨g, 3, none⟩ = some d ∧ u.cell? ⟨g, 4, none⟩ = some e ∧ u.cell? ⟨g, 5, none⟩ = some f ∧ u.cell? ⟨g, 6, none⟩ = some h :=
  ⟨cell_of_row u g 0 _ t _ hg, cell_of_row u g 1 _ t _ hg, cell_of_row u g 2 _ t _ hg, cell_of_row u g 3 _ t _ hg, cell_of_row u g 4 _ t _ hg, cell_of_row u g 5 _ t _ hg, cell_of_row u g 6 _ t _ hg⟩
theorem obj_warm7 {u : World} {g : Nat} {a b c d e f h : Value} {t : TypeId} (hg : u.heap[g]? = some (.cells #[a, b, c, d, e, f, h] t)) :
    u.frozen? ⟨g, 0, none⟩ = false ∧ u.frozen? ⟨g, 1, none⟩ = false ∧ u.frozen? ⟨g, 2, none⟩ = false ∧ u.frozen? ⟨g, 3, none⟩ = false ∧ u.frozen? ⟨g, 4, none⟩ = false ∧ u.frozen? ⟨g, 5, none⟩ = false ∧ u.frozen? ⟨g, 6, none⟩ = false :=
  ⟨frozen_of_row u g 0 _ t hg, frozen_of_row u g 1 _ t hg, frozen_of_row u g 2 _ t hg, frozen_of_row u g 3 _ t hg, frozen_of_row u g 4 _ t hg, frozen_of_row u g 5 _ t hg, frozen_of_row u g 6 _ t hg⟩
/-- What a side's block holds. -/
def SBox (u : World) (g : Nat) (st v : Int) (A : Option Addr) (n cA : Nat) (X : Option Addr) (nM cM : Nat) (Y : Option Addr) (nR cR : Nat) (B : Option Addr) (nE cB : Nat) (D : Option Addr) (nC cD : Nat) : Prop :=
  u.heap[g]? = some (.cells #[.int .i64 st, .int .i64 v, .slice A n cA, .slice X nM cM, .slice Y nR cR, .slice B nE cB, .slice D nC cD] 32)
section
variable {u u' w : World} {g : Nat} {st v : Int} {A : Option Addr} {n cA : Nat} {X : Option Addr} {nM cM : Nat} {Y : Option Addr} {nR cR : Nat} {B : Option Addr} {nE cB : Nat} {D : Option Addr} {nC cD : Nat}
theorem SBox.below (h : SBox u g st v A n cA X nM cM Y nR cR B nE cB D nC cD) (hb : Below u.heap.size u u') : SBox u' g st v A n cA X nM cM Y nR cR B nE cB D nC cD := obj_below h hb
theorem sbox_new : SBox (w.alloc (.cells #[.int .i64 st, .int .i64 v, .slice A n cA, .slice X nM cM, .slice Y nR cR, .slice B nE cB, .slice D nC cD] 32)) w.heap.size st v A n cA X nM cM Y nR cR B nE cB D nC cD := heap_alloc_new _ _
theorem SBox.cells (h : SBox u g st v A n cA X nM cM Y nR cR B nE cB D nC cD) :
    u.cell? ⟨g, 0, none⟩ = some (.int .i64 st) ∧ u.cell? ⟨g, 1, none⟩ = some (.int .i64 v) ∧ u.cell? ⟨g, 2, none⟩ = some (.slice A n cA) ∧ u.cell? ⟨g, 3, none⟩ = some (.slice X nM cM) ∧ u.cell? ⟨g, 4, none⟩ = some (.slice Y nR cR) ∧ u.cell? ⟨g, 5, none⟩ = some (.slice B nE cB) ∧ u.cell? ⟨g, 6, none⟩ = some (.slice D nC cD) := obj_seven h
end

/-- Parts of slices. -/
theorem tlvs_take {w : World} {A : Option Addr} {l : List Item} (h : Tlvs w A l) {k : Nat} (hk : k ≤ l.length) : Tlvs w A (l.take k) := fun i hi => by
  have hi' : i < k := by simp at hi; omega
  obtain ⟨a, ha, h0, h1⟩ := h i (by omega)
  have e : itemAt (l.take k) i = itemAt l i := by rw [itemAt_get hi, itemAt_get (by omega)]; simp
  rw [e]
  exact ⟨a, ha, h0, h1⟩
theorem ints_take {w : World} {A : Option Addr} {l : List Int} (h : Ints w A l) {k : Nat} (hk : k ≤ l.length) : Ints w A (l.take k) := fun i hi => by
  have hi' : i < k := by simp at hi; omega
  obtain ⟨a, ha, h0⟩ := h i (by omega)
  refine ⟨a, ha, ?_⟩
  rw [h0]
  simp [List.getD, hi']
/-- 's[:p]' of a slice of codes, of numbers. -/
theorem cut_codes (A : Option Addr) (n cap p : Nat) (hp : p ≤ cap) (W : World) : (Instr.slice 30 (.slice A n cap) none (some (.int .i64 (p : Int))) none).run Tryd.prog W = .ok (.slice A p cap) W := by
  obtain ⟨i0, hi, hz0, hz1, hz2⟩ := info_parts Tryd.infoCode
  rw [run_slice_h W 30 A n cap (by kernel_rfl) .i64 (p : Int) (by omega) (by omega), show Tryd.prog.elem 30 = 61 by kernel_rfl, run_sizeOf W hi]
  cases A <;> simp [sliced, Result.andThen, Addr.add]
theorem cut_ints (A : Option Addr) (n cap p : Nat) (hp : p ≤ cap) (W : World) : (Instr.slice 29 (.slice A n cap) none (some (.int .i64 (p : Int))) none).run Tryd.prog W = .ok (.slice A p cap) W := by
  obtain ⟨i0, hi, hz0, hz1, hz2⟩ := info_parts Tryd.infoInt
  rw [run_slice_h W 29 A n cap (by kernel_rfl) .i64 (p : Int) (by omega) (by omega), show Tryd.prog.elem 29 = 3 by kernel_rfl, run_sizeOf W hi]
  cases A <;> simp [sliced, Result.andThen, Addr.add]

end Go.Proofs.YtnbllngljgmebaaDoor
