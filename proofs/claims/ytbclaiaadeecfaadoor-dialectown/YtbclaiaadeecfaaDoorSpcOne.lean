/-
  One spec, or two, in the first blocks that a call makes: through calls, and through regions that draw their order.
-/
import Derived.Test.YtbclaiaadeecfaaDoorObjs
namespace Go.Proofs.YtbclaiaadeecfaaDoor
open Go.RowKit

theorem obj_cells5 {u : World} {g : Nat} {a b c d e : Value} {t : TypeId} (h : u.heap[g]? = some (.cells #[a, b, c, d, e] t)) :
    u.cell? ⟨g, 0, none⟩ = some a ∧ u.cell? ⟨g, 1, none⟩ = some b ∧ u.cell? ⟨g, 2, none⟩ = some c ∧ u.cell? ⟨g, 3, none⟩ = some d ∧ u.cell? ⟨g, 4, none⟩ = some e :=
  ⟨cell_of_row u g 0 _ t _ h, cell_of_row u g 1 _ t _ h, cell_of_row u g 2 _ t _ h, cell_of_row u g 3 _ t _ h, cell_of_row u g 4 _ t _ h⟩

/-- One spec in the first block that the call makes. -/
def Spec1 (w : World) (n c f lo hi : Int) (u : World) : Prop := Below w.heap.size w u ∧ u.heap[w.heap.size]? = some (.cells #[.int .i64 n, .int .i64 c, .int .i64 f, .int .i64 lo, .int .i64 hi] 28)
theorem Spec1.below {w : World} {n c f lo hi : Int} {u u' : World} (h : Spec1 w n c f lo hi u) (hb : Below u.heap.size u u') : Spec1 w n c f lo hi u' := ⟨hbt h.1 hb, obj_below h.2 hb⟩
theorem spec1_new (w : World) (n c f lo hi : Int) : Spec1 w n c f lo hi (w.alloc (.cells #[.int .i64 n, .int .i64 c, .int .i64 f, .int .i64 lo, .int .i64 hi] 28)) := ⟨below_al _ _, heap_alloc_new _ _⟩
theorem Spec1.drew {w : World} {n c f lo hi : Int} {u : World} (h : Spec1 w n c f lo hi u) : Spec1 w n c f lo hi u.drew := ⟨h.1.drew, h.2⟩

/-- Two specs in the first two blocks that the call makes. -/
def Specs (w : World) (n c f lo hi n' c' f' lo' hi' : Int) (u : World) : Prop :=
  Below w.heap.size w u ∧ u.heap[w.heap.size]? = some (.cells #[.int .i64 n, .int .i64 c, .int .i64 f, .int .i64 lo, .int .i64 hi] 28) ∧ u.heap[w.heap.size + 1]? = some (.cells #[.int .i64 n', .int .i64 c', .int .i64 f', .int .i64 lo', .int .i64 hi'] 28)
theorem Specs.below {w : World} {n c f lo hi n' c' f' lo' hi' : Int} {u u' : World} (h : Specs w n c f lo hi n' c' f' lo' hi' u) (hb : Below u.heap.size u u') : Specs w n c f lo hi n' c' f' lo' hi' u' :=
  ⟨hbt h.1 hb, obj_below h.2.1 hb, obj_below h.2.2 hb⟩
theorem specs_new (w : World) (n c f lo hi n' c' f' lo' hi' : Int) : Specs w n c f lo hi n' c' f' lo' hi' ((w.alloc (.cells #[.int .i64 n, .int .i64 c, .int .i64 f, .int .i64 lo, .int .i64 hi] 28)).alloc (.cells #[.int .i64 n', .int .i64 c', .int .i64 f', .int .i64 lo', .int .i64 hi'] 28)) :=
  ⟨hbt (below_al _ _) (below_al _ _), obj_below (heap_alloc_new _ _) (below_al _ _), heap_al _ _ _ (by simp)⟩
theorem Specs.cells {w : World} {n c f lo hi n' c' f' lo' hi' : Int} {u : World} (h : Specs w n c f lo hi n' c' f' lo' hi' u) :
    (u.cell? ⟨w.heap.size, 0, none⟩ = some (.int .i64 n) ∧ u.cell? ⟨w.heap.size, 1, none⟩ = some (.int .i64 c) ∧ u.cell? ⟨w.heap.size, 2, none⟩ = some (.int .i64 f) ∧ u.cell? ⟨w.heap.size, 3, none⟩ = some (.int .i64 lo) ∧ u.cell? ⟨w.heap.size, 4, none⟩ = some (.int .i64 hi)) ∧
    (u.cell? ⟨w.heap.size + 1, 0, none⟩ = some (.int .i64 n') ∧ u.cell? ⟨w.heap.size + 1, 1, none⟩ = some (.int .i64 c') ∧ u.cell? ⟨w.heap.size + 1, 2, none⟩ = some (.int .i64 f') ∧ u.cell? ⟨w.heap.size + 1, 3, none⟩ = some (.int .i64 lo') ∧ u.cell? ⟨w.heap.size + 1, 4, none⟩ = some (.int .i64 hi')) :=
  ⟨obj_cells5 h.2.1, obj_cells5 h.2.2⟩
theorem Specs.drew {w : World} {n c f lo hi n' c' f' lo' hi' : Int} {u : World} (h : Specs w n c f lo hi n' c' f' lo' hi' u) : Specs w n c f lo hi n' c' f' lo' hi' u.drew := ⟨h.1.drew, h.2⟩

end Go.Proofs.YtbclaiaadeecfaaDoor
