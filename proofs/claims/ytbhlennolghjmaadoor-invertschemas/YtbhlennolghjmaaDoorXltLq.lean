/-
  What the first blocks of the laws of maps hold; what a map that is no more than is played has.
-/
import Derived.Test.YtbhlennolghjmaaDoorXltPrg
import Derived.Test.YtbhlennolghjmaaDoorXltGreat
namespace Go.Proofs.YtbhlennolghjmaaDoor
open Go.RowKit

theorem obj_six {u : World} {g : Nat} {a b c d e f : Value} {t : TypeId} (h : u.heap[g]? = some (.cells #[a, b, c, d, e, f] t)) :
    u.cell? ⟨g, 0, none⟩ = some a ∧ u.cell? ⟨g, 1, none⟩ = some b ∧ u.cell? ⟨g, 2, none⟩ = some c ∧ u.cell? ⟨g, 3, none⟩ = some d ∧ u.cell? ⟨g, 4, none⟩ = some e ∧ u.cell? ⟨g, 5, none⟩ = some f := obj_cells6 h
/-- A map, and an array of two schemas. -/
def LQ (w : World) (X : Option Addr) (n c : Nat) (Y : Option Addr) (n' c' : Nat) (st v : Int) (A : Option Addr) (la ca : Nat) (st' v' : Int) (A' : Option Addr) (lb cb : Nat) (u : World) : Prop :=
  Below w.heap.size w u ∧ MpBox u w.heap.size X n c Y n' c' ∧ u.heap[w.heap.size + 1]? = some (.cells #[.int .i64 st, .int .i64 v, .slice A la ca, .int .i64 st', .int .i64 v', .slice A' lb cb] 29)
theorem LQ.below {w : World} {X : Option Addr} {n c : Nat} {Y : Option Addr} {n' c' : Nat} {st v : Int} {A : Option Addr} {la ca : Nat} {st' v' : Int} {A' : Option Addr} {lb cb : Nat} {u u' : World} (h : LQ w X n c Y n' c' st v A la ca st' v' A' lb cb u) (hb : Below u.heap.size u u') : LQ w X n c Y n' c' st v A la ca st' v' A' lb cb u' :=
  ⟨hbt h.1 hb, h.2.1.below hb, obj_below h.2.2 hb⟩
theorem lq_new (w : World) (X : Option Addr) (n c : Nat) (Y : Option Addr) (n' c' : Nat) (st v : Int) (A : Option Addr) (la ca : Nat) (st' v' : Int) (A' : Option Addr) (lb cb : Nat) :
    LQ w X n c Y n' c' st v A la ca st' v' A' lb cb ((w.alloc (.cells #[.slice X n c, .slice Y n' c'] 25)).alloc (.cells #[.int .i64 st, .int .i64 v, .slice A la ca, .int .i64 st', .int .i64 v', .slice A' lb cb] 29)) :=
  ⟨hbt (below_al _ _) (below_al _ _), obj_below (heap_alloc_new _ _) (below_al _ _), heap_al _ _ _ (by simp)⟩
theorem LQ.cells {w : World} {X : Option Addr} {n c : Nat} {Y : Option Addr} {n' c' : Nat} {st v : Int} {A : Option Addr} {la ca : Nat} {st' v' : Int} {A' : Option Addr} {lb cb : Nat} {u : World} (h : LQ w X n c Y n' c' st v A la ca st' v' A' lb cb u) :
    (u.cell? ⟨w.heap.size, 0, none⟩ = some (.slice X n c) ∧ u.cell? ⟨w.heap.size, 1, none⟩ = some (.slice Y n' c')) ∧
    u.cell? ⟨w.heap.size + 1, 0, none⟩ = some (.int .i64 st) ∧ u.cell? ⟨w.heap.size + 1, 1, none⟩ = some (.int .i64 v) ∧ u.cell? ⟨w.heap.size + 1, 2, none⟩ = some (.slice A la ca) ∧
    u.cell? ⟨w.heap.size + 1, 3, none⟩ = some (.int .i64 st') ∧ u.cell? ⟨w.heap.size + 1, 4, none⟩ = some (.int .i64 v') ∧ u.cell? ⟨w.heap.size + 1, 5, none⟩ = some (.slice A' lb cb) := by
  obtain ⟨m0, m1, _, _⟩ := obj_cells h.2.1
  exact ⟨⟨m0, m1⟩, obj_cells6 h.2.2⟩

/-- What a map that is no more than is played has. -/
theorem xgreat_in {M : List PairT} {R : List Ru} (h : xgreatB M R = false) : M.length ≤ 300 ∧ R.length ≤ 300 ∧ ∀ r ∈ R, rgreatB r.2.2.2.1 r.2.2.2.2 = false := by
  unfold xgreatB at h
  simp only [Bool.or_eq_false_iff, decide_eq_false_iff_not, List.any_eq_false] at h
  obtain ⟨⟨⟨h1, h2⟩, _⟩, h4⟩ := h
  exact ⟨by omega, by omega, fun r hr => by simpa using h4 r hr⟩
theorem xgreat_four {M : List PairT} {R : List Ru} (h : xgreatB M R = false) (hf : Fit3 R) : Fit4 R := fun r hr => by
  have h1 := (xgreat_in h).2.2 r hr
  obtain ⟨k1, k2, k3⟩ := hf r hr
  refine ⟨k1, ?_, k3⟩
  unfold rgreatB at h1
  simp only [Bool.or_eq_false_iff, decide_eq_false_iff_not] at h1
  omega

end Go.Proofs.YtbhlennolghjmaaDoor
