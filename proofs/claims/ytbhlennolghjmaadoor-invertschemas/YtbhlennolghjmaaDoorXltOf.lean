/-
  A map in a block.
-/
import Derived.Test.YtbhlennolghjmaaDoorXltRow
import Derived.Test.YtbhlennolghjmaaDoorPackRul
namespace Go.Proofs.YtbhlennolghjmaaDoor
open Go.RowKit

/-- A map in a block. -/
def MpBox (u : World) (g : Nat) (A : Option Addr) (n c : Nat) (B : Option Addr) (n' c' : Nat) : Prop := u.heap[g]? = some (.cells #[.slice A n c, .slice B n' c'] 25)
theorem MpBox.below {u u' : World} {g : Nat} {A : Option Addr} {n c : Nat} {B : Option Addr} {n' c' : Nat} (h : MpBox u g A n c B n' c') (hb : Below u.heap.size u u') : MpBox u' g A n c B n' c' := obj_below h hb
/-- A map, and two schemas. -/
def MQ (w : World) (X : Option Addr) (n c : Nat) (Y : Option Addr) (n' c' : Nat) (st v : Int) (A : Option Addr) (la ca : Nat) (st' v' : Int) (A' : Option Addr) (lb cb : Nat) (u : World) : Prop :=
  Below w.heap.size w u ∧ MpBox u w.heap.size X n c Y n' c' ∧ Box u (w.heap.size + 1) st v A la ca ∧ Box u (w.heap.size + 2) st' v' A' lb cb
theorem MQ.below {w : World} {X : Option Addr} {n c : Nat} {Y : Option Addr} {n' c' : Nat} {st v : Int} {A : Option Addr} {la ca : Nat} {st' v' : Int} {A' : Option Addr} {lb cb : Nat} {u u' : World} (h : MQ w X n c Y n' c' st v A la ca st' v' A' lb cb u) (hb : Below u.heap.size u u') : MQ w X n c Y n' c' st v A la ca st' v' A' lb cb u' :=
  ⟨hbt h.1 hb, h.2.1.below hb, h.2.2.1.below hb, h.2.2.2.below hb⟩
theorem MQ.drew {w : World} {X : Option Addr} {n c : Nat} {Y : Option Addr} {n' c' : Nat} {st v : Int} {A : Option Addr} {la ca : Nat} {st' v' : Int} {A' : Option Addr} {lb cb : Nat} {u : World} (h : MQ w X n c Y n' c' st v A la ca st' v' A' lb cb u) : MQ w X n c Y n' c' st v A la ca st' v' A' lb cb u.drew :=
  ⟨h.1.drew, h.2.1, h.2.2.1, h.2.2.2⟩
theorem mq_new (w : World) (X : Option Addr) (n c : Nat) (Y : Option Addr) (n' c' : Nat) (st v : Int) (A : Option Addr) (la ca : Nat) (st' v' : Int) (A' : Option Addr) (lb cb : Nat) :
    MQ w X n c Y n' c' st v A la ca st' v' A' lb cb (((w.alloc (.cells #[.slice X n c, .slice Y n' c'] 25)).alloc (.cells #[.int .i64 st, .int .i64 v, .slice A la ca] 28)).alloc (.cells #[.int .i64 st', .int .i64 v', .slice A' lb cb] 28)) :=
  ⟨hbt (hbt (below_al _ _) (below_al _ _)) (below_al _ _), obj_below (obj_below (heap_alloc_new _ _) (below_al _ _)) (below_al _ _), obj_below (heap_al _ _ _ (by simp)) (below_al _ _), heap_al _ _ _ (by simp)⟩
theorem MQ.cells {w : World} {X : Option Addr} {n c : Nat} {Y : Option Addr} {n' c' : Nat} {st v : Int} {A : Option Addr} {la ca : Nat} {st' v' : Int} {A' : Option Addr} {lb cb : Nat} {u : World} (h : MQ w X n c Y n' c' st v A la ca st' v' A' lb cb u) :
    (u.cell? ⟨w.heap.size, 0, none⟩ = some (.slice X n c) ∧ u.cell? ⟨w.heap.size, 1, none⟩ = some (.slice Y n' c')) ∧
    (u.cell? ⟨w.heap.size + 1, 0, none⟩ = some (.int .i64 st) ∧ u.cell? ⟨w.heap.size + 1, 1, none⟩ = some (.int .i64 v) ∧ u.cell? ⟨w.heap.size + 1, 2, none⟩ = some (.slice A la ca)) ∧
    u.cell? ⟨w.heap.size + 2, 0, none⟩ = some (.int .i64 st') ∧ u.cell? ⟨w.heap.size + 2, 1, none⟩ = some (.int .i64 v') ∧ u.cell? ⟨w.heap.size + 2, 2, none⟩ = some (.slice A' lb cb) := by
  obtain ⟨_, h1, h2, h3⟩ := h
  obtain ⟨m0, m1, _, _⟩ := obj_cells h1
  exact ⟨⟨m0, m1⟩, obj_cells3 h2, obj_cells3 h3⟩

end Go.Proofs.YtbhlennolghjmaaDoor
