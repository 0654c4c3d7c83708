/-
  What the document's table is: in every world.
-/
import Derived.Test.YtbclaiaadeecfaaDoorDiaMath
import Derived.Test.YtbclaiaadeecfaaDoorObjs
namespace Go.Proofs.YtbclaiaadeecfaaDoor
open Go.RowKit

/-- Blocks made one behind the other. -/
def allocs : World → List Obj → World
  | w, [] => w
  | w, o :: r => allocs (w.alloc o) r
theorem allocs_below : ∀ (l : List Obj) (w : World), Below w.heap.size w (allocs w l)
  | [], _ => Below.refl _ _
  | o :: r, w => hbt (below_al w o) (allocs_below r (w.alloc o))
theorem allocs_at : ∀ (l : List Obj) (w : World) (i : Nat) (o : Obj), l[i]? = some o → (allocs w l).heap[w.heap.size + i]? = some o
  | [], _, _, _, h => by simp at h
  | x :: r, w, 0, o, h => by
    have hx : x = o := by simpa using h
    subst hx
    exact obj_below (heap_alloc_new w x) (allocs_below r (w.alloc x))
  | x :: r, w, i + 1, o, h => by
    have := allocs_at r (w.alloc x) i o (by simpa using h)
    rwa [show (w.alloc x).heap.size + i = w.heap.size + (i + 1) by simp; omega] at this

def diaO (k : Nat) : Obj := .cells ((diaR k).map fun z => Value.int .i64 z).toArray 3
def diaS (n : Nat) : Obj := .cells ((List.range 29).map fun i => Value.slice (some ⟨n + i, 0, none⟩) 9 9).toArray 48
/-- The table: 29 rows, and behind them the row of rows. -/
def DiaAt (n : Nat) (u : World) : Prop := (∀ k, k < 29 → u.heap[n + k]? = some (diaO k)) ∧ u.heap[n + 29]? = some (diaS n)
theorem DiaAt.keep {n : Nat} {u u' : World} (h : DiaAt n u) (hk : ∀ b, n ≤ b → b < n + 30 → u'.heap[b]? = u.heap[b]?) : DiaAt n u' :=
  ⟨fun k hk' => (hk _ (by omega) (by omega)).trans (h.1 k hk'), (hk _ (by omega) (by omega)).trans h.2⟩
theorem DiaAt.lt {n : Nat} {u : World} (h : DiaAt n u) : n + 30 ≤ u.heap.size := by
  have := obj_lt h.2
  omega
theorem dia_nine : ∀ k, k < 29 → (diaR k).length = 9 := by decide
theorem DiaAt.cell {n : Nat} {u : World} (h : DiaAt n u) {k : Nat} (hk : k < 29) (j : Nat) (hj : j < 9) : u.cell? ⟨n + k, j, none⟩ = some (.int .i64 ((diaR k).getD j 0)) := by
  rw [cell_of_row u _ j _ _ _ (h.1 k hk)]
  have : j < (diaR k).length := by rw [dia_nine k hk]; exact hj
  simp [List.getD, this]
theorem DiaAt.row {n : Nat} {u : World} (h : DiaAt n u) {k : Nat} (hk : k < 29) : u.cell? ⟨n + 29, k, none⟩ = some (.slice (some ⟨n + k, 0, none⟩) 9 9) := by
  rw [cell_of_row u _ k _ _ _ h.2]
  simp [hk]
def diaAll (n : Nat) : List Obj := (List.range 29).map diaO ++ [diaS n]
theorem dia_laid (w : World) : DiaAt w.heap.size (allocs w (diaAll w.heap.size)) := by
  refine ⟨fun k hk => allocs_at _ w k _ ?_, allocs_at _ w 29 _ ?_⟩
  · rw [diaAll, List.getElem?_append_left (by simpa using hk)]
    simp [hk]
  · rw [diaAll, List.getElem?_append_right (by simp)]
    simp

set_option maxRecDepth 100000 in
set_option maxHeartbeats 6400000 in
theorem both_tab (w : World) :
    Calls Tryd.prog 25 #[] w fun e w' => ∃ n, e = .returned (.slice (some ⟨n + 29, 0, none⟩) 29 29) ∧ w.heap.size ≤ n ∧ DiaAt n w' ∧ Below w.heap.size w w' := by
  have HL := Lib.hid (dia_laid w)
  have HB := Lib.hid (allocs_below (diaAll w.heap.size) w)
  go_enter Tryd.func25, Tryd.ntmps25
  go_wp2
  go_ret
  exact ⟨w.heap.size, rfl, Nat.le_refl _, HL.out, HB.out⟩

end Go.Proofs.YtbclaiaadeecfaaDoor
