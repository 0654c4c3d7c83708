/-
  Blocks of memory that a walk carries through calls and stores: small facts that the walks share.
-/
import Derived.Test.YtelbndhdgnmfjaaByt
import Derived.Laws.Rows
namespace Go.Proofs.Ytelbndhdgnmfjaa
open Go.RowKit

theorem below_al (w : World) (o : Obj) : Below w.heap.size w (w.alloc o) := (Below.refl _ _).alloc (Nat.le_refl _) o
theorem heap_al (w : World) (o : Obj) (g : Nat) (hg : g = w.heap.size) : (w.alloc o).heap[g]? = some o := by subst hg; exact heap_alloc_new w o
theorem obj_below {w w' : World} {g : Nat} {O : Obj} (h : w.heap[g]? = some O) (hb : Below w.heap.size w w') : w'.heap[g]? = some O := by
  have hg : g < w.heap.size := by
    by_cases hlt : g < w.heap.size
    · exact hlt
    · have hn : w.heap[g]? = none := by simp; omega
      rw [hn] at h; cases h
  rw [hb.block g hg]; exact h
theorem obj_lt {w : World} {g : Nat} {O : Obj} (h : w.heap[g]? = some O) : g < w.heap.size := by
  by_cases hlt : g < w.heap.size
  · exact hlt
  · have hn : w.heap[g]? = none := by simp; omega
    rw [hn] at h; cases h
theorem obj_cells {u : World} {g : Nat} {a b : Value} {t : TypeId} (h : u.heap[g]? = some (.cells #[a, b] t)) :
    u.cell? ⟨g, 0, none⟩ = some a ∧ u.cell? ⟨g, 1, none⟩ = some b ∧ u.frozen? ⟨g, 0, none⟩ = false ∧ u.frozen? ⟨g, 1, none⟩ = false :=
  ⟨cell_of_row u g 0 _ t _ h, cell_of_row u g 1 _ t _ h, frozen_of_row u g 0 _ t h, frozen_of_row u g 1 _ t h⟩
theorem obj_set2 {u : World} {g : Nat} {a b : Value} {t : TypeId} (h : u.heap[g]? = some (.cells #[a, b] t)) (c d : Value) : ((u.setCell ⟨g, 0, none⟩ c).setCell ⟨g, 1, none⟩ d).heap[g]? = some (.cells #[c, d] t) :=
  heap_setCell_same _ g 1 _ t d (heap_setCell_same u g 0 _ t c h)

theorem obj_set_other {u : World} {p q : Nat} {O : Obj} (h : u.heap[q]? = some O) (hq : q ≠ p) (c d : Value) : ((u.setCell ⟨p, 0, none⟩ c).setCell ⟨p, 1, none⟩ d).heap[q]? = some O := by
  rw [heap_setCell_other _ _ _ _ hq, heap_setCell_other _ _ _ _ hq]
  exact h
theorem below_set2 {w u : World} {p : Nat} (h : Below w.heap.size w u) (hp : w.heap.size ≤ p) (c d : Value) : Below w.heap.size w ((u.setCell ⟨p, 0, none⟩ c).setCell ⟨p, 1, none⟩ d) :=
  (h.setCell (p := ⟨p, 0, none⟩) hp c).setCell (p := ⟨p, 1, none⟩) hp d
theorem heap_alloc_old' (w : World) (o : Obj) (i : Nat) (h : i < w.heap.size) : (w.alloc o).heap[i]? = w.heap[i]? := (below_al w o).block i h

/-- Results: a struct's or an array's block, then two slots. -/
theorem results_cell_row2 {P : Program} {fn : Func} {p u v : Tmp} {ty : TypeId} (h : fn.results = #[.cell p ty, .tmp u, .tmp v]) (tmps : Array Value) (w : World) (g : Nat) (t : TypeId) (cs : Array Value) (fr : Nat × Nat) (d : TypeDesc)
    (hp : tmps.getD p undef = .pointer (some ⟨g, 0, none⟩)) (hg : w.heap[g]? = some (.cells cs t fr))
    (hu : P.underlying ty = some d) (hd : (match d with | .struct _ | .array _ _ => true | _ => false) = true) (hi : (P.info? ty).map (·.size) = some cs.size) :
    (results fn tmps).run P w = .ok (.tuple #[.agg cs, tmps.getD u undef, tmps.getD v undef]) w := by
  have hp' : tmps[p]?.getD undef = .pointer (some ⟨g, 0, none⟩) := by simpa using hp
  simp [results, h, hp', asAddr, run_loadVar_row w g t ty cs fr d hg hu hd hi]

end Go.Proofs.Ytelbndhdgnmfjaa
