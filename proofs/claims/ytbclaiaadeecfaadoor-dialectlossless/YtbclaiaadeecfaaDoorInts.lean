/-
  Slices of numbers: one that is read, a row of the call's own, a copy.
-/
import Derived.Test.YtbclaiaadeecfaaDoorObjs
import Derived.Deep.AppendLies
import Derived.Laws.OwnMore
namespace Go.Proofs.YtbclaiaadeecfaaDoor
open Go.RowKit

theorem getD_get (zs : List Int) (i : Nat) (h : i < zs.length) : zs.getD i 0 = zs[i] := by simp [List.getD, h]
/-- A slice that holds these numbers. -/
def Ints (w : World) (A : Option Addr) (zs : List Int) : Prop := ∀ i, i < zs.length → ∃ a, A = some a ∧ w.cell? (a.add i) = some (.int .i64 (zs.getD i 0))
theorem Ints.below {w w' : World} {A : Option Addr} {zs : List Int} (h : Ints w A zs) (hb : Below w.heap.size w w') : Ints w' A zs := fun i hi => by
  obtain ⟨a, ha, hc⟩ := h i hi
  refine ⟨a, ha, ?_⟩
  rw [hb.cell (block_lt_of_cell hc)]
  exact hc

theorem Tryd.infoX64 : (Tryd.prog.info? 3).map (fun i => (i.zero, i.size, i.bytes)) = some (some (.int .i64 0), 1, 8) := by kernel_rfl
def zi (l : List Nat) : List Int := l.map fun (k : Nat) => (k : Int)
theorem zi_length (l : List Nat) : (zi l).length = l.length := by simp [zi]
def iv (k : Nat) : Value := .int .i64 (k : Int)
/-- What a row of the call's own holds, as a slice that is read. -/
theorem ints_own {w : World} {base g n c : Nat} {l : List Nat} (h : w.ownsRow base 3 1 (.slice (some ⟨g, 0, none⟩) n c) n (l.map iv)) (hn : l.length = n) : Ints w (some ⟨g, 0, none⟩) (zi l) := by
  intro i hi
  refine ⟨_, rfl, ?_⟩
  have hi' : i < l.length := by simpa [zi] using hi
  have hc := h.cellAt i (by omega)
  rw [show (⟨g, 0, none⟩ : Addr).add i = ⟨g, i, none⟩ from by rw [Addr.add_lit, Nat.zero_add], hc]
  simp [iv, zi, hi', List.getD]

theorem own_below {w w' : World} {base e size g n c : Nat} {xs : List Value} (h : w.ownsRow base e size (.slice (some ⟨g, 0, none⟩) n c) n xs) (hb : Below w.heap.size w w') : w'.ownsRow base e size (.slice (some ⟨g, 0, none⟩) n c) n xs := by
  refine ⟨h.1, ?_⟩
  rcases h.2 with ⟨h1, _⟩ | ⟨g', cap, cur, h1, h2, h3, h4⟩
  · cases h1
  · exact .inr ⟨g', cap, cur, h1, h2, obj_below h3 hb, h4⟩
/-- A copy of a slice's numbers, in a row of the call's own. -/
theorem ints_copy {w : World} {base g n c : Nat} {zs : List Int} (h : w.ownsRow base 3 1 (.slice (some ⟨g, 0, none⟩) n c) n (zs.map fun z => .int .i64 z)) (hn : zs.length = n) : Ints w (some ⟨g, 0, none⟩) zs := by
  intro i hi
  refine ⟨_, rfl, ?_⟩
  have hc := h.cellAt i (by omega)
  rw [show (⟨g, 0, none⟩ : Addr).add i = ⟨g, i, none⟩ from by rw [Addr.add_lit, Nat.zero_add], hc]
  simp [hi, List.getD]
theorem ints_nil (w : World) (A : Option Addr) : Ints w A [] := fun i hi => by simp at hi
theorem ints_news {w : World} {a : Addr} {zs : List Int} (h : Ints w (some a) zs) : ∀ j u, (zs.map fun z => Value.int .i64 z)[j]? = some u → w.cell? (a.add j) = some u := by
  intro j u hu
  obtain ⟨hj, he⟩ := List.getElem?_eq_some_iff.1 hu
  have hj' : j < zs.length := by simpa using hj
  obtain ⟨a', ha, hc⟩ := h j hj'
  injection ha with ha
  subst ha
  rw [hc, ← he]
  simp [hj', List.getD]

end Go.Proofs.YtbclaiaadeecfaaDoor
