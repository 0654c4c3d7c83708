/-
  A row of the call's own that a sort has put in order. (Of the library's words for the world behind a sort: what elder blocks hold, and what the row's cells are.)
-/
import Derived.Test.YtnbllngljgmebaaDoorRejPick
import Derived.Test.YtnbllngljgmebaaDoorPackMsg
import Derived.Shelf.SlSortCmp.NoneTotal
namespace Go.Proofs.YtnbllngljgmebaaDoor
open Go.RowKit Go.Lib Go.Sort Go.Shelf

def encI (x : Item) : List Value := [.int .i64 x.1, .string x.2]
def cmpI (x y : Item) : Int := Lib.compareInt x.1 y.1
theorem ltI (x y : Item) : ltOf cmpI x y = decide (x.1 < y.1) := by
  unfold ltOf cmpI Lib.compareInt
  by_cases h1 : x.1 < y.1
  · simp [h1]
  · by_cases h2 : y.1 < x.1 <;> simp [h1, h2]
theorem swoI : SWO (ltOf cmpI) where
  irrefl x := by rw [ltI]; simp
  trans x y z h1 h2 := by rw [ltI] at *; simp at *; omega
  ntrans x y z h1 h2 := by rw [ltI] at *; simp at *; omega
theorem sort_below (B : Nat) (w : World) (blk n : Nat) (d : Array Item) (os : Array Obj) (h : B ≤ blk) (hb : blk < w.heap.size) : Go.RowKit.Below B w (sortWorldK encI 2 w blk 0 n d os) := by
  refine ⟨rfl, rfl, rfl, ?_, fun k hk => ?_⟩
  · exact size_sortWorldK_c encI 2 w blk 0 n d os
  · have hne : blk ≠ k := by omega
    have hk2 : k < w.heap.size := by omega
    show (w.heap.modify blk (onCells (putCells id 0 (flatK encI 2 d))) ++ os)[k]? = w.heap[k]?
    rw [Array.getElem?_append_left (by simpa using hk2), Array.getElem?_modify, if_neg hne]
theorem holds_items {w : World} {g : Nat} {l : List Item} (hr : ∀ j u, (itemsC l)[j]? = some u → w.cell? ⟨g, j, none⟩ = some u) (hf : ∀ j, w.frozen? ⟨g, j, none⟩ = false) : HoldsK encI 2 w g 0 l.toArray := by
  intro j hj
  rw [size_flatK] at hj
  simp only [List.size_toArray] at hj
  refine ⟨?_, hf _⟩
  rw [Nat.zero_add, get_flatK _ _ _ _ (by simpa using hj)]
  have hi : j / 2 < l.length := by omega
  have hat := itemsC_at l (j / 2) hi
  have e : l.toArray[j / 2]! = itemAt l (j / 2) := by rw [itemAt_get hi]; simp [hi]
  rw [e]
  rcases Nat.mod_two_eq_zero_or_one j with h | h
  · rw [h]
    have e0 : j / 2 * 2 = j := by omega
    rw [e0] at hat
    exact hr j _ hat.1
  · rw [h]
    have e0 : j / 2 * 2 + 1 = j := by omega
    rw [e0] at hat
    exact hr j _ hat.2
theorem items_holds {w : World} {g : Nat} {d : Array Item} (h : HoldsK encI 2 w g 0 d) : Tlvs w (some ⟨g, 0, none⟩) d.toList := by
  intro i hi
  have hi' : i < d.size := by simpa using hi
  refine ⟨_, rfl, ?_⟩
  have h0 := (h.cell hi' (c := 0) (by omega)).1
  have h1 := (h.cell hi' (c := 1) (by omega)).1
  have e : d[i]! = itemAt d.toList i := by rw [itemAt_get hi, getElem!_pos d i hi']; simp
  rw [e] at h0 h1
  rw [show (⟨g, 0, none⟩ : Addr).add (i * 2) = ⟨g, i * 2, none⟩ from by rw [Addr.add_lit, Nat.zero_add]]
  rw [Nat.zero_add] at h0 h1
  exact ⟨h0, h1⟩
theorem sorted_list {d : Array Item} (h : SortedIn (ltOf cmpI) 0 d.size d) : d.toList.Pairwise fun x y => ¬ y.1 < x.1 := by
  rw [List.pairwise_iff_getElem]
  intro i j hi hj hij
  have := h i j (Nat.zero_le _) hij (by simpa using hj)
  rw [ltI] at this
  simp at hi hj
  rw [getElem!_pos d i hi, getElem!_pos d j hj] at this
  simpa using this
theorem perm_list {d d' : Array Item} (h : PermIn 0 d.size d d') : d'.toList.Perm d.toList := by
  obtain ⟨h1, _, h3⟩ := h
  rw [show d'.extract 0 d.size = d' by rw [← h1]; simp, show d.extract 0 d.size = d by simp] at h3
  exact h3

end Go.Proofs.YtnbllngljgmebaaDoor
