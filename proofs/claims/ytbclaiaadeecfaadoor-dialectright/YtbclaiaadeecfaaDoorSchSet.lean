/-
  What Set and the document's Numbers answer: for every schema of up to 1000 specs, in every world.
-/
import Derived.Test.YtbclaiaadeecfaaDoorSchOf
import Derived.Test.YtbclaiaadeecfaaDoorFldRef
namespace Go.Proofs.YtbclaiaadeecfaaDoor
open Go.RowKit


def zv (z : Int) : Value := .int .i64 z
theorem take_all {l : List Sp} {k : Nat} (h : l.length ≤ k) : l.take k = l := List.take_of_length_le h
theorem nos_part (l : List Sp) (k : Nat) (h : k ≤ l.length) : (nosOf (l.take k)).length = k := by simp [nosOf]; omega
theorem nos_own {w : World} {base g n c : Nat} {zs : List Int} (h : w.ownsRow base 3 1 (.slice (some ⟨g, 0, none⟩) n c) n (zs.map zv)) (hn : zs.length = n) : Ints w (some ⟨g, 0, none⟩) zs := ints_copy h hn


end Go.Proofs.YtbclaiaadeecfaaDoor
