/-
  What the document's Check of a rule answers: for every rule and schemas of up to 1000 specs, in every world.
-/
import Derived.Test.YthheflgfbdcnlaaDoorRulOf
import Derived.Test.YthheflgfbdcnlaaDoorPackSch
import Derived.Test.YthheflgfbdcnlaaDoorPackSpc
import Derived.Test.YthheflgfbdcnlaaDoorPackBase
namespace Go.Proofs.YthheflgfbdcnlaaDoor
open Go.RowKit

theorem text_some {s : ByteArray} (h : s ≠ ⟨#[]⟩) : s.toList.isEmpty = false := by
  rw [ByteArray.toList_eq]
  cases hd : s.data.toList with
  | nil => exact absurd (by rw [ByteArray.ext_iff]; exact Array.toList_inj.1 (by simpa using hd)) h
  | cons x r => rfl
end Go.Proofs.YthheflgfbdcnlaaDoor
