/-
  How long the text is that a rule makes. (Plain functions.)
-/
import Derived.Test.YthheflgfbdcnlaaDoorRulPure
import Derived.Test.YthheflgfbdcnlaaDoorPackCod
namespace Go.Proofs.YthheflgfbdcnlaaDoor
open Go.RowKit

theorem rap_size {k t : Int} {s : ByteArray} {P : List PairT} {b : List Sp} {u : ByteArray} (hf : Fit2 P) (hs : s.size ≤ maxLen) (hu : u.size ≤ maxLen) : (rapN k t s P b u).2.1.size ≤ maxLen := by
  by_cases h0 : k < 1 ∨ 5 < k
  · rw [rap_else h0]; exact Nat.zero_le _
  · rcases kind_cases h0 with rfl | rfl | rfl | rfl | rfl
    · exact hu
    · exact Nat.zero_le _
    · exact hs
    · rw [rap_4]
      split
      · exact Nat.zero_le _
      · split
        · exact Nat.zero_le _
        · rename_i h
          have hp : padB u.data.toList (fndP t b).1.2.2.2.1 = true := by simpa using h
          show (padS u.data.toList (fndP t b).1.2.2.2.1).size ≤ maxLen
          rw [padS_yes hp]
          have := padB_in hp
          show ((padL u.data.toList (fndP t b).1.2.2.2.1).toArray.size) ≤ maxLen
          rw [List.size_toArray, padL_size]
          unfold maxLen
          omega
    · rw [rap_5]
      split
      · exact Nat.zero_le _
      · rename_i h
        have hm := app_mem (l := P) (t := u) (by simpa using h)
        exact (hf _ hm).2

end Go.Proofs.YthheflgfbdcnlaaDoor
