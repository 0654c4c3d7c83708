/-
  What the document's version, twice and rule answer: in every world.
-/
import Derived.Test.YtbhlennolghjmaaGreatDoorXltOf
import Derived.Test.YtbhlennolghjmaaGreatDoorPackMti
namespace Go.Proofs.YtbhlennolghjmaaGreatDoor
open Go.RowKit

theorem two_told {t t' : Int} (h : t ≠ 0) : (decide (t ≠ 0) && decide (t = t')) = (t == t') := by
  by_cases e : t = t'
  · subst e; simp [h]
  · simp [e]
def ruJ (no : Int) (R : List Ru) : Int := match ruI no R with | some i => (i : Int) | none => -1
theorem ruJ_hit {no : Int} {R : List Ru} {k : Nat} (hk : k < R.length) (hno : ∀ j, j < k → (ruAt R j).2.1 ≠ no) (he : (ruAt R k).2.1 = no) : ruJ no R = (k : Int) := by unfold ruJ; rw [ruI_hit hk hno he]
theorem ruJ_none {no : Int} {R : List Ru} (h : ∀ j, j < R.length → (ruAt R j).2.1 ≠ no) : ruJ no R = -1 := by unfold ruJ; rw [ruI_none h]

end Go.Proofs.YtbhlennolghjmaaGreatDoor
