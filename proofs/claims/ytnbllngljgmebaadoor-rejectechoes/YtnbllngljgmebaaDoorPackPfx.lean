/-
  Texts of one family, laid together: PfxTop.
-/
import Derived.Test.YtnbllngljgmebaaDoorRows
import Derived.WalkKit
import Derived.WalkSpells
import Derived.WalkLawsBesides
import Derived.Lib.Hide

/-
  What Most answers: for every form, in every world (for seats that hold Most alone of layer 7; PfxSmall holds it beside the rest).
-/
namespace Go.Proofs.YtnbllngljgmebaaDoor
open Go.RowKit

theorem ptop_two (w : World) : Calls Tryd.prog 82 #[.int .i64 2] w fun e w' => e = .returned (.int .i64 99) ∧ w' = w := by
  go_enter Tryd.func82, Tryd.ntmps82
  go_wp2
  go_ret
  exact ⟨rfl, rfl⟩
theorem ptop_three (w : World) : Calls Tryd.prog 82 #[.int .i64 3] w fun e w' => e = .returned (.int .i64 999) ∧ w' = w := by
  go_enter Tryd.func82, Tryd.ntmps82
  go_wp2
  go_ret
  exact ⟨rfl, rfl⟩

end Go.Proofs.YtnbllngljgmebaaDoor
