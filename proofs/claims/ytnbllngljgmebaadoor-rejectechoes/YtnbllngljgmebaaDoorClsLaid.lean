/-
  From the row's condition on listed variables to what the walks ask: the table of kinds.
-/
import Derived.Test.YtnbllngljgmebaaDoorPackCls
import Derived.Lib.LaidU8
import Derived.MakeChecks
namespace Go.Proofs.YtnbllngljgmebaaDoor
open Go.RowKit

def kindsL : List Int := [0, 1, 2, 3, 7, 15, 15]
theorem kinds_data : (Rows.laid_groat_class_kindsOf : DataW Unit) = Lib.tabData .i64 kindsL := rfl
theorem kinds_ks : ∀ k, k < 7 → kindsL.getD k 0 = (ks k : Int) := by decide
theorem kinds_of_laid {l : List (String × DataW Unit)} (hp : (l.all fun x => x.2.handleName?.isNone) = true) (hm : ("groat/class.kindsOf", Rows.laid_groat_class_kindsOf) ∈ l) {W : World} (h : laidMetH Tryd.prog l W) : Kinds W := by
  rw [MakeChecks.laidMetH_plain _ _ _ hp] at h
  obtain ⟨g, t, cs, fuel, p, hg, ht, hv, hd⟩ := Lib.laidMet.reads h hm
  have g0 : Tryd.prog.globalNamed "groat/class.kindsOf" = some 0 := by kernel_rfl
  have t0 : (Tryd.prog.globals[0]?).map (·.type) = some 135 := by kernel_rfl
  obtain rfl := Option.some.inj (g0.symm.trans hg)
  obtain rfl := Option.some.inj (t0.symm.trans ht)
  rw [kinds_data] at hd
  have hc := Lib.cells_of_tab Tryd.underlying135 Tryd.underlying3 (by kernel_rfl) (by kernel_rfl) hd
  have hT : Lib.TabIs Tryd.prog W "groat/class.kindsOf" .i64 kindsL := by
    unfold Lib.TabIs
    rw [hv, ← hc]
  intro k hk
  have := hT.cell g0 k hk
  rw [kinds_ks k hk] at this
  exact this

end Go.Proofs.YtnbllngljgmebaaDoor
