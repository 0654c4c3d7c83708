/-
  What Right and the document's Right answer: for every number, in every world.
-/
import Derived.Test.YtmobillfeldcjaaDoorTagSmall
namespace Go.Proofs.YtmobillfeldcjaaDoor
open Go.RowKit

/-- The number is a tag. -/
def tagB (n : Int) : Bool := decide (0 ≤ n) && (decide (tone n.toNat) || decide (ttwo n.toNat))
theorem tagB_far {n : Int} (h : n < 0 ∨ 65535 < n) : tagB n = false := by
  unfold tagB
  rw [Bool.and_eq_false_iff]
  by_cases h0 : 0 ≤ n
  · right
    rw [Bool.or_eq_false_iff]
    refine ⟨decide_eq_false fun g => ?_, decide_eq_false fun g => ?_⟩
    · have := g.1; omega
    · have := g.2.1; omega
  · left; exact decide_eq_false h0
theorem tagB_nat (n : Nat) : tagB (n : Int) = true ↔ tone n ∨ ttwo n := by
  unfold tagB
  simp
theorem tagB_low {n : Nat} (h : n < 256) : tagB (n : Int) = decide (tfirst n = 1) := by
  rw [Bool.eq_iff_iff, tagB_nat, decide_eq_true_eq]
  constructor
  · rintro (g | g)
    · exact g.2
    · have := g.1; omega
  · intro g; exact Or.inl ⟨h, g⟩
theorem tagB_high {a b : Nat} (ha : a < 256) (hb : b < 256) (h : 1 ≤ a) : tagB ((256 * a + b : Nat) : Int) = (decide (tfirst a = 2) && decide (tends b)) := by
  have d1 : (256 * a + b) / 256 = a := by omega
  have d2 : (256 * a + b) % 256 = b := by omega
  rw [Bool.eq_iff_iff, tagB_nat, Bool.and_eq_true, decide_eq_true_eq, decide_eq_true_eq]
  constructor
  · rintro (g | g)
    · have := g.1; omega
    · have g1 := g.2.2.1
      have g2 := g.2.2.2
      rw [d1] at g1
      rw [d2] at g2
      exact ⟨g1, g2⟩
  · rintro ⟨g1, g2⟩
    exact Or.inr ⟨by omega, by omega, by rw [d1]; exact g1, by rw [d2]; exact g2⟩


end Go.Proofs.YtmobillfeldcjaaDoor
