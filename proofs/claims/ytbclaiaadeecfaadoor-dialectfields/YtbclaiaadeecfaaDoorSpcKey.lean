/-
  What a schema says of a field, over numbers alone: which specs may stand in a schema.
-/
import Derived.Test.YtbclaiaadeecfaaDoorClsMath
namespace Go.Proofs.YtbclaiaadeecfaaDoor

/-- May these be the least and the greatest length, by the form? -/
def lenB (f lo hi : Int) : Bool := decide (1 ≤ lo) && decide (lo ≤ hi) && decide (hi ≤ 999) && (if f = 1 then lo == hi else if f = 2 then decide (hi ≤ 99) else true)
/-- The error that Check tells. -/
def spk (n c f lo hi : Int) : Int := if n < 2 ∨ 128 < n then 1 else if isC c = false then 6 else if f < 1 ∨ 3 < f then 3 else if lenB f lo hi = false then 5 else if c = 6 ∧ f = 1 then 13 else 0

theorem spk_arg {n c f lo hi : Int} (h : n < 2 ∨ 128 < n) : spk n c f lo hi = 1 := by unfold spk; rw [if_pos h]
theorem spk_class {n c f lo hi : Int} (h : ¬ (n < 2 ∨ 128 < n)) (h1 : isC c = false) : spk n c f lo hi = 6 := by unfold spk; rw [if_neg h, if_pos h1]
theorem spk_form {n c f lo hi : Int} (h : ¬ (n < 2 ∨ 128 < n)) (h1 : isC c = true) (h2 : f < 1 ∨ 3 < f) : spk n c f lo hi = 3 := by unfold spk; rw [if_neg h, if_neg (by simp [h1]), if_pos h2]
theorem spk_range {n c f lo hi : Int} (h : ¬ (n < 2 ∨ 128 < n)) (h1 : isC c = true) (h2 : ¬ (f < 1 ∨ 3 < f)) (h3 : lenB f lo hi = false) : spk n c f lo hi = 5 := by unfold spk; rw [if_neg h, if_neg (by simp [h1]), if_neg h2, if_pos h3]
theorem spk_tag {n c f lo hi : Int} (h : ¬ (n < 2 ∨ 128 < n)) (h1 : isC c = true) (h2 : ¬ (f < 1 ∨ 3 < f)) (h3 : lenB f lo hi = true) (h4 : c = 6 ∧ f = 1) : spk n c f lo hi = 13 := by unfold spk; rw [if_neg h, if_neg (by simp [h1]), if_neg h2, if_neg (by simp [h3]), if_pos h4]
theorem spk_ok {n c f lo hi : Int} (h : ¬ (n < 2 ∨ 128 < n)) (h1 : isC c = true) (h2 : ¬ (f < 1 ∨ 3 < f)) (h3 : lenB f lo hi = true) (h4 : ¬ (c = 6 ∧ f = 1)) : spk n c f lo hi = 0 := by unfold spk; rw [if_neg h, if_neg (by simp [h1]), if_neg h2, if_neg (by simp [h3]), if_neg h4]
theorem lenB_in {f lo hi : Int} (h : lenB f lo hi = true) : 1 ≤ lo ∧ lo ≤ hi ∧ hi ≤ 999 := by
  simp [lenB] at h
  omega
theorem lenB_bad {f lo hi : Int} (h : ¬ (1 ≤ lo ∧ lo ≤ hi ∧ hi ≤ 999)) : lenB f lo hi = false := by
  cases e : lenB f lo hi
  · rfl
  · exact absurd (lenB_in e) h
theorem lenB_one {lo hi : Int} (h : 1 ≤ lo ∧ lo ≤ hi ∧ hi ≤ 999) : lenB 1 lo hi = (lo == hi) := by
  simp [lenB, h.1, h.2.1, h.2.2]
theorem lenB_two {lo hi : Int} (h : 1 ≤ lo ∧ lo ≤ hi ∧ hi ≤ 999) : lenB 2 lo hi = decide (hi ≤ 99) := by
  simp [lenB, h.1, h.2.1, h.2.2]
theorem lenB_three {lo hi : Int} (h : 1 ≤ lo ∧ lo ≤ hi ∧ hi ≤ 999) : lenB 3 lo hi = true := by
  simp [lenB, h.1, h.2.1, h.2.2]
theorem spk_in {n c f lo hi : Int} (h : spk n c f lo hi = 0) : isC c = true ∧ 1 ≤ lo ∧ lo ≤ hi ∧ hi ≤ 999 := by
  unfold spk at h
  split at h
  · omega
  split at h
  · omega
  rename_i h1
  split at h
  · omega
  split at h
  · omega
  rename_i h2
  exact ⟨by simpa using h1, lenB_in (by simpa using h2)⟩

end Go.Proofs.YtbclaiaadeecfaaDoor
