/-
  The first of some places at which something is wrong. (Plain functions.)
-/
namespace Go.Proofs.YtnbllngljgmebaaDoor

def xfst (n : Nat) (E : Nat → Int) : Option Nat := (List.range n).find? (fun i => decide (E i ≠ 0))
theorem xfst_hit {n k : Nat} {E : Nat → Int} (hk : k < n) (hno : ∀ j, j < k → E j = 0) (he : E k ≠ 0) : xfst n E = some k := by
  unfold xfst
  rw [List.find?_range_eq_some]
  exact ⟨by simpa using he, by simpa using hk, fun j hj => by simp [hno j hj]⟩
theorem xfst_none {n : Nat} {E : Nat → Int} (h : ∀ j, j < n → E j = 0) : xfst n E = none := by
  unfold xfst
  rw [List.find?_eq_none]
  intro j hj
  simp [h j (by simpa using hj)]
theorem xfst_zero {n : Nat} {E : Nat → Int} (h : xfst n E = none) : ∀ j, j < n → E j = 0 := by
  unfold xfst at h
  rw [List.find?_eq_none] at h
  exact fun j hj => by simpa using h j (by simpa using hj)
theorem xfst_some {n k : Nat} {E : Nat → Int} (h : xfst n E = some k) : k < n ∧ E k ≠ 0 := by
  unfold xfst at h
  rw [List.find?_range_eq_some] at h
  exact ⟨by simpa using h.2.1, by simpa using h.1⟩

end Go.Proofs.YtnbllngljgmebaaDoor
