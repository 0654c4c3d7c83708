/-
  What is wrong with what is echoed, with the codes: each with its place. (Plain functions.)
-/
import Derived.Test.YtnbllngljgmebaaDoorRejMath
namespace Go.Proofs.YtnbllngljgmebaaDoor

def echoN (sl : List Sp) (E : List Int) : Int × Int := match xfst E.length (rjE sl E) with | some i => (rjE sl E i, (i : Int)) | none => (0, 0)
def codesN (sl : List Sp) (C : List Item) : Int × Int := match xfst C.length (rjC sl C) with | some i => (rjC sl C i, (i : Int)) | none => if findB C 0 = false then (15, (C.length : Int)) else (0, 0)
section
variable {st v : Int} {sl : List Sp} {E : List Int} {C : List Item}
theorem echoN_hit {i : Nat} (hi : i < E.length) (hno : ∀ j, j < i → rjE sl E j = 0) (he : rjE sl E i ≠ 0) : echoN sl E = (rjE sl E i, (i : Int)) := by
  unfold echoN; rw [xfst_hit hi hno he]
theorem echoN_ok (h : ∀ j, j < E.length → rjE sl E j = 0) : echoN sl E = (0, 0) := by
  unfold echoN; rw [xfst_none h]
theorem codesN_hit {i : Nat} (hi : i < C.length) (hno : ∀ j, j < i → rjC sl C j = 0) (he : rjC sl C i ≠ 0) : codesN sl C = (rjC sl C i, (i : Int)) := by
  unfold codesN; rw [xfst_hit hi hno he]
theorem codesN_table (h : ∀ j, j < C.length → rjC sl C j = 0) (h2 : findB C 0 = false) : codesN sl C = (15, (C.length : Int)) := by
  unfold codesN; rw [xfst_none h]; simp only; rw [if_pos h2]
theorem codesN_ok (h : ∀ j, j < C.length → rjC sl C j = 0) (h2 : findB C 0 = true) : codesN sl C = (0, 0) := by
  unfold codesN; rw [xfst_none h]; simp only; rw [if_neg (by simp [h2])]
/-- The side, by these two. -/
theorem rejN_by (h : (schN st v sl).1 = 0) (h2 : (fndP 39 sl).2 = true) : rejN st v sl E C = if (echoN sl E).1 ≠ 0 then ((echoN sl E).1, 2, (echoN sl E).2) else if (codesN sl C).1 ≠ 0 then ((codesN sl C).1, 3, (codesN sl C).2) else (0, 0, 0) := by
  cases h3 : xfst E.length (rjE sl E) with
  | some i =>
    obtain ⟨a1, a2⟩ := xfst_some h3
    have e1 : echoN sl E = (rjE sl E i, (i : Int)) := by unfold echoN; rw [h3]
    unfold rejN
    rw [if_neg (by simp [h]), if_neg (by simp [h2]), h3, e1, if_pos a2]
  | none =>
    have e1 : echoN sl E = (0, 0) := by unfold echoN; rw [h3]
    cases h4 : xfst C.length (rjC sl C) with
    | some i =>
      obtain ⟨a1, a2⟩ := xfst_some h4
      have e2 : codesN sl C = (rjC sl C i, (i : Int)) := by unfold codesN; rw [h4]
      have l : rejN st v sl E C = (rjC sl C i, 3, (i : Int)) := by unfold rejN; rw [if_neg (by simp [h]), if_neg (by simp [h2]), h3]; simp only; rw [h4]
      rw [l, e1, e2, if_neg (by simp), if_pos a2]
    | none =>
      cases h5 : findB C 0
      · rw [rej_table h h2 (xfst_zero h3) (xfst_zero h4) h5, e1, codesN_table (xfst_zero h4) h5, if_neg (by simp), if_pos (by simp)]
      · rw [rej_ok h h2 (xfst_zero h3) (xfst_zero h4) h5, e1, codesN_ok (xfst_zero h4) h5, if_neg (by simp), if_neg (by simp)]
theorem rjE_none {k : Nat} {z : Int} (hz : E.getD k 0 = z) (h : (fndP z sl).2 = false) : rjE sl E k = 9 := by unfold rjE; rw [hz, if_pos h]
theorem rjE_39 {k : Nat} {z : Int} (hz : E.getD k 0 = z) (h : (fndP z sl).2 = true) (h2 : z = 39) : rjE sl E k = 1 := by unfold rjE; rw [hz, if_neg (by simp [h]), if_pos h2]
theorem rjE_twice {k : Nat} {z : Int} (hz : E.getD k 0 = z) (h : (fndP z sl).2 = true) (h2 : z ≠ 39) (h3 : decide (z ∈ E.take k) = true) : rjE sl E k = 10 := by unfold rjE; rw [hz, if_neg (by simp [h]), if_neg h2, if_pos (by simpa using h3)]
theorem rjE_ok {k : Nat} {z : Int} (hz : E.getD k 0 = z) (h : (fndP z sl).2 = true) (h2 : z ≠ 39) (h3 : decide (z ∈ E.take k) = false) : rjE sl E k = 0 := by unfold rjE; rw [hz, if_neg (by simp [h]), if_neg h2, if_neg (by simpa using h3)]
theorem rjC_range {k : Nat} {z : Int} {s : ByteArray} (hx : itemAt C k = (z, s)) (h : z < 0 ∨ 16 < z) : rjC sl C k = 1 := by unfold rjC; rw [hx, if_pos h]
theorem rjC_twice {k : Nat} {z : Int} {s : ByteArray} (hx : itemAt C k = (z, s)) (h : ¬ (z < 0 ∨ 16 < z)) (h2 : findB (C.take k) z = true) : rjC sl C k = 10 := by unfold rjC; rw [hx, if_neg h, if_pos h2]
theorem rjC_value {k : Nat} {z : Int} {s : ByteArray} (hx : itemAt C k = (z, s)) (h : ¬ (z < 0 ∨ 16 < z)) (h2 : findB (C.take k) z = false) : rjC sl C k = spvS (fndP 39 sl).1 s := by unfold rjC; rw [hx, if_neg h, if_neg (by simp [h2])]
end

end Go.Proofs.YtnbllngljgmebaaDoor
