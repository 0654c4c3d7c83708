/-
  What follows of sides: the answer is valid and doesn't ask; its fields are what is echoed, and 39. (Plain functions.)
-/
import Derived.Test.YtnbllngljgmebaaDoorRejMath
namespace Go.Proofs.YtnbllngljgmebaaDoor

section
variable {st v : Int} {sl : List Sp} {E : List Int} {C : List Item} {m : ByteArray} {l : List Item}

theorem echo_in (h : (rejN st v sl E C).1 = 0) {i : Nat} (hi : i < E.length) : (fndP (E.getD i 0) sl).2 = true ∧ E.getD i 0 ≠ 39 := by
  obtain ⟨_, _, h3, _, _⟩ := rej_zero h
  have := h3 i hi
  unfold rjE at this
  by_cases h1 : (fndP (E.getD i 0) sl).2 = false
  · rw [if_pos h1] at this; cases this
  · rw [if_neg h1] at this
    by_cases h2 : E.getD i 0 = 39
    · rw [if_pos h2] at this; cases this
    · exact ⟨by simpa using h1, h2⟩
theorem echo_39 (h : (rejN st v sl E C).1 = 0) : (39 : Int) ∉ E := by
  intro hm
  obtain ⟨i, hi, he⟩ := List.getElem_of_mem hm
  exact (echo_in h hi).2 (by rw [show E.getD i 0 = E[i] by simp [hi], he])
theorem code_in (h : (rejN st v sl E C).1 = 0) : ∀ x ∈ C, spvS (fndP 39 sl).1 x.2 = 0 := by
  obtain ⟨_, _, _, h4, _⟩ := rej_zero h
  intro x hx
  obtain ⟨i, hi, rfl⟩ := List.getElem_of_mem hx
  have := h4 i hi
  unfold rjC at this
  by_cases h1 : (itemAt C i).1 < 0 ∨ 16 < (itemAt C i).1
  · rw [if_pos h1] at this; cases this
  · rw [if_neg h1] at this
    by_cases h2 : findB (C.take i) (itemAt C i).1 = true
    · rw [if_pos h2] at this; cases this
    · rw [if_neg h2, itemAt_get hi] at this; exact this
theorem code_ok (h : (rejN st v sl E C).1 = 0) (e : Int) : okV sl (39, codeS C e) := by
  obtain ⟨_, h2, _, _, h5⟩ := rej_zero h
  refine ⟨h2, ?_⟩
  unfold codeS
  by_cases he : findB C e = true
  · rw [if_pos he]; exact code_in h (e, findS C e) (find_mem he)
  · rw [if_neg he]; exact code_in h (0, findS C 0) (find_mem h5)
/-- P23.3: the answer to what is valid is valid, -/
theorem ans_valid (h : (rejN st v sl E C).1 = 0) (hl : ∀ x ∈ l, okV sl x) (hm : msgN st v sl m [] = (0, 0)) (e : Int) : msgN st v sl m (ansL E C e l) = (0, 0) := by
  have hech : ∀ k, k ≤ E.length → msgN st v sl m (echoL (E.take k) l) = (0, 0) := by
    intro k
    induction k with
    | zero => intro _; exact hm
    | succ k ih =>
      intro hk
      rw [echo_step (by omega)]
      by_cases hf : findB l (E.getD k 0) = true
      · rw [if_pos hf, valid_with (ih (by omega))]
        exact valid_one hm (hl _ (find_mem hf))
      · rw [if_neg hf]; exact ih (by omega)
  unfold ansL
  rw [valid_with (by rw [← echo_all]; exact hech E.length (Nat.le_refl _))]
  exact valid_one hm (code_ok h e)
/-- and doesn't ask. -/
theorem resp_valid (hm : mtiV m v = true) (ha : askB m.data.toList = true) : mtiV (respM m) v = true ∧ askB (respM m).data.toList = false := by
  obtain ⟨a, b, c, d, rfl, h1, h2, h3, h4⟩ := ask_of ha
  have hr : respM (T4 a b c d) = T4 a b (c + 1) d := rfl
  have hc : isD (c + 1) = true := by rcases h3 with rfl | rfl <;> decide
  have hmt : mtiB (T4 a b (c + 1) d).data.toList = true := by rw [mti_T4, h1, h2, hc, h4]; rfl
  rw [hr, mtiV_T4 hmt]
  have hm0 : mtiB (T4 a b c d).data.toList = true := ask_mti ha
  rw [mtiV_T4 hm0] at hm
  refine ⟨hm, ?_⟩
  rw [ask_T4]
  have : (c + 1 == 48 || c + 1 == 50) = false := by rcases h3 with rfl | rfl <;> decide
  rw [this, Bool.and_false]
theorem rej_valid (h : (rejN st v sl E C).1 = 0) (hm : msgN st v sl m l = (0, 0)) (ha : askB m.data.toList = true) (e : Int) : msgN st v sl (respM m) (ansL E C e l) = (0, 0) ∧ askB (respM m).data.toList = false := by
  obtain ⟨h1, h2, h3⟩ := valid_in hm
  obtain ⟨r1, r2⟩ := resp_valid h2 ha
  exact ⟨ans_valid h (fits_in h3) (by rw [msgN_list h1 r1]; rfl) e, r2⟩

theorem echo_find (l : List Item) (no : Int) : ∀ k, k ≤ E.length → findB (echoL (E.take k) l) no = (findB l no && decide (no ∈ E.take k)) ∧ (findB (echoL (E.take k) l) no = true → findS (echoL (E.take k) l) no = findS l no)
  | 0, _ => by simp [echoL, findB]
  | k + 1, hk => by
    obtain ⟨i1, i2⟩ := echo_find l no k (by omega)
    have hkl : k < E.length := by omega
    have ht : E.take (k + 1) = E.take k ++ [E.getD k 0] := by rw [List.take_succ_eq_append_getElem hkl, show E.getD k 0 = E[k] by simp [hkl]]
    rw [echo_step hkl, ht]
    generalize E.getD k 0 = g at *
    have hmem : (no ∈ E.take k ++ [g]) ↔ (no ∈ E.take k ∨ no = g) := by simp
    rw [show decide (no ∈ E.take k ++ [g]) = (decide (no ∈ E.take k) || decide (no = g)) by rw [Bool.eq_iff_iff]; simp]
    by_cases hf : findB l g = true
    · rw [if_pos hf]
      by_cases e : no = g
      · subst e
        obtain ⟨w1, w2⟩ := with_find no (findS l no) (echoL (E.take k) l)
        rw [w1, w2, hf]
        simp
      · obtain ⟨w1, w2⟩ := wfind_other e (findS l g) (echoL (E.take k) l)
        rw [w1, w2, decide_eq_false e, Bool.or_false]
        exact ⟨i1, i2⟩
    · rw [if_neg hf]
      refine ⟨?_, i2⟩
      rw [i1]
      by_cases e : no = g
      · subst e
        have : findB l no = false := by simpa using hf
        rw [this]; rfl
      · rw [decide_eq_false e, Bool.or_false]
/-- P23.3: a field of the answer. -/
theorem ans_find (h : (rejN st v sl E C).1 = 0) (l : List Item) (e no : Int) :
    (no = 39 → findB (ansL E C e l) no = true ∧ findS (ansL E C e l) no = codeS C e) ∧
    (no ≠ 39 → findB (ansL E C e l) no = (findB l no && decide (no ∈ E)) ∧ (findB (ansL E C e l) no = true → findS (ansL E C e l) no = findS l no)) := by
  have _ := echo_39 h
  constructor
  · rintro rfl
    obtain ⟨w1, w2⟩ := with_find 39 (codeS C e) (echoL E l)
    exact ⟨w2, w1⟩
  · intro hne
    obtain ⟨w1, w2⟩ := wfind_other hne (codeS C e) (echoL E l)
    obtain ⟨i1, i2⟩ := echo_find (E := E) l no E.length (Nat.le_refl _)
    rw [List.take_length] at i1 i2
    unfold ansL
    rw [w1, w2]
    exact ⟨i1, i2⟩
end

end Go.Proofs.YtnbllngljgmebaaDoor
