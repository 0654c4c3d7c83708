/-
  How many fields an answer has. (Plain functions.)
-/
import Derived.Test.YtnbllngljgmebaaDoorRejPure
namespace Go.Proofs.YtnbllngljgmebaaDoor

theorem with_new {no : Int} {t : ByteArray} {l : List Item} (h : findB l no = false) : (withL no t l).length = l.length + 1 := by
  have ho : outL no l = l := by
    unfold outL
    rw [List.filter_eq_self]
    intro x hx
    unfold findB at h
    rw [List.any_eq_false] at h
    simpa using h x hx
  unfold withL
  rw [ho, ins_length]
theorem echo_new {st v : Int} {sl : List Sp} {E : List Int} {C : List Item} (h : (rejN st v sl E C).1 = 0) {i : Nat} (hi : i < E.length) : E.getD i 0 ∉ E.take i := by
  obtain ⟨_, _, h3, _, _⟩ := rej_zero h
  have := h3 i hi
  unfold rjE at this
  by_cases h1 : (fndP (E.getD i 0) sl).2 = false
  · rw [if_pos h1] at this; cases this
  · rw [if_neg h1] at this
    by_cases h2 : E.getD i 0 = 39
    · rw [if_pos h2] at this; cases this
    · rw [if_neg h2] at this
      intro hm
      rw [if_pos hm] at this; cases this
theorem echo_count {st v : Int} {sl : List Sp} {E : List Int} {C : List Item} (h : (rejN st v sl E C).1 = 0) (l : List Item) : ∀ k, k ≤ E.length → (echoL (E.take k) l).length = (E.take k).countP (findB l)
  | 0, _ => rfl
  | k + 1, hk => by
    have hkl : k < E.length := by omega
    have ih := echo_count h l k (by omega)
    have ht : E.take (k + 1) = E.take k ++ [E.getD k 0] := by rw [List.take_succ_eq_append_getElem hkl, show E.getD k 0 = E[k] by simp [hkl]]
    have hn := echo_new h hkl
    rw [echo_step hkl, ht, List.countP_append, ← ih]
    by_cases hf : findB l (E.getD k 0) = true
    · rw [if_pos hf, with_new (by rw [(echo_find l (E.getD k 0) k (by omega)).1, decide_eq_false hn, Bool.and_false]), List.countP_cons, List.countP_nil, if_pos hf]
    · rw [if_neg hf, List.countP_cons, List.countP_nil, if_neg hf]; rfl
/-- As many as are echoed, and 39. -/
theorem ans_count {st v : Int} {sl : List Sp} {E : List Int} {C : List Item} (h : (rejN st v sl E C).1 = 0) (l : List Item) (e : Int) : (ansL E C e l).length = E.countP (findB l) + 1 := by
  have h1 := echo_count h l E.length (Nat.le_refl _)
  rw [List.take_length] at h1
  unfold ansL
  rw [with_new, h1]
  obtain ⟨h2, _⟩ := echo_find (E := E) l 39 E.length (Nat.le_refl _)
  rw [List.take_length] at h2
  rw [h2, decide_eq_false (echo_39 h), Bool.and_false]

end Go.Proofs.YtnbllngljgmebaaDoor
