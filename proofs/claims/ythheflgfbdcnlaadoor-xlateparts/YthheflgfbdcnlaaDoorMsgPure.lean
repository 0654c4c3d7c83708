/-
  What follows of messages' lists: values that may be, by rising numbers; with and without a field. (Plain functions.)
-/
import Derived.Test.YthheflgfbdcnlaaDoorMsgMath
namespace Go.Proofs.YthheflgfbdcnlaaDoor

theorem fnd_no (no : Int) : ∀ (l : List Sp), (fndP no l).2 = true → (fndP no l).1.1 = no ∧ (fndP no l).1 ∈ l
  | [], h => by cases h
  | x :: r, h => by
    by_cases hx : x.1 = no
    · rw [fndP_hit hx]; exact ⟨hx, by simp⟩
    · rw [fndP_miss hx] at h ⊢
      have := fnd_no no r h
      exact ⟨this.1, by simp [this.2]⟩
theorem okV_range {st v : Int} {b : List Sp} (hb : (schN st v b).1 = 0) {y : Item} (h : okV b y) : 2 ≤ y.1 ∧ y.1 ≤ 128 := by
  obtain ⟨h1, h2⟩ := fnd_no y.1 b h.1
  have := (right_rise hb).most _ h2
  omega
theorem fits_up {sl : List Sp} : ∀ {l : List Item} {a : Int}, Fits sl a l → (∀ x ∈ l, a < x.1) ∧ l.Pairwise (fun x y => x.1 < y.1)
  | [], _, _ => ⟨fun x hx => by simp at hx, List.Pairwise.nil⟩
  | x :: r, a, h => by
    obtain ⟨h1, h2⟩ := fits_up h.2.2
    refine ⟨fun y hy => ?_, List.pairwise_cons.2 ⟨h1, h2⟩⟩
    rcases List.mem_cons.1 hy with rfl | hy
    · exact h.1
    · have := h1 y hy; have := h.1; omega
theorem fits_in {sl : List Sp} : ∀ {l : List Item} {a : Int}, Fits sl a l → ∀ x ∈ l, okV sl x
  | [], _, _, x, hx => by simp at hx
  | y :: r, a, h, x, hx => by
    rcases List.mem_cons.1 hx with rfl | hx
    · exact h.2.1
    · exact fits_in h.2.2 x hx
/-- A message of one value. -/
theorem valid_one {st v : Int} {sl : List Sp} {m : ByteArray} {x : Item} (h : msgN st v sl m [] = (0, 0)) (hx : okV sl x) : msgN st v sl m [x] = (0, 0) := by
  obtain ⟨h1, h2, _⟩ := valid_in h
  rw [msgN_list h1 h2, msgL_zero]
  have := okV_range h1 hx
  exact ⟨by omega, hx, trivial⟩
theorem find_mem {no : Int} : ∀ {l : List Item}, findB l no = true → (no, findS l no) ∈ l
  | [], h => by simp [findB] at h
  | x :: r, h => by
    rw [findB_cons] at h
    by_cases e : x.1 = no
    · rw [findS_cons, if_pos e, ← e]; simp
    · rw [decide_eq_false e, Bool.false_or] at h
      rw [findS_cons, if_neg e]
      exact List.mem_cons_of_mem _ (find_mem h)
/-- A field of another number stays. -/
theorem find_split (p q : List Item) (y : Item) {no : Int} (hy : y.1 ≠ no) : findS (p ++ y :: q) no = findS (p ++ q) no ∧ findB (p ++ y :: q) no = findB (p ++ q) no := by
  induction p with
  | nil => rw [List.nil_append, List.nil_append, findS_cons, findB_cons, if_neg hy, decide_eq_false hy, Bool.false_or]; exact ⟨rfl, rfl⟩
  | cons x r ih =>
    rw [List.cons_append, List.cons_append, findS_cons, findB_cons, findS_cons, findB_cons, ih.1, ih.2]
    exact ⟨rfl, rfl⟩
theorem find_out {no g : Int} (hne : no ≠ g) : ∀ (l : List Item), findS (outL g l) no = findS l no ∧ findB (outL g l) no = findB l no
  | [] => ⟨rfl, rfl⟩
  | x :: r => by
    have ih := find_out hne r
    by_cases hx : x.1 = g
    · have e : outL g (x :: r) = outL g r := by simp [outL, hx]
      have hxn : x.1 ≠ no := fun k => hne (k.symm.trans hx)
      rw [e, findS_cons, findB_cons, if_neg hxn, decide_eq_false hxn, Bool.false_or]
      exact ih
    · have e : outL g (x :: r) = x :: outL g r := by simp [outL, hx]
      rw [e, findS_cons, findB_cons, findS_cons, findB_cons, ih.1, ih.2]
      exact ⟨rfl, rfl⟩
theorem wfind_other {no g : Int} (hne : no ≠ g) (t : ByteArray) (l : List Item) : findS (withL g t l) no = findS l no ∧ findB (withL g t l) no = findB l no := by
  unfold withL insL
  obtain ⟨h1, h2⟩ := find_split ((outL g l).take (plcL (g, t).1 0 (outL g l))) ((outL g l).drop (plcL (g, t).1 0 (outL g l))) (g, t) (no := no) (fun e => hne e.symm)
  rw [h1, h2, List.take_append_drop]
  exact find_out hne l

end Go.Proofs.YthheflgfbdcnlaaDoor
