/-
  Sides: what is wrong with one, the text of an error, the answer. (Plain functions.)
-/
import Derived.Test.YtnbllngljgmebaaDoorPackMsg
import Derived.Test.YtnbllngljgmebaaDoorFst
namespace Go.Proofs.YtnbllngljgmebaaDoor

/-- What is wrong with a number that is echoed; with a code. -/
def rjE (sl : List Sp) (E : List Int) (i : Nat) : Int := if (fndP (E.getD i 0) sl).2 = false then 9 else if E.getD i 0 = 39 then 1 else if E.getD i 0 ∈ E.take i then 10 else 0
def rjC (sl : List Sp) (C : List Item) (i : Nat) : Int := if (itemAt C i).1 < 0 ∨ 16 < (itemAt C i).1 then 1 else if findB (C.take i) (itemAt C i).1 = true then 10 else spvS (fndP 39 sl).1 (itemAt C i).2
/-- What is wrong with a side: the error, the part, the place. -/
def rejN (st v : Int) (sl : List Sp) (E : List Int) (C : List Item) : Int × Int × Int :=
  if (schN st v sl).1 ≠ 0 then (1, 1, 0) else if (fndP 39 sl).2 = false then (9, 1, 1) else
  match xfst E.length (rjE sl E) with
  | some i => (rjE sl E i, 2, (i : Int))
  | none =>
    match xfst C.length (rjC sl C) with
    | some i => (rjC sl C i, 3, (i : Int))
    | none => if findB C 0 = false then (15, 3, (C.length : Int)) else (0, 0, 0)
/-- The text of an error. -/
def codeS (C : List Item) (e : Int) : ByteArray := if findB C e = true then findS C e else findS C 0
/-- What is echoed; the answer's fields; its MTI. -/
def echoL (E : List Int) (l : List Item) : List Item := E.foldl (fun out no => if findB l no = true then withL no (findS l no) out else out) []
def ansL (E : List Int) (C : List Item) (e : Int) (l : List Item) : List Item := withL 39 (codeS C e) (echoL E l)
def respM (m : ByteArray) : ByteArray := match m.data.toList with | [a, b, c, d] => T4 a b (c + 1) d | _ => ⟨#[]⟩

section
variable {st v : Int} {sl : List Sp} {E : List Int} {C : List Item}
theorem rej_sch (h : (schN st v sl).1 ≠ 0) : rejN st v sl E C = (1, 1, 0) := by unfold rejN; rw [if_pos h]
theorem rej_39 (h : (schN st v sl).1 = 0) (h2 : (fndP 39 sl).2 = false) : rejN st v sl E C = (9, 1, 1) := by unfold rejN; rw [if_neg (by simp [h]), if_pos h2]
theorem rej_echo {i : Nat} (h : (schN st v sl).1 = 0) (h2 : (fndP 39 sl).2 = true) (hi : i < E.length) (hno : ∀ j, j < i → rjE sl E j = 0) (he : rjE sl E i ≠ 0) : rejN st v sl E C = (rjE sl E i, 2, (i : Int)) := by
  unfold rejN; rw [if_neg (by simp [h]), if_neg (by simp [h2]), xfst_hit hi hno he]
theorem rej_code {i : Nat} (h : (schN st v sl).1 = 0) (h2 : (fndP 39 sl).2 = true) (h3 : ∀ j, j < E.length → rjE sl E j = 0) (hi : i < C.length) (hno : ∀ j, j < i → rjC sl C j = 0) (he : rjC sl C i ≠ 0) : rejN st v sl E C = (rjC sl C i, 3, (i : Int)) := by
  unfold rejN; rw [if_neg (by simp [h]), if_neg (by simp [h2]), xfst_none h3]; simp only; rw [xfst_hit hi hno he]
theorem rej_table (h : (schN st v sl).1 = 0) (h2 : (fndP 39 sl).2 = true) (h3 : ∀ j, j < E.length → rjE sl E j = 0) (h4 : ∀ j, j < C.length → rjC sl C j = 0) (h5 : findB C 0 = false) : rejN st v sl E C = (15, 3, (C.length : Int)) := by
  unfold rejN; rw [if_neg (by simp [h]), if_neg (by simp [h2]), xfst_none h3]; simp only; rw [xfst_none h4]; simp only; rw [if_pos h5]
theorem rej_ok (h : (schN st v sl).1 = 0) (h2 : (fndP 39 sl).2 = true) (h3 : ∀ j, j < E.length → rjE sl E j = 0) (h4 : ∀ j, j < C.length → rjC sl C j = 0) (h5 : findB C 0 = true) : rejN st v sl E C = (0, 0, 0) := by
  unfold rejN; rw [if_neg (by simp [h]), if_neg (by simp [h2]), xfst_none h3]; simp only; rw [xfst_none h4]; simp only; rw [if_neg (by simp [h5])]
theorem rej_zero (h : (rejN st v sl E C).1 = 0) : (schN st v sl).1 = 0 ∧ (fndP 39 sl).2 = true ∧ (∀ j, j < E.length → rjE sl E j = 0) ∧ (∀ j, j < C.length → rjC sl C j = 0) ∧ findB C 0 = true := by
  by_cases h1 : (schN st v sl).1 = 0
  · cases h2 : (fndP 39 sl).2
    · rw [rej_39 h1 h2] at h; cases h
    · cases h3 : xfst E.length (rjE sl E) with
      | some i =>
        have := xfst_some h3
        unfold rejN at h
        rw [if_neg (by simp [h1]), if_neg (by simp [h2]), h3] at h
        exact absurd h this.2
      | none =>
        have h3' := xfst_zero h3
        cases h4 : xfst C.length (rjC sl C) with
        | some i =>
          have := xfst_some h4
          unfold rejN at h
          rw [if_neg (by simp [h1]), if_neg (by simp [h2]), h3] at h
          simp only at h
          rw [h4] at h
          exact absurd h this.2
        | none =>
          have h4' := xfst_zero h4
          cases h5 : findB C 0
          · rw [rej_table h1 h2 h3' h4' h5] at h; cases h
          · exact ⟨h1, rfl, h3', h4', rfl⟩
  · rw [rej_sch h1] at h; cases h

theorem echo_step {i : Nat} (hi : i < E.length) (l : List Item) : echoL (E.take (i + 1)) l = if findB l (E.getD i 0) = true then withL (E.getD i 0) (findS l (E.getD i 0)) (echoL (E.take i) l) else echoL (E.take i) l := by
  unfold echoL
  rw [List.take_succ_eq_append_getElem hi, List.foldl_append, show E.getD i 0 = E[i] by simp [hi]]
  rfl
theorem echo_len (l : List Item) : ∀ (k : Nat), k ≤ E.length → (echoL (E.take k) l).length ≤ k
  | 0, _ => by simp [echoL]
  | k + 1, hk => by
    have ih := echo_len l k (by omega)
    rw [echo_step (by omega)]
    by_cases h : findB l (E.getD k 0) = true
    · rw [if_pos h]; have := with_length (E.getD k 0) (findS l (E.getD k 0)) (echoL (E.take k) l); omega
    · rw [if_neg h]; omega
end
theorem echo_all (E : List Int) (l : List Item) : echoL (E.take E.length) l = echoL E l := by rw [List.take_length]

end Go.Proofs.YtnbllngljgmebaaDoor
