/-
  Lengths ahead of fields: which bytes a length has, and which length stands in bytes; put and got undo each other. (No program is named here.)
-/
import Derived.Test.YtafcdokgjkfikaaDigGet
import Derived.Test.YtafcdokgjkfikaaBcdMath
namespace Go.Proofs.Ytafcdokgjkfikaa

def psz (st f : Nat) : Nat := if st = 2 then f - 1 else f
def pputL (st f n : Nat) : List UInt8 := if st = 2 then packL (putL n f) else putL n f
def pnum (st f : Nat) (t : List UInt8) : Option Nat :=
  if st = 2 then (if (bget t f).2.1 = 0 then some (numL (bget t f).1) else none) else (if allD t = true then some (numL t) else none)
/-- The length, the place behind it, an error. -/
def pget (st f : Nat) (l : List UInt8) (p : Nat) : Nat × Nat × Nat :=
  if l.length < p + psz st f then (0, 0, 2) else
  match pnum st f ((l.drop p).take (psz st f)) with
  | some n => (n, p + psz st f, 0)
  | none => (0, 0, 3)

theorem psz_one (f : Nat) : psz 1 f = f := rfl
theorem psz_two (f : Nat) : psz 2 f = f - 1 := rfl
theorem psz_le {st f : Nat} (hf : f = 2 ∨ f = 3) : 1 ≤ psz st f ∧ psz st f ≤ 3 := by unfold psz; split <;> omega
theorem psz_half {f : Nat} (hf : f = 2 ∨ f = 3) : (f + 1) / 2 = f - 1 := by omega
theorem pputL_length {st f : Nat} (n : Nat) (hf : f = 2 ∨ f = 3) : (pputL st f n).length = psz st f := by
  unfold pputL psz
  split
  · rw [packL_length, putL_length]; omega
  · rw [putL_length]

theorem pget_cut {st f : Nat} {l : List UInt8} {p : Nat} (h : l.length < p + psz st f) : pget st f l p = (0, 0, 2) := by unfold pget; rw [if_pos h]
theorem pget_form {st f : Nat} {l : List UInt8} {p : Nat} (h : p + psz st f ≤ l.length) (h2 : pnum st f ((l.drop p).take (psz st f)) = none) : pget st f l p = (0, 0, 3) := by
  unfold pget; rw [if_neg (by omega), h2]
theorem pget_ok {st f : Nat} {l : List UInt8} {p n : Nat} (h : p + psz st f ≤ l.length) (h2 : pnum st f ((l.drop p).take (psz st f)) = some n) : pget st f l p = (n, p + psz st f, 0) := by
  unfold pget; rw [if_neg (by omega), h2]
theorem pget_err {st f : Nat} {l : List UInt8} {p : Nat} (h : (pget st f l p).2.2 ≠ 0) : (pget st f l p).1 = 0 ∧ (pget st f l p).2.1 = 0 := by
  unfold pget at *
  split at h
  · rw [if_pos (by assumption)]; exact ⟨rfl, rfl⟩
  · rw [if_neg (by assumption)]
    split at h
    · exact absurd rfl h
    · exact ⟨rfl, rfl⟩
theorem pget_zero {st f : Nat} {l : List UInt8} {p : Nat} (h : (pget st f l p).2.2 = 0) : p + psz st f ≤ l.length ∧ (pget st f l p).2.1 = p + psz st f ∧ pnum st f ((l.drop p).take (psz st f)) = some (pget st f l p).1 := by
  unfold pget at *
  split at h
  · exact absurd h (by decide)
  · rw [if_neg (by assumption)]
    split at h
    · rename_i g
      rw [g]
      exact ⟨by omega, rfl, rfl⟩
    · exact absurd h (by decide)

theorem pnum_pputL {st f n : Nat} (hf : f = 2 ∨ f = 3) (hn : n < 10 ^ f) : pnum st f (pputL st f n) = some n := by
  unfold pnum pputL
  split
  · have h := bget_packL (putL_all n f) (by rw [putL_length]; omega) []
    rw [putL_length, List.append_nil] at h
    rw [h]
    simp [numL_putL, Nat.mod_eq_of_lt hn]
  · rw [if_pos (putL_all n f), numL_putL, Nat.mod_eq_of_lt hn]

theorem pputL_pnum {st f n : Nat} {t : List UInt8} (hf : f = 2 ∨ f = 3) (ht : t.length = psz st f) (h : pnum st f t = some n) : n < 10 ^ f ∧ pputL st f n = t := by
  unfold pnum at h
  unfold pputL
  unfold psz at ht
  split at h
  · rename_i h2
    rw [if_pos h2] at *
    split at h
    · rename_i h3
      obtain ⟨m, hm, hm1, hl, g1, g2⟩ := bget_zero h3
      obtain rfl : f = m := by omega
      rw [bget_ok hm1 hl g1 g2] at h
      have ha := bgetL_all g2
      have e : numL (bgetL t f) = n := by simpa using h
      have e1 := putL_numL _ ha
      have e2 := numL_lt _ ha
      rw [bgetL_length, e] at e1 e2
      refine ⟨e2, ?_⟩
      rw [e1, packL_bgetL hl g1, List.take_of_length_le (by omega)]
    · exact absurd h (by simp)
  · rename_i h2
    rw [if_neg h2] at *
    split at h
    · rename_i ha
      have e : numL t = n := by simpa using h
      have e1 := putL_numL _ ha
      have e2 := numL_lt _ ha
      rw [ht, e] at e1 e2
      exact ⟨e2, e1⟩
    · exact absurd h (by simp)

theorem pget_back {st f n : Nat} (a b : List UInt8) (hf : f = 2 ∨ f = 3) (hn : n < 10 ^ f) : pget st f (a ++ pputL st f n ++ b) a.length = (n, a.length + psz st f, 0) := by
  have hl := pputL_length (st := st) n hf
  refine pget_ok (by simp only [List.length_append, hl]; omega) ?_
  rw [List.append_assoc, List.drop_left, ← hl, List.take_left]
  exact pnum_pputL hf hn

theorem pget_one {st f : Nat} {l : List UInt8} (hf : f = 2 ∨ f = 3) (h : (pget st f l 0).2.2 = 0) : (pget st f l 0).1 < 10 ^ f ∧ (pget st f l 0).2.1 = psz st f ∧ psz st f ≤ l.length ∧ pputL st f (pget st f l 0).1 = l.take (psz st f) := by
  obtain ⟨h1, h2, h3⟩ := pget_zero h
  rw [List.drop_zero] at h3
  obtain ⟨g1, g2⟩ := pputL_pnum hf (by rw [List.length_take]; omega) h3
  exact ⟨g1, by omega, by omega, g2⟩

end Go.Proofs.Ytafcdokgjkfikaa
