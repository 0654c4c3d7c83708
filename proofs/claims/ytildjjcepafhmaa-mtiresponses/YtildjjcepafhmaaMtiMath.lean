/-
  Plain facts on texts of four digits; nothing of the program.
-/
import Derived.Test.YtildjjcepafhmaaDigGet
import Derived.Test.YtildjjcepafhmaaStrs
namespace Go.Proofs.Ytildjjcepafhmaa
open Go.RowKit

/-- A text of four bytes. -/
def T4 (a b c d : UInt8) : ByteArray := ⟨#[a, b, c, d]⟩
theorem T4_list (a b c d : UInt8) : (T4 a b c d).data.toList = [a, b, c, d] := rfl
theorem T4_size (a b c d : UInt8) : (T4 a b c d).size = 4 := rfl
theorem T4_of (s : ByteArray) (h : s.size = 4) : ∃ a b c d, s = T4 a b c d := by
  obtain ⟨⟨l⟩⟩ := s
  have hl : l.length = 4 := h
  match l, hl with
  | [a, b, c, d], _ => exact ⟨a, b, c, d, rfl⟩
theorem T4_inj {a b c d a' b' c' d' : UInt8} (h : T4 a b c d = T4 a' b' c' d') : a = a' ∧ b = b' ∧ c = c' ∧ d = d' := by
  have h := congrArg (fun s : ByteArray => s.data.toList) h
  simpa [T4] using h

def mtiB (l : List UInt8) : Bool := decide (l.length = 4) && allD l
def askB (l : List UInt8) : Bool := mtiB l && (l[2]? == some 48 || l[2]? == some 50)

theorem mti_far {s : ByteArray} (h : s.size ≠ 4) : mtiB s.data.toList = false := by
  have hl : s.data.toList.length ≠ 4 := by
    rw [show s.data.toList.length = s.size from by simp]
    exact h
  simp only [mtiB, decide_eq_false hl, Bool.false_and]
theorem mti_four {s : ByteArray} (h : s.size = 4) : mtiB s.data.toList = allD s.data.toList := by
  have hl : s.data.toList.length = 4 := by
    rw [show s.data.toList.length = s.size from by simp]
    exact h
  simp only [mtiB, decide_eq_true hl, Bool.true_and]
theorem mti_size {s : ByteArray} (h : mtiB s.data.toList = true) : s.size = 4 := by
  by_cases g : s.size = 4
  · exact g
  · rw [mti_far g] at h; cases h
theorem mti_all {s : ByteArray} (h : mtiB s.data.toList = true) : allD s.data.toList = true := by
  rw [← mti_four (mti_size h)]; exact h
theorem mti_T4 (a b c d : UInt8) : mtiB (T4 a b c d).data.toList = (isD a && (isD b && (isD c && isD d))) := by
  simp [mtiB, T4, allD]
theorem ask_T4 (a b c d : UInt8) : askB (T4 a b c d).data.toList = ((isD a && (isD b && (isD c && isD d))) && (c == 48 || c == 50)) := by
  rw [askB, mti_T4]
  simp [T4]
theorem mti_of {s : ByteArray} (h : mtiB s.data.toList = true) : ∃ a b c d, s = T4 a b c d ∧ isD a = true ∧ isD b = true ∧ isD c = true ∧ isD d = true := by
  obtain ⟨a, b, c, d, rfl⟩ := T4_of s (mti_size h)
  rw [mti_T4] at h
  simp only [Bool.and_eq_true] at h
  exact ⟨a, b, c, d, rfl, h⟩
theorem ask_mti {l : List UInt8} (h : askB l = true) : mtiB l = true := by
  unfold askB at h
  simp only [Bool.and_eq_true] at h
  exact h.1
theorem ask_none {l : List UInt8} (h : mtiB l = false) : askB l = false := by simp [askB, h]
theorem ask_of {s : ByteArray} (h : askB s.data.toList = true) : ∃ a b c d, s = T4 a b c d ∧ isD a = true ∧ isD b = true ∧ (c = 48 ∨ c = 50) ∧ isD d = true := by
  obtain ⟨a, b, c, d, rfl, ha, hb, hc, hd⟩ := mti_of (ask_mti h)
  rw [ask_T4, ha, hb, hc, hd] at h
  simp at h
  exact ⟨a, b, c, d, rfl, ha, hb, h, hd⟩

theorem num_T4 {a b c d : UInt8} (ha : isD a = true) (hb : isD b = true) (hc : isD c = true) (hd : isD d = true) :
    numL [a, b, c, d] = 1000 * (a.toNat - 48) + 100 * (b.toNat - 48) + 10 * (c.toNat - 48) + (d.toNat - 48) ∧ numL [a, b, c, d] / 10 % 10 = c.toNat - 48 ∧ numL [a, b, c, d] < 10000 := by
  rw [isD_iff] at ha hb hc hd
  have e : numL [a, b, c, d] = 1000 * (a.toNat - 48) + 100 * (b.toNat - 48) + 10 * (c.toNat - 48) + (d.toNat - 48) := by
    simp only [numL, List.foldl]
    omega
  refine ⟨e, ?_, ?_⟩
  · rw [e]; omega
  · rw [e]; omega
/-- The answer's number is ten more. -/
theorem num_next {a b c d : UInt8} (ha : isD a = true) (hb : isD b = true) (hc : c = 48 ∨ c = 50) (hd : isD d = true) : numL [a, b, c, d] + 10 = numL [a, b, c + 1, d] ∧ isD (c + 1) = true ∧ isD c = true := by
  have h1 : isD (c + 1) = true ∧ isD c = true ∧ (c + 1).toNat = c.toNat + 1 ∧ 48 ≤ c.toNat := by
    rcases hc with rfl | rfl <;> decide +kernel
  obtain ⟨h1, h0, h2, h3⟩ := h1
  rw [(num_T4 ha hb h0 hd).1, (num_T4 ha hb h1 hd).1]
  refine ⟨by omega, h1, h0⟩
theorem put_next {a b c d : UInt8} (ha : isD a = true) (hb : isD b = true) (hc : c = 48 ∨ c = 50) (hd : isD d = true) :
    putB ((numL [a, b, c, d] : Int) + 10) 4 = true ∧ putS ((numL [a, b, c, d] : Int) + 10) 4 = T4 a b (c + 1) d := by
  obtain ⟨e, h1, _⟩ := num_next ha hb hc hd
  have h2 := (num_T4 ha hb h1 hd).2.2
  rw [show ((numL [a, b, c, d] : Int) + 10) = ((numL [a, b, c + 1, d] : Nat) : Int) from by omega]
  have hp : putB ((numL [a, b, c + 1, d] : Nat) : Int) 4 = true := putB_mk (by omega) (by omega) (by omega) (by
    rw [Int.toNat_natCast]
    exact Nat.div_eq_of_lt h2)
  refine ⟨hp, ?_⟩
  rw [putS_yes hp]
  have h3 := putL_numL [a, b, c + 1, d] (by simp [allD, ha, hb, h1, hd])
  rw [Int.toNat_natCast]
  exact congrArg (fun l : List UInt8 => (⟨l.toArray⟩ : ByteArray)) h3
/-- One digit. -/
theorem put_one {n : Nat} (h : n < 10) : putB (n : Int) 1 = true ∧ putS (n : Int) 1 = ⟨#[dg n]⟩ ∧ isD (dg n) = true ∧ (dg n).toNat - 48 = n := by
  have hp : putB (n : Int) 1 = true := putB_mk (by omega) (by omega) (by omega) (by
    rw [Int.toNat_natCast]
    exact Nat.div_eq_of_lt h)
  refine ⟨hp, ?_, isD_dg n, ?_⟩
  · rw [putS_yes hp]; rfl
  · rw [dg_toNat]; omega
theorem put_other {n : Int} (h : n < 0 ∨ 9 < n) : putB n 1 = false := by
  rcases h with h | h
  · exact putB_no (Or.inl h)
  · refine putB_no (Or.inr (Or.inr (Or.inr ⟨by omega, ?_⟩)))
    show 0 < n.toNat / 10
    omega
theorem get_first (a : UInt8) : numL [a] = a.toNat - 48 := by simp [numL]
theorem T4_head (a b c d : UInt8) : (T4 a b c d).extract 0 1 = ⟨#[a]⟩ := rfl
theorem T4_tail (a b c d e : UInt8) : (⟨#[e]⟩ : ByteArray) ++ (T4 a b c d).extract 1 4 = T4 e b c d := rfl
theorem T4_mid (a b c d e : UInt8) : ((T4 a b c d).extract 0 2 ++ (⟨#[e]⟩ : ByteArray)) ++ (T4 a b c d).extract 3 4 = T4 a b e d := rfl

end Go.Proofs.Ytildjjcepafhmaa
