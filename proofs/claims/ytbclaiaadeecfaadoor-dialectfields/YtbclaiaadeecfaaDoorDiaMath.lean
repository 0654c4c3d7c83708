/-
  The two dialects, over lists alone: their specs, the table out of which the document makes them, the fields that nothing loses. (Plain functions.)
-/
import Derived.Test.YtbclaiaadeecfaaDoorSchMath
namespace Go.Proofs.YtbclaiaadeecfaaDoor
open Go.Lib

def acqL : List Sp := [(2, 1, 2, 12, 19), (3, 1, 1, 6, 6), (4, 1, 1, 12, 12), (7, 1, 1, 10, 10), (11, 1, 1, 6, 6), (12, 1, 1, 6, 6), (13, 1, 1, 4, 4), (14, 1, 1, 4, 4), (18, 1, 1, 4, 4), (22, 1, 1, 3, 3), (23, 1, 1, 3, 3), (32, 1, 2, 1, 11), (35, 4, 2, 1, 37), (37, 3, 1, 12, 12), (38, 3, 1, 6, 6), (39, 3, 1, 2, 2), (41, 4, 1, 8, 8), (42, 4, 1, 15, 15), (43, 4, 1, 40, 40), (48, 4, 3, 1, 999), (49, 1, 1, 3, 3), (52, 5, 1, 8, 8), (55, 6, 3, 1, 255), (64, 5, 1, 8, 8), (70, 1, 1, 3, 3), (90, 1, 1, 42, 42), (102, 4, 2, 1, 28), (128, 5, 1, 8, 8)]
def issL : List Sp := [(2, 1, 2, 12, 19), (3, 1, 1, 6, 6), (4, 1, 1, 12, 12), (7, 1, 1, 10, 10), (11, 1, 1, 6, 6), (12, 1, 1, 12, 12), (14, 1, 1, 4, 4), (22, 3, 1, 12, 12), (23, 1, 1, 3, 3), (26, 1, 1, 4, 4), (32, 1, 2, 1, 11), (35, 4, 2, 1, 37), (37, 3, 1, 12, 12), (38, 3, 1, 6, 6), (39, 1, 1, 3, 3), (41, 4, 1, 8, 8), (42, 4, 1, 15, 15), (43, 4, 2, 1, 99), (48, 4, 3, 1, 999), (49, 1, 1, 3, 3), (52, 5, 1, 8, 8), (55, 6, 3, 1, 255), (64, 5, 1, 8, 8), (70, 1, 1, 3, 3), (102, 4, 2, 1, 28), (128, 5, 1, 8, 8)]
/-- The document's table: a field, the acquirer's class, form, least and greatest length, and the issuer's; class 0: none. -/
def diaT : List (List Int) := [[2, 1, 2, 12, 19, 1, 2, 12, 19], [3, 1, 1, 6, 6, 1, 1, 6, 6], [4, 1, 1, 12, 12, 1, 1, 12, 12], [7, 1, 1, 10, 10, 1, 1, 10, 10], [11, 1, 1, 6, 6, 1, 1, 6, 6], [12, 1, 1, 6, 6, 1, 1, 12, 12], [13, 1, 1, 4, 4, 0, 0, 0, 0], [14, 1, 1, 4, 4, 1, 1, 4, 4], [18, 1, 1, 4, 4, 0, 0, 0, 0], [22, 1, 1, 3, 3, 3, 1, 12, 12], [23, 1, 1, 3, 3, 1, 1, 3, 3], [26, 0, 0, 0, 0, 1, 1, 4, 4], [32, 1, 2, 1, 11, 1, 2, 1, 11], [35, 4, 2, 1, 37, 4, 2, 1, 37], [37, 3, 1, 12, 12, 3, 1, 12, 12], [38, 3, 1, 6, 6, 3, 1, 6, 6], [39, 3, 1, 2, 2, 1, 1, 3, 3], [41, 4, 1, 8, 8, 4, 1, 8, 8], [42, 4, 1, 15, 15, 4, 1, 15, 15], [43, 4, 1, 40, 40, 4, 2, 1, 99], [48, 4, 3, 1, 999, 4, 3, 1, 999], [49, 1, 1, 3, 3, 1, 1, 3, 3], [52, 5, 1, 8, 8, 5, 1, 8, 8], [55, 6, 3, 1, 255, 6, 3, 1, 255], [64, 5, 1, 8, 8, 5, 1, 8, 8], [70, 1, 1, 3, 3, 1, 1, 3, 3], [90, 1, 1, 42, 42, 0, 0, 0, 0], [102, 4, 2, 1, 28, 4, 2, 1, 28], [128, 5, 1, 8, 8, 5, 1, 8, 8]]
def losL : List Int := [2, 3, 4, 7, 11, 12, 14, 23, 32, 35, 37, 38, 41, 42, 49, 52, 55, 64, 70, 102, 128]
theorem diaT_len : diaT.length = 29 := rfl
theorem acq_len : acqL.length = 28 := rfl
theorem iss_len : issL.length = 26 := rfl

/-- A row of the table, in one dialect. -/
def rowSp (q : Nat) (r : List Int) : Sp := (r.getD 0 0, r.getD (1 + 4 * q) 0, r.getD (2 + 4 * q) 0, r.getD (3 + 4 * q) 0, r.getD (4 + 4 * q) 0)
/-- The specs that rows of the table make. -/
def refL (q : Nat) (T : List (List Int)) : List Sp := (T.filter fun r => decide (0 < r.getD (1 + 4 * q) 0)).map (rowSp q)
theorem ref_acq : refL 0 diaT = acqL := by decide
theorem ref_iss : refL 1 diaT = issL := by decide
theorem refL_snoc (q : Nat) (T : List (List Int)) (r : List Int) : refL q (T ++ [r]) = refL q T ++ (if 0 < r.getD (1 + 4 * q) 0 then [rowSp q r] else []) := by
  unfold refL
  rw [List.filter_append, List.map_append, List.filter_cons, List.filter_nil]
  by_cases h : 0 < r.getD (1 + 4 * q) 0
  · rw [if_pos (decide_eq_true h), if_pos h]; rfl
  · rw [if_neg (by simpa using h), if_neg h]; rfl
theorem refL_length (q : Nat) (T : List (List Int)) : (refL q T).length ≤ T.length := by
  unfold refL
  rw [List.length_map]
  exact List.length_filter_le _ _
def diaR (k : Nat) : List Int := diaT.getD k []
theorem take_dia {k : Nat} (h : k < 29) : diaT.take (k + 1) = diaT.take k ++ [diaR k] := by
  have h' : k < diaT.length := h
  rw [List.take_succ_eq_append_getElem h']
  simp [diaR, List.getD, h']
theorem dia_part (q k : Nat) (h : k ≤ 29) : (refL q (diaT.take k)).length ≤ 29 := Nat.le_trans (refL_length _ _) (by simp; omega)

/-- A dialect: its style, its version and its specs. -/
def dlist : Bool → List Sp
  | false => acqL
  | true => issL
def dstyle : Bool → Int
  | false => 1
  | true => 2
def dver : Bool → Int
  | false => 0
  | true => 1
theorem dia_right (b : Bool) : (schN (dstyle b) (dver b) (dlist b)).1 = 0 := by cases b <;> decide +kernel
theorem dia_len (b : Bool) : (dlist b).length ≤ 1000 := by cases b <;> decide
theorem los_high : ofH losL = 8229204623181779457 := by decide +kernel
theorem los_low : ofL losL = 288230376218820609 := by decide +kernel
theorem los_in : ∀ n ∈ losL, 1 ≤ n ∧ n ≤ 128 := by decide
theorem los_has (n : Int) : hasN (ofH losL) (ofL losL) n = decide (n ∈ losL) := by
  rw [has_of, decide_eq_decide]
  exact ⟨fun h => h.1, fun h => ⟨h, los_in n h⟩⟩
theorem los_both : ∀ n ∈ losL, (fndP n acqL).2 = true ∧ (fndP n issL).2 = true ∧ (fndP n acqL).1.2.1 = (fndP n issL).1.2.1 ∧ (n = 12 ∨ (fndP n acqL).1 = (fndP n issL).1) := by decide +kernel

end Go.Proofs.YtbclaiaadeecfaaDoor
