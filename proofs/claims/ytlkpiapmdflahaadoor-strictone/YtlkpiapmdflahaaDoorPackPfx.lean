/-
  Texts of one family, laid together: PfxTop, PfxMath, PfxSmall, PfxGet, PfxPut, PfxRefGet.
-/
import Derived.Test.YtlkpiapmdflahaaDoorRows
import Derived.WalkKit
import Derived.WalkSpells
import Derived.WalkLawsBesides
import Derived.Lib.Hide
import Derived.Test.YtlkpiapmdflahaaDoorPackDig
import Derived.Test.YtlkpiapmdflahaaDoorPackBcd

/-
  What Most answers: for every form, in every world (for seats that hold Most alone of layer 7; PfxSmall holds it beside the rest).
-/
namespace Go.Proofs.YtlkpiapmdflahaaDoor
open Go.RowKit

theorem ptop_two (w : World) : Calls Tryd.prog 95 #[.int .i64 2] w fun e w' => e = .returned (.int .i64 99) ∧ w' = w := by
  go_enter Tryd.func95, Tryd.ntmps95
  go_wp2
  go_ret
  exact ⟨rfl, rfl⟩
theorem ptop_three (w : World) : Calls Tryd.prog 95 #[.int .i64 3] w fun e w' => e = .returned (.int .i64 999) ∧ w' = w := by
  go_enter Tryd.func95, Tryd.ntmps95
  go_wp2
  go_ret
  exact ⟨rfl, rfl⟩

end Go.Proofs.YtlkpiapmdflahaaDoor

/-
  Lengths ahead of fields: which bytes a length has, and which length stands in bytes; put and got undo each other. (No program is named here.)
-/
namespace Go.Proofs.YtlkpiapmdflahaaDoor

def psz (st f : Nat) : Nat := if st = 2 then f - 1 else f
def pputL (st f n : Nat) : List UInt8 := if st = 2 then packL (putL n f) else putL n f
def pnum (st f : Nat) (t : List UInt8) : Option Nat :=
  if st = 2 then (if (bget t f).2.1 = 0 then some (numL (bget t f).1) else none) else (if allD t = true then some (numL t) else none)
/-- The length, the place behind it, an error. -/
def pget (st f : Nat) (l : List UInt8) (p : Nat) : Nat × Nat × Nat :=
  if l.length < p + psz st f then (0, 0, 2) else
  match pnum st f ((l.drop p).take (psz st f)) with
  | some n => (n, p + psz st f, 0)
  | none => (0, 0, 3)

theorem psz_one (f : Nat) : psz 1 f = f := rfl
theorem psz_two (f : Nat) : psz 2 f = f - 1 := rfl
theorem psz_le {st f : Nat} (hf : f = 2 ∨ f = 3) : 1 ≤ psz st f ∧ psz st f ≤ 3 := by unfold psz; split <;> omega
theorem psz_half {f : Nat} (hf : f = 2 ∨ f = 3) : (f + 1) / 2 = f - 1 := by omega
theorem pputL_length {st f : Nat} (n : Nat) (hf : f = 2 ∨ f = 3) : (pputL st f n).length = psz st f := by
  unfold pputL psz
  split
  · rw [packL_length, putL_length]; omega
  · rw [putL_length]

theorem pget_cut {st f : Nat} {l : List UInt8} {p : Nat} (h : l.length < p + psz st f) : pget st f l p = (0, 0, 2) := by unfold pget; rw [if_pos h]
theorem pget_form {st f : Nat} {l : List UInt8} {p : Nat} (h : p + psz st f ≤ l.length) (h2 : pnum st f ((l.drop p).take (psz st f)) = none) : pget st f l p = (0, 0, 3) := by
  unfold pget; rw [if_neg (by omega), h2]
theorem pget_ok {st f : Nat} {l : List UInt8} {p n : Nat} (h : p + psz st f ≤ l.length) (h2 : pnum st f ((l.drop p).take (psz st f)) = some n) : pget st f l p = (n, p + psz st f, 0) := by
  unfold pget; rw [if_neg (by omega), h2]
theorem pget_err {st f : Nat} {l : List UInt8} {p : Nat} (h : (pget st f l p).2.2 ≠ 0) : (pget st f l p).1 = 0 ∧ (pget st f l p).2.1 = 0 := by
  unfold pget at *
  split at h
  · rw [if_pos (by assumption)]; exact ⟨rfl, rfl⟩
  · rw [if_neg (by assumption)]
    split at h
    · exact absurd rfl h
    · exact ⟨rfl, rfl⟩
theorem pget_zero {st f : Nat} {l : List UInt8} {p : Nat} (h : (pget st f l p).2.2 = 0) : p + psz st f ≤ l.length ∧ (pget st f l p).2.1 = p + psz st f ∧ pnum st f ((l.drop p).take (psz st f)) = some (pget st f l p).1 := by
  unfold pget at *
  split at h
  · exact absurd h (by decide)
  · rw [if_neg (by assumption)]
    split at h
    · rename_i g
      rw [g]
      exact ⟨by omega, rfl, rfl⟩
    · exact absurd h (by decide)

theorem pnum_pputL {st f n : Nat} (hf : f = 2 ∨ f = 3) (hn : n < 10 ^ f) : pnum st f (pputL st f n) = some n := by
  unfold pnum pputL
  split
  · have h := bget_packL (putL_all n f) (by rw [putL_length]; omega) []
    rw [putL_length, List.append_nil] at h
    rw [h]
    simp [numL_putL, Nat.mod_eq_of_lt hn]
  · rw [if_pos (putL_all n f), numL_putL, Nat.mod_eq_of_lt hn]

theorem pputL_pnum {st f n : Nat} {t : List UInt8} (hf : f = 2 ∨ f = 3) (ht : t.length = psz st f) (h : pnum st f t = some n) : n < 10 ^ f ∧ pputL st f n = t := by
  unfold pnum at h
  unfold pputL
  unfold psz at ht
  split at h
  · rename_i h2
    rw [if_pos h2] at *
    split at h
    · rename_i h3
      obtain ⟨m, hm, hm1, hl, g1, g2⟩ := bget_zero h3
      obtain rfl : f = m := by omega
      rw [bget_ok hm1 hl g1 g2] at h
      have ha := bgetL_all g2
      have e : numL (bgetL t f) = n := by simpa using h
      have e1 := putL_numL _ ha
      have e2 := numL_lt _ ha
      rw [bgetL_length, e] at e1 e2
      refine ⟨e2, ?_⟩
      rw [e1, packL_bgetL hl g1, List.take_of_length_le (by omega)]
    · exact absurd h (by simp)
  · rename_i h2
    rw [if_neg h2] at *
    split at h
    · rename_i ha
      have e : numL t = n := by simpa using h
      have e1 := putL_numL _ ha
      have e2 := numL_lt _ ha
      rw [ht, e] at e1 e2
      exact ⟨e2, e1⟩
    · exact absurd h (by simp)

theorem pget_back {st f n : Nat} (a b : List UInt8) (hf : f = 2 ∨ f = 3) (hn : n < 10 ^ f) : pget st f (a ++ pputL st f n ++ b) a.length = (n, a.length + psz st f, 0) := by
  have hl := pputL_length (st := st) n hf
  refine pget_ok (by simp only [List.length_append, hl]; omega) ?_
  rw [List.append_assoc, List.drop_left, ← hl, List.take_left]
  exact pnum_pputL hf hn

theorem pget_one {st f : Nat} {l : List UInt8} (hf : f = 2 ∨ f = 3) (h : (pget st f l 0).2.2 = 0) : (pget st f l 0).1 < 10 ^ f ∧ (pget st f l 0).2.1 = psz st f ∧ psz st f ≤ l.length ∧ pputL st f (pget st f l 0).1 = l.take (psz st f) := by
  obtain ⟨h1, h2, h3⟩ := pget_zero h
  rw [List.drop_zero] at h3
  obtain ⟨g1, g2⟩ := pputL_pnum hf (by rw [List.length_take]; omega) h3
  exact ⟨g1, by omega, by omega, g2⟩

end Go.Proofs.YtlkpiapmdflahaaDoor

/-
  What count, known, size, Most and the document's Width answer: for every style and form, in every world.
-/
namespace Go.Proofs.YtlkpiapmdflahaaDoor
open Go.RowKit

theorem count_yes (f : Int) (hf : f = 2 ∨ f = 3) (w : World) : Calls Tryd.prog 109 #[.int .i64 f] w fun e w' => e = .returned (.int .i64 f) ∧ w = w' := by
  rcases hf with rfl | rfl
  · go_enter Tryd.func109, Tryd.ntmps109
    go_wp2
    go_ret
    exact ⟨rfl, rfl⟩
  · go_enter Tryd.func109, Tryd.ntmps109
    go_wp2
    go_ret
    exact ⟨rfl, rfl⟩
theorem count_no (f : Int) (hf : f ≠ 2 ∧ f ≠ 3) (w : World) : Calls Tryd.prog 109 #[.int .i64 f] w fun e w' => e = .returned (.int .i64 0) ∧ w = w' := by
  obtain ⟨h2, h3⟩ := hf
  go_enter Tryd.func109, Tryd.ntmps109
  go_wp2
  go_ret
  exact ⟨rfl, rfl⟩
theorem most_yes (f : Nat) (hf : f = 2 ∨ f = 3) (w : World) : Calls Tryd.prog 95 #[.int .i64 (f : Int)] w fun e w' => e = .returned (.int .i64 ((10 ^ f - 1 : Nat) : Int)) ∧ w = w' := by
  rcases hf with rfl | rfl
  · show Calls Tryd.prog 95 #[.int .i64 2] w _
    go_enter Tryd.func95, Tryd.ntmps95
    go_wp2
    go_ret
    exact ⟨rfl, rfl⟩
  · show Calls Tryd.prog 95 #[.int .i64 3] w _
    go_enter Tryd.func95, Tryd.ntmps95
    go_wp2
    go_ret
    exact ⟨rfl, rfl⟩
theorem most_no (f : Int) (hf : f ≠ 2 ∧ f ≠ 3) (w : World) : Calls Tryd.prog 95 #[.int .i64 f] w fun e w' => e = .returned (.int .i64 0) ∧ w = w' := by
  obtain ⟨h2, h3⟩ := hf
  go_enter Tryd.func95, Tryd.ntmps95
  go_wp2
  go_ret
  exact ⟨rfl, rfl⟩
theorem width_yes (f : Int) (hf : f = 2 ∨ f = 3) (w : World) : Calls Tryd.prog 81 #[.int .i64 f] w fun e w' => e = .returned (.int .i64 f) ∧ w = w' := by
  rcases hf with rfl | rfl
  · go_enter Tryd.func81, Tryd.ntmps81
    go_wp2
    go_ret
    exact ⟨rfl, rfl⟩
  · go_enter Tryd.func81, Tryd.ntmps81
    go_wp2
    go_ret
    exact ⟨rfl, rfl⟩
theorem width_no (f : Int) (hf : f ≠ 2 ∧ f ≠ 3) (w : World) : Calls Tryd.prog 81 #[.int .i64 f] w fun e w' => e = .returned (.int .i64 0) ∧ w = w' := by
  have h2 : (f == 2) = false := by simp; omega
  have h3 : (f == 3) = false := by simp; omega
  clear hf
  go_enter Tryd.func81, Tryd.ntmps81
  go_wp2
  go_ret
  exact ⟨rfl, rfl⟩

theorem pknown_yes (st f : Int) (hs : st = 1 ∨ st = 2) (hf : f = 2 ∨ f = 3) (w : World) : Calls Tryd.prog 107 #[.int .i64 st, .int .i64 f] w fun e w' => e = .returned (.bool true) ∧ w = w' := by
  have HC := Lib.hid (count_yes f hf)
  have h0 : decide ((0 : Int) < f) = true := by simp; omega
  clear hf
  rcases hs with rfl | rfl
  · go_enter Tryd.func107, Tryd.ntmps107
    go_wp2_with fail
    refine (HC.out _).mono ?_
    rintro e w1 ⟨rfl, rfl⟩
    go_wp2
    go_ret
    exact ⟨rfl, rfl⟩
  · go_enter Tryd.func107, Tryd.ntmps107
    go_wp2_with fail
    refine (HC.out _).mono ?_
    rintro e w1 ⟨rfl, rfl⟩
    go_wp2
    go_ret
    exact ⟨rfl, rfl⟩
theorem pknown_no (st f : Int) (h : (st ≠ 1 ∧ st ≠ 2) ∨ (f ≠ 2 ∧ f ≠ 3)) (w : World) : Calls Tryd.prog 107 #[.int .i64 st, .int .i64 f] w fun e w' => e = .returned (.bool false) ∧ w = w' := by
  by_cases hs : st = 1 ∨ st = 2
  · have HC := Lib.hid (count_no f (by omega))
    clear h
    rcases hs with rfl | rfl
    · go_enter Tryd.func107, Tryd.ntmps107
      go_wp2_with fail
      refine (HC.out _).mono ?_
      rintro e w1 ⟨rfl, rfl⟩
      go_wp2
      go_ret
      exact ⟨rfl, rfl⟩
    · go_enter Tryd.func107, Tryd.ntmps107
      go_wp2_with fail
      refine (HC.out _).mono ?_
      rintro e w1 ⟨rfl, rfl⟩
      go_wp2
      go_ret
      exact ⟨rfl, rfl⟩
  · have h1 : (st == 1) = false := by simp; omega
    have h2 : (st == 2) = false := by simp; omega
    clear h hs
    go_enter Tryd.func107, Tryd.ntmps107
    go_wp2
    go_ret
    exact ⟨rfl, rfl⟩

theorem psize_any (st f : Nat) (hs : st = 1 ∨ st = 2) (hf : f = 2 ∨ f = 3) (w : World) : Calls Tryd.prog 112 #[.int .i64 (st : Int), .int .i64 (f : Int)] w fun e w' => e = .returned (.int .i64 (psz st f : Int)) ∧ w = w' := by
  have HC := Lib.hid (count_yes (f : Int) (by omega))
  rcases hs with rfl | rfl
  · show Calls Tryd.prog 112 #[.int .i64 1, .int .i64 (f : Int)] w _
    rw [psz_one]
    clear hf
    go_enter Tryd.func112, Tryd.ntmps112
    go_wp2_with fail
    refine (HC.out _).mono ?_
    rintro e w1 ⟨rfl, rfl⟩
    go_wp2
    go_ret
    exact ⟨rfl, rfl⟩
  · show Calls Tryd.prog 112 #[.int .i64 2, .int .i64 (f : Int)] w _
    have HS := Lib.hid (fun W => size_nat f W (by omega))
    rw [psz_half hf] at HS
    rw [psz_two]
    clear hf
    generalize f - 1 = z at *
    go_enter Tryd.func112, Tryd.ntmps112
    go_wp2_with fail
    refine (HC.out _).mono ?_
    rintro e w1 ⟨rfl, rfl⟩
    go_wp2_with fail
    refine (HS.out _).mono ?_
    rintro e w1 ⟨rfl, rfl⟩
    go_wp2
    go_ret
    exact ⟨rfl, rfl⟩

end Go.Proofs.YtlkpiapmdflahaaDoor

/-
  What Get answers: for every style, form, text and place, in every world.
-/
namespace Go.Proofs.YtlkpiapmdflahaaDoor
open Go.RowKit

/-- The piece of a text, as a list. -/
theorem ext_list (s : ByteArray) (p z : Nat) : (s.extract p (p + z)).data.toList = (s.data.toList.drop p).take z := by
  rw [ByteArray.data_extract, Array.toList_extract]
  simp [List.extract]
theorem getB_few {l : List UInt8} {f : Nat} (hf : f = 2 ∨ f = 3) (h : l.length = f) : getB l = allD l := by
  unfold getB
  rw [show decide (1 ≤ l.length) = true by simp; omega, show decide (l.length ≤ 18) = true by simp; omega]
  simp
theorem pnum_one (f : Nat) (t : List UInt8) : pnum 1 f t = if allD t = true then some (numL t) else none := rfl
theorem pnum_two (f : Nat) (t : List UInt8) : pnum 2 f t = if (bget t f).2.1 = 0 then some (numL (bget t f).1) else none := rfl
/-- Digits that were got from halves are a number. -/
theorem bget_few {t : List UInt8} {f : Nat} (hf : f = 2 ∨ f = 3) (h : (bget t f).2.1 = 0) : getB (bget t f).1 = true := by
  obtain ⟨m, hm, hm1, hl, g1, g2⟩ := bget_zero h
  obtain rfl : f = m := by omega
  rw [bget_ok hm1 hl g1 g2]
  rw [getB_few hf (bgetL_length t f)]
  exact bgetL_all g2

theorem pget_w_arg (st f p : Int) (s : ByteArray) (w : World) (h : (st ≠ 1 ∧ st ≠ 2) ∨ (f ≠ 2 ∧ f ≠ 3)) :
    Calls Tryd.prog 99 #[.int .i64 st, .int .i64 f, .string s, .int .i64 p] w fun e w' => e = .returned (.tuple #[.int .i64 0, .int .i64 0, .int .i64 1]) ∧ Below w.heap.size w w' := by
  have HK := Lib.hid (pknown_no st f h)
  clear h
  go_enter Tryd.func99, Tryd.ntmps99
  go_wp2_with fail
  refine (HK.out _).mono ?_
  rintro e w1 ⟨rfl, rfl⟩
  go_wp2
  go_ret3
  exact ⟨rfl, Below.refl _ _⟩

theorem pget_w_place (st f p : Int) (s : ByteArray) (w : World) (hst : st = 1 ∨ st = 2) (hf : f = 2 ∨ f = 3) (h : p < 0 ∨ (s.size : Int) < p) :
    Calls Tryd.prog 99 #[.int .i64 st, .int .i64 f, .string s, .int .i64 p] w fun e w' => e = .returned (.tuple #[.int .i64 0, .int .i64 0, .int .i64 1]) ∧ Below w.heap.size w w' := by
  have HK := Lib.hid (pknown_yes st f hst hf)
  clear hst hf
  by_cases h0 : p < 0
  · clear h
    go_enter Tryd.func99, Tryd.ntmps99
    go_wp2_with fail
    refine (HK.out _).mono ?_
    rintro e w1 ⟨rfl, rfl⟩
    go_wp2
    go_ret3
    exact ⟨rfl, Below.refl _ _⟩
  · have h1 : (s.size : Int) < p := by omega
    have h2 : decide (p < 0) = false := by simp; omega
    clear h h0
    go_enter Tryd.func99, Tryd.ntmps99
    go_wp2_with fail
    refine (HK.out _).mono ?_
    rintro e w1 ⟨rfl, rfl⟩
    go_wp2
    go_ret3
    exact ⟨rfl, Below.refl _ _⟩

set_option maxRecDepth 100000 in
set_option maxHeartbeats 800000 in
theorem pget_w_cut (st f p z : Nat) (s : ByteArray) (w : World) (hst : st = 1 ∨ st = 2) (hf : f = 2 ∨ f = 3) (hs : s.size ≤ 1000000) (hp : p ≤ s.size) (hz : psz st f = z) (h : s.size < p + z) :
    Calls Tryd.prog 99 #[.int .i64 (st : Int), .int .i64 (f : Int), .string s, .int .i64 (p : Int)] w fun e w' => e = .returned (.tuple #[.int .i64 0, .int .i64 0, .int .i64 2]) ∧ Below w.heap.size w w' := by
  have HK := Lib.hid (pknown_yes (st : Int) (f : Int) (by omega) (by omega))
  have HZ := Lib.hid (psize_any st f hst hf)
  have hz3 := (psz_le (st := st) hf).2
  rw [hz] at HZ hz3
  have h2 : decide ((p : Int) < 0) = false := by simp
  have h3 : decide (s.size < p) = false := by simp; omega
  clear hst hf hz
  go_enter Tryd.func99, Tryd.ntmps99
  go_wp2_with fail
  refine (HK.out _).mono ?_
  rintro e w1 ⟨rfl, rfl⟩
  go_wp2_with fail
  refine (HZ.out _).mono ?_
  rintro e w1 ⟨rfl, rfl⟩
  go_wp2
  go_ret3
  exact ⟨rfl, Below.refl _ _⟩

set_option maxRecDepth 100000 in
set_option maxHeartbeats 800000 in
theorem pget_w_one (f p : Nat) (s : ByteArray) (w : World) (hf : f = 2 ∨ f = 3) (hs : s.size ≤ 1000000) (h : p + f ≤ s.size) (n : Int) (b : Bool)
    (hg : ∀ W, Calls Tryd.prog 64 #[.string (s.extract p (p + f))] W fun e w' => e = .returned (.tuple #[.int .i64 n, .bool b]) ∧ Below W.heap.size W w') :
    Calls Tryd.prog 99 #[.int .i64 1, .int .i64 (f : Int), .string s, .int .i64 (p : Int)] w fun e w' => e = .returned (.tuple (if b = true then #[.int .i64 n, .int .i64 ((p + f : Nat) : Int), .int .i64 0] else #[.int .i64 0, .int .i64 0, .int .i64 3])) ∧ Below w.heap.size w w' := by
  have HK := Lib.hid (pknown_yes 1 (f : Int) (by omega) (by omega))
  have HZ : Hid (∀ W, Calls Tryd.prog 112 #[.int .i64 1, .int .i64 (f : Int)] W fun e w' => e = .returned (.int .i64 (f : Int)) ∧ W = w') := psize_any 1 f (Or.inl rfl) hf
  have HG := Lib.hid hg
  have h2 : decide ((p : Int) < 0) = false := by simp
  have h3 : decide (s.size < p) = false := by simp; omega
  have hf3 : f ≤ 3 := by omega
  clear hf hg
  cases b
  · rw [if_neg (by decide)]
    go_enter Tryd.func99, Tryd.ntmps99
    go_wp2_with fail
    refine (HK.out _).mono ?_
    rintro e w1 ⟨rfl, rfl⟩
    go_wp2_with fail
    refine (HZ.out _).mono ?_
    rintro e w1 ⟨rfl, rfl⟩
    go_wp2_with fail
    refine (HG.out _).mono ?_
    rintro e w1 ⟨rfl, hb1⟩
    go_wp2
    go_ret3
    exact ⟨rfl, hb1⟩
  · rw [if_pos rfl]
    go_enter Tryd.func99, Tryd.ntmps99
    go_wp2_with fail
    refine (HK.out _).mono ?_
    rintro e w1 ⟨rfl, rfl⟩
    go_wp2_with fail
    refine (HZ.out _).mono ?_
    rintro e w1 ⟨rfl, rfl⟩
    go_wp2_with fail
    refine (HG.out _).mono ?_
    rintro e w1 ⟨rfl, hb1⟩
    go_wp2
    go_ret3
    exact ⟨rfl, hb1⟩

set_option maxRecDepth 100000 in
set_option maxHeartbeats 800000 in
theorem pget_w_bad (f p : Nat) (s : ByteArray) (w : World) (hf : f = 2 ∨ f = 3) (hs : s.size ≤ 1000000) (h : p + (f - 1) ≤ s.size) (x : ByteArray) (y k : Nat) (hy : y ≠ 0)
    (hg : ∀ W, Calls Tryd.prog 38 #[.string (s.extract p (p + (f - 1))), .int .i64 (f : Int)] W fun e w' => e = .returned (.tuple #[.string x, .int .i64 (y : Int), .int .i64 (k : Int)]) ∧ Below W.heap.size W w') :
    Calls Tryd.prog 99 #[.int .i64 2, .int .i64 (f : Int), .string s, .int .i64 (p : Int)] w fun e w' => e = .returned (.tuple #[.int .i64 0, .int .i64 0, .int .i64 3]) ∧ Below w.heap.size w w' := by
  have HK := Lib.hid (pknown_yes 2 (f : Int) (by omega) (by omega))
  have HC := Lib.hid (count_yes (f : Int) (by omega))
  have HZ : Hid (∀ W, Calls Tryd.prog 112 #[.int .i64 2, .int .i64 (f : Int)] W fun e w' => e = .returned (.int .i64 ((f - 1 : Nat) : Int)) ∧ W = w') := psize_any 2 f (Or.inr rfl) hf
  have HG := Lib.hid hg
  have h2 : decide ((p : Int) < 0) = false := by simp
  have h3 : decide (s.size < p) = false := by simp; omega
  have h4 : ((y : Int) != 0) = true := by simp [hy]
  have hf3 : f - 1 ≤ 3 := by omega
  clear hf hg hy
  generalize f - 1 = z at *
  go_enter Tryd.func99, Tryd.ntmps99
  go_wp2_with fail
  refine (HK.out _).mono ?_
  rintro e w1 ⟨rfl, rfl⟩
  go_wp2_with fail
  refine (HZ.out _).mono ?_
  rintro e w1 ⟨rfl, rfl⟩
  go_wp2_with fail
  refine (HC.out _).mono ?_
  rintro e w1 ⟨rfl, rfl⟩
  go_wp2_with fail
  refine (HG.out _).mono ?_
  rintro e w1 ⟨rfl, hb1⟩
  go_wp2
  go_ret3
  exact ⟨rfl, hb1⟩

set_option maxRecDepth 100000 in
set_option maxHeartbeats 800000 in
theorem pget_w_two (f p : Nat) (s : ByteArray) (w : World) (hf : f = 2 ∨ f = 3) (hs : s.size ≤ 1000000) (h : p + (f - 1) ≤ s.size) (x : ByteArray) (k : Nat) (n : Int)
    (hg : ∀ W, Calls Tryd.prog 38 #[.string (s.extract p (p + (f - 1))), .int .i64 (f : Int)] W fun e w' => e = .returned (.tuple #[.string x, .int .i64 0, .int .i64 (k : Int)]) ∧ Below W.heap.size W w')
    (hd : ∀ W, Calls Tryd.prog 64 #[.string x] W fun e w' => e = .returned (.tuple #[.int .i64 n, .bool true]) ∧ Below W.heap.size W w') :
    Calls Tryd.prog 99 #[.int .i64 2, .int .i64 (f : Int), .string s, .int .i64 (p : Int)] w fun e w' => e = .returned (.tuple #[.int .i64 n, .int .i64 ((p + (f - 1) : Nat) : Int), .int .i64 0]) ∧ Below w.heap.size w w' := by
  have HK := Lib.hid (pknown_yes 2 (f : Int) (by omega) (by omega))
  have HC := Lib.hid (count_yes (f : Int) (by omega))
  have HZ : Hid (∀ W, Calls Tryd.prog 112 #[.int .i64 2, .int .i64 (f : Int)] W fun e w' => e = .returned (.int .i64 ((f - 1 : Nat) : Int)) ∧ W = w') := psize_any 2 f (Or.inr rfl) hf
  have HG := Lib.hid hg
  have HD := Lib.hid hd
  have h2 : decide ((p : Int) < 0) = false := by simp
  have h3 : decide (s.size < p) = false := by simp; omega
  have hf3 : f - 1 ≤ 3 := by omega
  clear hf hg hd
  generalize f - 1 = z at *
  go_enter Tryd.func99, Tryd.ntmps99
  go_wp2_with fail
  refine (HK.out _).mono ?_
  rintro e w1 ⟨rfl, rfl⟩
  go_wp2_with fail
  refine (HZ.out _).mono ?_
  rintro e w1 ⟨rfl, rfl⟩
  go_wp2_with fail
  refine (HC.out _).mono ?_
  rintro e w1 ⟨rfl, rfl⟩
  go_wp2_with fail
  refine (HG.out _).mono ?_
  rintro e w1 ⟨rfl, hb1⟩
  go_wp2_with fail
  refine (HD.out _).mono ?_
  rintro e w2 ⟨rfl, hb2⟩
  go_wp2
  go_ret3
  exact ⟨rfl, hbt hb1 hb2⟩

def pgetV (r : Nat × Nat × Nat) : Value := .tuple #[.int .i64 (r.1 : Int), .int .i64 (r.2.1 : Int), .int .i64 (r.2.2 : Int)]

/-- What Get answers at a place of a text. -/
theorem pget_any (st f p : Nat) (s : ByteArray) (w : World) (hst : st = 1 ∨ st = 2) (hf : f = 2 ∨ f = 3) (hs : s.size ≤ 1000000) (hp : p ≤ s.size) :
    Calls Tryd.prog 99 #[.int .i64 (st : Int), .int .i64 (f : Int), .string s, .int .i64 (p : Int)] w fun e w' => e = .returned (pgetV (pget st f s.data.toList p)) ∧ Below w.heap.size w w' := by
  have hl : s.data.toList.length = s.size := by simp
  have hz3 := (psz_le (st := st) hf)
  by_cases h : s.size < p + psz st f
  · rw [pget_cut (by omega)]
    exact pget_w_cut st f p _ s w hst hf hs hp rfl h
  have hz : (s.extract p (p + psz st f)).size = psz st f := by simp; omega
  have hx := ext_list s p (psz st f)
  have hxl : ((s.data.toList.drop p).take (psz st f)).length = psz st f := by rw [← hx, Array.length_toList]; exact hz
  rcases hst with rfl | rfl
  · rw [psz_one] at *
    have hg := fun W => get_any (s.extract p (p + f)) W (by rw [hz]; unfold maxLen; omega)
    rw [hx, getB_few hf hxl] at hg
    have := pget_w_one f p s w hf hs (by omega) _ _ hg
    cases ha : allD ((s.data.toList.drop p).take f)
    · rw [ha, if_neg (by decide)] at this
      rw [pget_form (by rw [psz_one]; omega) (by rw [psz_one, pnum_one, ha]; rfl)]
      exact this
    · rw [getN_yes (by rw [getB_few hf hxl, ha]), ha, if_pos rfl] at this
      rw [pget_ok (by rw [psz_one]; omega) (by rw [psz_one, pnum_one, if_pos ha])]
      exact this
  · rw [psz_two] at *
    have hg := fun W => bget_any (s.extract p (p + (f - 1))) (f : Int) W
    rw [hx] at hg
    by_cases hy : (bget ((s.data.toList.drop p).take (f - 1)) f).2.1 = 0
    · have hB := bget_few hf hy
      have hd := fun W => get_any (⟨(bget ((s.data.toList.drop p).take (f - 1)) f).1.toArray⟩ : ByteArray) W (by
        have hB2 := hB
        unfold getB at hB2
        show (bget ((s.data.toList.drop p).take (f - 1)) f).1.toArray.size ≤ _
        simp at hB2
        rw [List.size_toArray]
        unfold maxLen
        omega)
      rw [show (⟨(bget ((s.data.toList.drop p).take (f - 1)) f).1.toArray⟩ : ByteArray).data.toList = (bget ((s.data.toList.drop p).take (f - 1)) f).1 from rfl, getN_yes hB, hB] at hd
      unfold bgetV at hg
      rw [hy] at hg
      rw [pget_ok (by rw [psz_two]; omega) (by rw [psz_two, pnum_two, if_pos hy])]
      exact pget_w_two f p s w hf hs (by omega) _ _ _ hg hd
    · rw [pget_form (by rw [psz_two]; omega) (by rw [psz_two, pnum_two, if_neg hy])]
      exact pget_w_bad f p s w hf hs (by omega) _ _ _ hy hg

end Go.Proofs.YtlkpiapmdflahaaDoor

/-
  What Put and the document's Put answer: for every style, form and number, in every world.
-/
namespace Go.Proofs.YtlkpiapmdflahaaDoor
open Go.RowKit

theorem pput_arg (st f n : Int) (w : World) (h : (st ≠ 1 ∧ st ≠ 2) ∨ (f ≠ 2 ∧ f ≠ 3)) :
    Calls Tryd.prog 91 #[.int .i64 st, .int .i64 f, .int .i64 n] w fun e w' => e = .returned (.tuple #[.string ⟨#[]⟩, .int .i64 1]) ∧ Below w.heap.size w w' := by
  have HK := Lib.hid (pknown_no st f h)
  clear h
  go_enter Tryd.func91, Tryd.ntmps91
  go_wp2_with fail
  refine (HK.out _).mono ?_
  rintro e w1 ⟨rfl, rfl⟩
  go_wp2
  go_ret2
  exact ⟨rfl, Below.refl _ _⟩

theorem dput_range (f n : Int) (hf : f = 2 ∨ f = 3) (h : n < 0 ∨ (10 ^ f.toNat : Int) ≤ n) : putB n f = false := by
  refine putB_no ?_
  by_cases h0 : n < 0
  · exact Or.inl h0
  · refine Or.inr (Or.inr (Or.inr ⟨by omega, ?_⟩))
    rcases hf with rfl | rfl
    · have : (100 : Int) ≤ n := by simpa [h0] using h
      show 0 < n.toNat / 100
      omega
    · have : (1000 : Int) ≤ n := by simpa [h0] using h
      show 0 < n.toNat / 1000
      omega
theorem dput_in (f n : Nat) (hf : f = 2 ∨ f = 3) (h : n < 10 ^ f) : putB (n : Int) (f : Int) = true := by
  refine putB_mk (by omega) (by omega) (by omega) ?_
  exact Nat.div_eq_of_lt (by simpa using h)

theorem pput_range (st f n : Int) (w : World) (hs : st = 1 ∨ st = 2) (hf : f = 2 ∨ f = 3) (hn : n ≤ 9223372036854775807) (h : n < 0 ∨ (10 ^ f.toNat : Int) ≤ n) :
    Calls Tryd.prog 91 #[.int .i64 st, .int .i64 f, .int .i64 n] w fun e w' => e = .returned (.tuple #[.string ⟨#[]⟩, .int .i64 5]) ∧ Below w.heap.size w w' := by
  have HK := Lib.hid (pknown_yes st f hs hf)
  have HC := Lib.hid (count_yes f hf)
  have HP := Lib.hid (fun W => put_any n f W hn)
  rw [putS_no (dput_range f n hf h), dput_range f n hf h] at HP
  clear h hf hs hn
  go_enter Tryd.func91, Tryd.ntmps91
  go_wp2_with fail
  refine (HK.out _).mono ?_
  rintro e w1 ⟨rfl, rfl⟩
  go_wp2_with fail
  refine (HC.out _).mono ?_
  rintro e w1 ⟨rfl, rfl⟩
  go_wp2_with fail
  refine (HP.out _).mono ?_
  rintro e w1 ⟨rfl, hb⟩
  go_wp2
  go_ret2
  exact ⟨rfl, hb⟩

theorem pput_ok (st f n : Nat) (w : World) (hs : st = 1 ∨ st = 2) (hf : f = 2 ∨ f = 3) (h : n < 10 ^ f) :
    Calls Tryd.prog 91 #[.int .i64 (st : Int), .int .i64 (f : Int), .int .i64 (n : Int)] w fun e w' => e = .returned (.tuple #[.string ⟨(pputL st f n).toArray⟩, .int .i64 0]) ∧ Below w.heap.size w w' := by
  have hp := dput_in f n hf h
  have h3 : n < 1000 := by rcases hf with rfl | rfl <;> omega
  have HK := Lib.hid (pknown_yes (st : Int) (f : Int) (by omega) (by omega))
  have HC := Lib.hid (count_yes (f : Int) (by omega))
  have HP := Lib.hid (fun W => put_any (n : Int) (f : Int) W (by omega))
  rw [putS_yes hp, hp, Int.toNat_natCast, Int.toNat_natCast] at HP
  have hq : (⟨(putL n f).toArray⟩ : ByteArray).data.toList = putL n f := rfl
  rcases hs with rfl | rfl
  · change Hid (∀ W, Calls _ _ #[.int .i64 1, .int .i64 (f : Int)] W _) at HK
    show Calls Tryd.prog 91 #[.int .i64 1, .int .i64 (f : Int), .int .i64 (n : Int)] w _
    show Calls _ _ _ _ fun e w' => e = .returned (.tuple #[.string ⟨(putL n f).toArray⟩, .int .i64 0]) ∧ _
    generalize (⟨(putL n f).toArray⟩ : ByteArray) = x at *
    clear h hf hp hq h3
    go_enter Tryd.func91, Tryd.ntmps91
    go_wp2_with fail
    refine (HK.out _).mono ?_
    rintro e w1 ⟨rfl, rfl⟩
    go_wp2_with fail
    refine (HC.out _).mono ?_
    rintro e w1 ⟨rfl, rfl⟩
    go_wp2_with fail
    refine (HP.out _).mono ?_
    rintro e w1 ⟨rfl, hb⟩
    go_wp2
    go_ret2
    exact ⟨rfl, hb⟩
  · change Hid (∀ W, Calls _ _ #[.int .i64 2, .int .i64 (f : Int)] W _) at HK
    show Calls Tryd.prog 91 #[.int .i64 2, .int .i64 (f : Int), .int .i64 (n : Int)] w _
    show Calls _ _ _ _ fun e w' => e = .returned (.tuple #[.string ⟨(packL (putL n f)).toArray⟩, .int .i64 0]) ∧ _
    have hy : bputB (putL n f) = true := bputB_yes (by rw [putL_length]; omega) (putL_all n f)
    have HB := Lib.hid (fun W => bput_any (⟨(putL n f).toArray⟩ : ByteArray) W (by show (putL n f).toArray.size ≤ _; rw [List.size_toArray, putL_length]; unfold maxLen; omega))
    rw [hq, bputS_yes hy, hy] at HB
    generalize (⟨(packL (putL n f)).toArray⟩ : ByteArray) = y at *
    generalize (⟨(putL n f).toArray⟩ : ByteArray) = x at *
    clear h hf hp hq h3 hy
    go_enter Tryd.func91, Tryd.ntmps91
    go_wp2_with fail
    refine (HK.out _).mono ?_
    rintro e w1 ⟨rfl, rfl⟩
    go_wp2_with fail
    refine (HC.out _).mono ?_
    rintro e w1 ⟨rfl, rfl⟩
    go_wp2_with fail
    refine (HP.out _).mono ?_
    rintro e w1 ⟨rfl, hb⟩
    go_wp2_with fail
    refine (HB.out _).mono ?_
    rintro e w2 ⟨rfl, hb2⟩
    go_wp2
    go_ret2
    exact ⟨rfl, hbt hb hb2⟩


end Go.Proofs.YtlkpiapmdflahaaDoor

/-
  What the document's Get answers: for every style, form, text and place, in every world.
-/
namespace Go.Proofs.YtlkpiapmdflahaaDoor
open Go.RowKit

theorem prefGet_arg (st f p : Int) (s : ByteArray) (w : World) (h : (st ≠ 1 ∧ st ≠ 2) ∨ (f ≠ 2 ∧ f ≠ 3)) :
    Calls Tryd.prog 52 #[.int .i64 st, .int .i64 f, .string s, .int .i64 p] w fun e w' => e = .returned (.tuple #[.int .i64 0, .int .i64 0, .int .i64 1]) ∧ Below w.heap.size w w' := by
  by_cases hs : st = 1 ∨ st = 2
  · have HC := Lib.hid (width_no f (by omega))
    clear h
    rcases hs with rfl | rfl
    · go_enter Tryd.func52, Tryd.ntmps52
      go_wp2_with fail
      refine (HC.out _).mono ?_
      rintro e w1 ⟨rfl, rfl⟩
      go_wp2
      go_ret3
      exact ⟨rfl, Below.refl _ _⟩
    · go_enter Tryd.func52, Tryd.ntmps52
      go_wp2_with fail
      refine (HC.out _).mono ?_
      rintro e w1 ⟨rfl, rfl⟩
      go_wp2
      go_ret3
      exact ⟨rfl, Below.refl _ _⟩
  · have h1 : (st != 1) = true := by simp; omega
    have h2 : (st != 2) = true := by simp; omega
    clear h hs
    go_enter Tryd.func52, Tryd.ntmps52
    go_wp2
    go_ret3
    exact ⟨rfl, Below.refl _ _⟩

set_option maxRecDepth 100000 in
set_option maxHeartbeats 800000 in
theorem prefGet_place (st f p : Int) (s : ByteArray) (w : World) (hst : st = 1 ∨ st = 2) (hf : f = 2 ∨ f = 3) (h : p < 0 ∨ (s.size : Int) < p) :
    Calls Tryd.prog 52 #[.int .i64 st, .int .i64 f, .string s, .int .i64 p] w fun e w' => e = .returned (.tuple #[.int .i64 0, .int .i64 0, .int .i64 1]) ∧ Below w.heap.size w w' := by
  have HC := Lib.hid (width_yes f hf)
  have hf0 : (f == 0) = false := by simp; omega
  clear hf
  by_cases h0 : p < 0
  · clear h
    rcases hst with rfl | rfl
    · go_enter Tryd.func52, Tryd.ntmps52
      go_wp2_with fail
      refine (HC.out _).mono ?_
      rintro e w1 ⟨rfl, rfl⟩
      go_wp2
      go_ret3
      exact ⟨rfl, Below.refl _ _⟩
    · go_enter Tryd.func52, Tryd.ntmps52
      go_wp2_with fail
      refine (HC.out _).mono ?_
      rintro e w1 ⟨rfl, rfl⟩
      go_wp2
      go_ret3
      exact ⟨rfl, Below.refl _ _⟩
  · have h1 : (s.size : Int) < p := by omega
    have h2 : decide (p < 0) = false := by simp; omega
    clear h h0
    rcases hst with rfl | rfl
    · go_enter Tryd.func52, Tryd.ntmps52
      go_wp2_with fail
      refine (HC.out _).mono ?_
      rintro e w1 ⟨rfl, rfl⟩
      go_wp2
      go_ret3
      exact ⟨rfl, Below.refl _ _⟩
    · go_enter Tryd.func52, Tryd.ntmps52
      go_wp2_with fail
      refine (HC.out _).mono ?_
      rintro e w1 ⟨rfl, rfl⟩
      go_wp2
      go_ret3
      exact ⟨rfl, Below.refl _ _⟩

set_option maxRecDepth 100000 in
set_option maxHeartbeats 800000 in
theorem prefGet_cut (st f p : Nat) (s : ByteArray) (w : World) (hst : st = 1 ∨ st = 2) (hf : f = 2 ∨ f = 3) (hs : s.size ≤ 1000000) (hp : p ≤ s.size) (h : s.size < p + psz st f) :
    Calls Tryd.prog 52 #[.int .i64 (st : Int), .int .i64 (f : Int), .string s, .int .i64 (p : Int)] w fun e w' => e = .returned (.tuple #[.int .i64 0, .int .i64 0, .int .i64 2]) ∧ Below w.heap.size w w' := by
  have HC := Lib.hid (width_yes (f : Int) (by omega))
  have hf0 : ((f : Int) == 0) = false := by simp; omega
  have h2 : decide ((p : Int) < 0) = false := by simp
  have h3 : decide (s.size < p) = false := by simp; omega
  have hf1 : 1 ≤ f := by omega
  have hf3 : f ≤ 3 := by omega
  clear hf
  rcases hst with rfl | rfl
  · show Calls Tryd.prog 52 #[.int .i64 1, .int .i64 (f : Int), .string s, .int .i64 (p : Int)] w _
    rw [psz_one] at h
    have h4 : decide ((s.size : Int) - (p : Int) < (f : Int)) = true := by simp; omega
    go_enter Tryd.func52, Tryd.ntmps52
    go_wp2_with fail
    refine (HC.out _).mono ?_
    rintro e w1 ⟨rfl, rfl⟩
    go_wp2
    go_ret3
    exact ⟨rfl, Below.refl _ _⟩
  · show Calls Tryd.prog 52 #[.int .i64 2, .int .i64 (f : Int), .string s, .int .i64 (p : Int)] w _
    rw [psz_two] at h
    have h4 : decide ((s.size : Int) - (p : Int) < (f : Int) - 1) = true := by simp; omega
    go_enter Tryd.func52, Tryd.ntmps52
    go_wp2_with fail
    refine (HC.out _).mono ?_
    rintro e w1 ⟨rfl, rfl⟩
    go_wp2
    go_ret3
    exact ⟨rfl, Below.refl _ _⟩

set_option maxRecDepth 100000 in
set_option maxHeartbeats 800000 in
theorem prefGet_one (f p : Nat) (s : ByteArray) (w : World) (hf : f = 2 ∨ f = 3) (hs : s.size ≤ 1000000) (h : p + f ≤ s.size) (n : Int) (b : Bool)
    (hg : ∀ W, Calls Tryd.prog 82 #[.string (s.extract p (p + f))] W fun e w' => e = .returned (.tuple #[.int .i64 n, .bool b]) ∧ W = w') :
    Calls Tryd.prog 52 #[.int .i64 1, .int .i64 (f : Int), .string s, .int .i64 (p : Int)] w fun e w' => e = .returned (.tuple (if b = true then #[.int .i64 n, .int .i64 ((p + f : Nat) : Int), .int .i64 0] else #[.int .i64 0, .int .i64 0, .int .i64 3])) ∧ Below w.heap.size w w' := by
  have HC := Lib.hid (width_yes (f : Int) (by omega))
  have HG := Lib.hid hg
  have hf0 : ((f : Int) == 0) = false := by simp; omega
  have h2 : decide ((p : Int) < 0) = false := by simp
  have h3 : decide (s.size < p) = false := by simp; omega
  have hf3 : f ≤ 3 := by omega
  have h4 : decide ((s.size : Int) - (p : Int) < (f : Int)) = false := by simp; omega
  clear hf hg
  cases b
  · rw [if_neg (by decide)]
    go_enter Tryd.func52, Tryd.ntmps52
    go_wp2_with fail
    refine (HC.out _).mono ?_
    rintro e w1 ⟨rfl, rfl⟩
    go_wp2_with fail
    refine (HG.out _).mono ?_
    rintro e w1 ⟨rfl, rfl⟩
    go_wp2
    go_ret3
    exact ⟨rfl, Below.refl _ _⟩
  · rw [if_pos rfl]
    go_enter Tryd.func52, Tryd.ntmps52
    go_wp2_with fail
    refine (HC.out _).mono ?_
    rintro e w1 ⟨rfl, rfl⟩
    go_wp2_with fail
    refine (HG.out _).mono ?_
    rintro e w1 ⟨rfl, rfl⟩
    go_wp2
    go_ret3
    exact ⟨rfl, Below.refl _ _⟩

/-- In the style of bytes: the form is one more than their number. -/
theorem prefGet_bad (z p : Nat) (s : ByteArray) (w : World) (hz : z = 1 ∨ z = 2) (hs : s.size ≤ 1000000) (h : p + z ≤ s.size) (x : ByteArray) (y k : Nat) (hy : y ≠ 0)
    (hg : ∀ W, Calls Tryd.prog 22 #[.string (s.extract p (p + z)), .int .i64 ((z + 1 : Nat) : Int)] W fun e w' => e = .returned (.tuple #[.string x, .int .i64 (y : Int), .int .i64 (k : Int)]) ∧ Below W.heap.size W w') :
    Calls Tryd.prog 52 #[.int .i64 2, .int .i64 ((z + 1 : Nat) : Int), .string s, .int .i64 (p : Int)] w fun e w' => e = .returned (.tuple #[.int .i64 0, .int .i64 0, .int .i64 3]) ∧ Below w.heap.size w w' := by
  have HC := Lib.hid (width_yes ((z + 1 : Nat) : Int) (by omega))
  have HG := Lib.hid hg
  have hf0 : (((z + 1 : Nat) : Int) == 0) = false := by simp; omega
  have h2 : decide ((p : Int) < 0) = false := by simp
  have h3 : decide (s.size < p) = false := by simp; omega
  have h5 : ((y : Int) != 0) = true := by simp [hy]
  have h6 : ((z + 1 : Nat) : Int) - 1 = (z : Int) := by omega
  have h4 : decide ((s.size : Int) - (p : Int) < (z : Int)) = false := by simp; omega
  have hz3 : z ≤ 2 := by omega
  have hz4 : 1 ≤ z := by omega
  clear hz hg hy
  generalize hf : z + 1 = f at *
  go_enter Tryd.func52, Tryd.ntmps52
  go_wp2_with fail
  refine (HC.out _).mono ?_
  rintro e w1 ⟨rfl, rfl⟩
  go_wp2_with fail
  refine (HG.out _).mono ?_
  rintro e w1 ⟨rfl, hb1⟩
  go_wp2
  go_ret3
  exact ⟨rfl, hb1⟩

set_option maxRecDepth 100000 in
set_option maxHeartbeats 800000 in
theorem prefGet_two (z p : Nat) (s : ByteArray) (w : World) (hz : z = 1 ∨ z = 2) (hs : s.size ≤ 1000000) (h : p + z ≤ s.size) (x : ByteArray) (k : Nat) (n : Int)
    (hg : ∀ W, Calls Tryd.prog 22 #[.string (s.extract p (p + z)), .int .i64 ((z + 1 : Nat) : Int)] W fun e w' => e = .returned (.tuple #[.string x, .int .i64 0, .int .i64 (k : Int)]) ∧ Below W.heap.size W w')
    (hd : ∀ W, Calls Tryd.prog 82 #[.string x] W fun e w' => e = .returned (.tuple #[.int .i64 n, .bool true]) ∧ W = w') :
    Calls Tryd.prog 52 #[.int .i64 2, .int .i64 ((z + 1 : Nat) : Int), .string s, .int .i64 (p : Int)] w fun e w' => e = .returned (.tuple #[.int .i64 n, .int .i64 ((p + z : Nat) : Int), .int .i64 0]) ∧ Below w.heap.size w w' := by
  have HC := Lib.hid (width_yes ((z + 1 : Nat) : Int) (by omega))
  have HG := Lib.hid hg
  have HD := Lib.hid hd
  have hf0 : (((z + 1 : Nat) : Int) == 0) = false := by simp; omega
  have h2 : decide ((p : Int) < 0) = false := by simp
  have h3 : decide (s.size < p) = false := by simp; omega
  have h6 : ((z + 1 : Nat) : Int) - 1 = (z : Int) := by omega
  have h4 : decide ((s.size : Int) - (p : Int) < (z : Int)) = false := by simp; omega
  have hz3 : z ≤ 2 := by omega
  have hz4 : 1 ≤ z := by omega
  clear hz hg hd
  generalize hf : z + 1 = f at *
  go_enter Tryd.func52, Tryd.ntmps52
  go_wp2_with fail
  refine (HC.out _).mono ?_
  rintro e w1 ⟨rfl, rfl⟩
  go_wp2_with fail
  refine (HG.out _).mono ?_
  rintro e w1 ⟨rfl, hb1⟩
  go_wp2_with fail
  refine (HD.out _).mono ?_
  rintro e w2 ⟨rfl, rfl⟩
  go_wp2
  go_ret3
  exact ⟨rfl, hb1⟩

/-- What the document's Get answers at a place of a text. -/
theorem prefGet_any (st f p : Nat) (s : ByteArray) (w : World) (hst : st = 1 ∨ st = 2) (hf : f = 2 ∨ f = 3) (hs : s.size ≤ 1000000) (hp : p ≤ s.size) :
    Calls Tryd.prog 52 #[.int .i64 (st : Int), .int .i64 (f : Int), .string s, .int .i64 (p : Int)] w fun e w' => e = .returned (pgetV (pget st f s.data.toList p)) ∧ Below w.heap.size w w' := by
  have hl : s.data.toList.length = s.size := by simp
  have hz3 := (psz_le (st := st) hf)
  by_cases h : s.size < p + psz st f
  · rw [pget_cut (by omega)]
    exact prefGet_cut st f p s w hst hf hs hp h
  have hz : (s.extract p (p + psz st f)).size = psz st f := by simp; omega
  have hx := ext_list s p (psz st f)
  have hxl : ((s.data.toList.drop p).take (psz st f)).length = psz st f := by rw [← hx, Array.length_toList]; exact hz
  rcases hst with rfl | rfl
  · rw [psz_one] at *
    have hg := fun W => refGet_any (s.extract p (p + f)) W (by rw [hz]; unfold maxLen; omega)
    rw [hx, getB_few hf hxl] at hg
    have := prefGet_one f p s w hf hs (by omega) _ _ hg
    cases ha : allD ((s.data.toList.drop p).take f)
    · rw [ha, if_neg (by decide)] at this
      rw [pget_form (by rw [psz_one]; omega) (by rw [psz_one, pnum_one, ha]; rfl)]
      exact this
    · rw [getN_yes (by rw [getB_few hf hxl, ha]), ha, if_pos rfl] at this
      rw [pget_ok (by rw [psz_one]; omega) (by rw [psz_one, pnum_one, if_pos ha])]
      exact this
  · obtain ⟨z, rfl⟩ : ∃ z, f = z + 1 := ⟨f - 1, by omega⟩
    rw [psz_two, Nat.add_sub_cancel] at *
    have hg := fun W => brefGet_any (s.extract p (p + z)) ((z + 1 : Nat) : Int) W
    rw [hx] at hg
    by_cases hy : (bget ((s.data.toList.drop p).take z) (z + 1 : Nat)).2.1 = 0
    · have hB := bget_few hf hy
      have hd := fun W => refGet_any (⟨(bget ((s.data.toList.drop p).take z) (z + 1 : Nat)).1.toArray⟩ : ByteArray) W (by
        have hB2 := hB
        unfold getB at hB2
        show (bget ((s.data.toList.drop p).take z) (z + 1 : Nat)).1.toArray.size ≤ _
        simp only [Bool.and_eq_true, decide_eq_true_eq] at hB2
        rw [List.size_toArray]
        unfold maxLen
        omega)
      rw [show (⟨(bget ((s.data.toList.drop p).take z) (z + 1 : Nat)).1.toArray⟩ : ByteArray).data.toList = (bget ((s.data.toList.drop p).take z) (z + 1 : Nat)).1 from rfl, getN_yes hB, hB] at hd
      unfold bgetV at hg
      rw [hy] at hg
      rw [pget_ok (by rw [psz_two]; omega) (by rw [psz_two, pnum_two, Nat.add_sub_cancel, if_pos hy])]
      exact prefGet_two z p s w (by omega) hs (by omega) _ _ _ hg hd
    · rw [pget_form (by rw [psz_two]; omega) (by rw [psz_two, pnum_two, Nat.add_sub_cancel, if_neg hy])]
      exact prefGet_bad z p s w (by omega) hs (by omega) _ _ _ hy hg

end Go.Proofs.YtlkpiapmdflahaaDoor
