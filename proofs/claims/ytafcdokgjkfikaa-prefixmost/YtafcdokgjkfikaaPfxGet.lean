/-
  What Get answers: for every style, form, text and place, in every world.
-/
import Derived.Test.YtafcdokgjkfikaaPfxSmall
import Derived.Test.YtafcdokgjkfikaaDigGet
import Derived.Test.YtafcdokgjkfikaaBcdGet
namespace Go.Proofs.Ytafcdokgjkfikaa
open Go.RowKit

/-- The piece of a text, as a list. -/
theorem ext_list (s : ByteArray) (p z : Nat) : (s.extract p (p + z)).data.toList = (s.data.toList.drop p).take z := by
  rw [ByteArray.data_extract, Array.toList_extract]
  simp [List.extract]
theorem getB_few {l : List UInt8} {f : Nat} (hf : f = 2 ∨ f = 3) (h : l.length = f) : getB l = allD l := by
  unfold getB
  rw [show decide (1 ≤ l.length) = true by simp; omega, show decide (l.length ≤ 18) = true by simp; omega]
  simp
theorem pnum_one (f : Nat) (t : List UInt8) : pnum 1 f t = if allD t = true then some (numL t) else none := rfl
theorem pnum_two (f : Nat) (t : List UInt8) : pnum 2 f t = if (bget t f).2.1 = 0 then some (numL (bget t f).1) else none := rfl
/-- Digits that were got from halves are a number. -/
theorem bget_few {t : List UInt8} {f : Nat} (hf : f = 2 ∨ f = 3) (h : (bget t f).2.1 = 0) : getB (bget t f).1 = true := by
  obtain ⟨m, hm, hm1, hl, g1, g2⟩ := bget_zero h
  obtain rfl : f = m := by omega
  rw [bget_ok hm1 hl g1 g2]
  rw [getB_few hf (bgetL_length t f)]
  exact bgetL_all g2

theorem pget_w_arg (st f p : Int) (s : ByteArray) (w : World) (h : (st ≠ 1 ∧ st ≠ 2) ∨ (f ≠ 2 ∧ f ≠ 3)) :
    Calls Try.prog 11 #[.int .i64 st, .int .i64 f, .string s, .int .i64 p] w fun e w' => e = .returned (.tuple #[.int .i64 0, .int .i64 0, .int .i64 1]) ∧ Below w.heap.size w w' := by
  have HK := Lib.hid (pknown_no st f h)
  clear h
  go_enter Try.func11, Try.ntmps11
  go_wp2_with fail
  refine (HK.out _).mono ?_
  rintro e w1 ⟨rfl, rfl⟩
  go_wp2
  go_ret3
  exact ⟨rfl, Below.refl _ _⟩

theorem pget_w_place (st f p : Int) (s : ByteArray) (w : World) (hst : st = 1 ∨ st = 2) (hf : f = 2 ∨ f = 3) (h : p < 0 ∨ (s.size : Int) < p) :
    Calls Try.prog 11 #[.int .i64 st, .int .i64 f, .string s, .int .i64 p] w fun e w' => e = .returned (.tuple #[.int .i64 0, .int .i64 0, .int .i64 1]) ∧ Below w.heap.size w w' := by
  have HK := Lib.hid (pknown_yes st f hst hf)
  clear hst hf
  by_cases h0 : p < 0
  · clear h
    go_enter Try.func11, Try.ntmps11
    go_wp2_with fail
    refine (HK.out _).mono ?_
    rintro e w1 ⟨rfl, rfl⟩
    go_wp2
    go_ret3
    exact ⟨rfl, Below.refl _ _⟩
  · have h1 : (s.size : Int) < p := by omega
    have h2 : decide (p < 0) = false := by simp; omega
    clear h h0
    go_enter Try.func11, Try.ntmps11
    go_wp2_with fail
    refine (HK.out _).mono ?_
    rintro e w1 ⟨rfl, rfl⟩
    go_wp2
    go_ret3
    exact ⟨rfl, Below.refl _ _⟩

set_option maxHeartbeats 800000 in
theorem pget_w_cut (st f p z : Nat) (s : ByteArray) (w : World) (hst : st = 1 ∨ st = 2) (hf : f = 2 ∨ f = 3) (hs : s.size ≤ 1000000) (hp : p ≤ s.size) (hz : psz st f = z) (h : s.size < p + z) :
    Calls Try.prog 11 #[.int .i64 (st : Int), .int .i64 (f : Int), .string s, .int .i64 (p : Int)] w fun e w' => e = .returned (.tuple #[.int .i64 0, .int .i64 0, .int .i64 2]) ∧ Below w.heap.size w w' := by
  have HK := Lib.hid (pknown_yes (st : Int) (f : Int) (by omega) (by omega))
  have HZ := Lib.hid (psize_any st f hst hf)
  have hz3 := (psz_le (st := st) hf).2
  rw [hz] at HZ hz3
  have h2 : decide ((p : Int) < 0) = false := by simp
  have h3 : decide (s.size < p) = false := by simp; omega
  clear hst hf hz
  go_enter Try.func11, Try.ntmps11
  go_wp2_with fail
  refine (HK.out _).mono ?_
  rintro e w1 ⟨rfl, rfl⟩
  go_wp2_with fail
  refine (HZ.out _).mono ?_
  rintro e w1 ⟨rfl, rfl⟩
  go_wp2
  go_ret3
  exact ⟨rfl, Below.refl _ _⟩

set_option maxHeartbeats 800000 in
theorem pget_w_one (f p : Nat) (s : ByteArray) (w : World) (hf : f = 2 ∨ f = 3) (hs : s.size ≤ 1000000) (h : p + f ≤ s.size) (n : Int) (b : Bool)
    (hg : ∀ W, Calls Try.prog 23 #[.string (s.extract p (p + f))] W fun e w' => e = .returned (.tuple #[.int .i64 n, .bool b]) ∧ Below W.heap.size W w') :
    Calls Try.prog 11 #[.int .i64 1, .int .i64 (f : Int), .string s, .int .i64 (p : Int)] w fun e w' => e = .returned (.tuple (if b = true then #[.int .i64 n, .int .i64 ((p + f : Nat) : Int), .int .i64 0] else #[.int .i64 0, .int .i64 0, .int .i64 3])) ∧ Below w.heap.size w w' := by
  have HK := Lib.hid (pknown_yes 1 (f : Int) (by omega) (by omega))
  have HZ : Hid (∀ W, Calls Try.prog 21 #[.int .i64 1, .int .i64 (f : Int)] W fun e w' => e = .returned (.int .i64 (f : Int)) ∧ W = w') := psize_any 1 f (Or.inl rfl) hf
  have HG := Lib.hid hg
  have h2 : decide ((p : Int) < 0) = false := by simp
  have h3 : decide (s.size < p) = false := by simp; omega
  have hf3 : f ≤ 3 := by omega
  clear hf hg
  cases b
  · rw [if_neg (by decide)]
    go_enter Try.func11, Try.ntmps11
    go_wp2_with fail
    refine (HK.out _).mono ?_
    rintro e w1 ⟨rfl, rfl⟩
    go_wp2_with fail
    refine (HZ.out _).mono ?_
    rintro e w1 ⟨rfl, rfl⟩
    go_wp2_with fail
    refine (HG.out _).mono ?_
    rintro e w1 ⟨rfl, hb1⟩
    go_wp2
    go_ret3
    exact ⟨rfl, hb1⟩
  · rw [if_pos rfl]
    go_enter Try.func11, Try.ntmps11
    go_wp2_with fail
    refine (HK.out _).mono ?_
    rintro e w1 ⟨rfl, rfl⟩
    go_wp2_with fail
    refine (HZ.out _).mono ?_
    rintro e w1 ⟨rfl, rfl⟩
    go_wp2_with fail
    refine (HG.out _).mono ?_
    rintro e w1 ⟨rfl, hb1⟩
    go_wp2
    go_ret3
    exact ⟨rfl, hb1⟩

set_option maxHeartbeats 800000 in
theorem pget_w_bad (f p : Nat) (s : ByteArray) (w : World) (hf : f = 2 ∨ f = 3) (hs : s.size ≤ 1000000) (h : p + (f - 1) ≤ s.size) (x : ByteArray) (y k : Nat) (hy : y ≠ 0)
    (hg : ∀ W, Calls Try.prog 22 #[.string (s.extract p (p + (f - 1))), .int .i64 (f : Int)] W fun e w' => e = .returned (.tuple #[.string x, .int .i64 (y : Int), .int .i64 (k : Int)]) ∧ Below W.heap.size W w') :
    Calls Try.prog 11 #[.int .i64 2, .int .i64 (f : Int), .string s, .int .i64 (p : Int)] w fun e w' => e = .returned (.tuple #[.int .i64 0, .int .i64 0, .int .i64 3]) ∧ Below w.heap.size w w' := by
  have HK := Lib.hid (pknown_yes 2 (f : Int) (by omega) (by omega))
  have HC := Lib.hid (count_yes (f : Int) (by omega))
  have HZ : Hid (∀ W, Calls Try.prog 21 #[.int .i64 2, .int .i64 (f : Int)] W fun e w' => e = .returned (.int .i64 ((f - 1 : Nat) : Int)) ∧ W = w') := psize_any 2 f (Or.inr rfl) hf
  have HG := Lib.hid hg
  have h2 : decide ((p : Int) < 0) = false := by simp
  have h3 : decide (s.size < p) = false := by simp; omega
  have h4 : ((y : Int) != 0) = true := by simp [hy]
  have hf3 : f - 1 ≤ 3 := by omega
  clear hf hg hy
  generalize f - 1 = z at *
  go_enter Try.func11, Try.ntmps11
  go_wp2_with fail
  refine (HK.out _).mono ?_
  rintro e w1 ⟨rfl, rfl⟩
  go_wp2_with fail
  refine (HZ.out _).mono ?_
  rintro e w1 ⟨rfl, rfl⟩
  go_wp2_with fail
  refine (HC.out _).mono ?_
  rintro e w1 ⟨rfl, rfl⟩
  go_wp2_with fail
  refine (HG.out _).mono ?_
  rintro e w1 ⟨rfl, hb1⟩
  go_wp2
  go_ret3
  exact ⟨rfl, hb1⟩

set_option maxHeartbeats 800000 in
theorem pget_w_two (f p : Nat) (s : ByteArray) (w : World) (hf : f = 2 ∨ f = 3) (hs : s.size ≤ 1000000) (h : p + (f - 1) ≤ s.size) (x : ByteArray) (k : Nat) (n : Int)
    (hg : ∀ W, Calls Try.prog 22 #[.string (s.extract p (p + (f - 1))), .int .i64 (f : Int)] W fun e w' => e = .returned (.tuple #[.string x, .int .i64 0, .int .i64 (k : Int)]) ∧ Below W.heap.size W w')
    (hd : ∀ W, Calls Try.prog 23 #[.string x] W fun e w' => e = .returned (.tuple #[.int .i64 n, .bool true]) ∧ Below W.heap.size W w') :
    Calls Try.prog 11 #[.int .i64 2, .int .i64 (f : Int), .string s, .int .i64 (p : Int)] w fun e w' => e = .returned (.tuple #[.int .i64 n, .int .i64 ((p + (f - 1) : Nat) : Int), .int .i64 0]) ∧ Below w.heap.size w w' := by
  have HK := Lib.hid (pknown_yes 2 (f : Int) (by omega) (by omega))
  have HC := Lib.hid (count_yes (f : Int) (by omega))
  have HZ : Hid (∀ W, Calls Try.prog 21 #[.int .i64 2, .int .i64 (f : Int)] W fun e w' => e = .returned (.int .i64 ((f - 1 : Nat) : Int)) ∧ W = w') := psize_any 2 f (Or.inr rfl) hf
  have HG := Lib.hid hg
  have HD := Lib.hid hd
  have h2 : decide ((p : Int) < 0) = false := by simp
  have h3 : decide (s.size < p) = false := by simp; omega
  have hf3 : f - 1 ≤ 3 := by omega
  clear hf hg hd
  generalize f - 1 = z at *
  go_enter Try.func11, Try.ntmps11
  go_wp2_with fail
  refine (HK.out _).mono ?_
  rintro e w1 ⟨rfl, rfl⟩
  go_wp2_with fail
  refine (HZ.out _).mono ?_
  rintro e w1 ⟨rfl, rfl⟩
  go_wp2_with fail
  refine (HC.out _).mono ?_
  rintro e w1 ⟨rfl, rfl⟩
  go_wp2_with fail
  refine (HG.out _).mono ?_
  rintro e w1 ⟨rfl, hb1⟩
  go_wp2_with fail
  refine (HD.out _).mono ?_
  rintro e w2 ⟨rfl, hb2⟩
  go_wp2
  go_ret3
  exact ⟨rfl, hbt hb1 hb2⟩

def pgetV (r : Nat × Nat × Nat) : Value := .tuple #[.int .i64 (r.1 : Int), .int .i64 (r.2.1 : Int), .int .i64 (r.2.2 : Int)]

/-- What Get answers at a place of a text. -/
theorem pget_any (st f p : Nat) (s : ByteArray) (w : World) (hst : st = 1 ∨ st = 2) (hf : f = 2 ∨ f = 3) (hs : s.size ≤ 1000000) (hp : p ≤ s.size) :
    Calls Try.prog 11 #[.int .i64 (st : Int), .int .i64 (f : Int), .string s, .int .i64 (p : Int)] w fun e w' => e = .returned (pgetV (pget st f s.data.toList p)) ∧ Below w.heap.size w w' := by
  have hl : s.data.toList.length = s.size := by simp
  have hz3 := (psz_le (st := st) hf)
  by_cases h : s.size < p + psz st f
  · rw [pget_cut (by omega)]
    exact pget_w_cut st f p _ s w hst hf hs hp rfl h
  have hz : (s.extract p (p + psz st f)).size = psz st f := by simp; omega
  have hx := ext_list s p (psz st f)
  have hxl : ((s.data.toList.drop p).take (psz st f)).length = psz st f := by rw [← hx, Array.length_toList]; exact hz
  rcases hst with rfl | rfl
  · rw [psz_one] at *
    have hg := fun W => get_any (s.extract p (p + f)) W (by rw [hz]; unfold maxLen; omega)
    rw [hx, getB_few hf hxl] at hg
    have := pget_w_one f p s w hf hs (by omega) _ _ hg
    cases ha : allD ((s.data.toList.drop p).take f)
    · rw [ha, if_neg (by decide)] at this
      rw [pget_form (by rw [psz_one]; omega) (by rw [psz_one, pnum_one, ha]; rfl)]
      exact this
    · rw [getN_yes (by rw [getB_few hf hxl, ha]), ha, if_pos rfl] at this
      rw [pget_ok (by rw [psz_one]; omega) (by rw [psz_one, pnum_one, if_pos ha])]
      exact this
  · rw [psz_two] at *
    have hg := fun W => bget_any (s.extract p (p + (f - 1))) (f : Int) W
    rw [hx] at hg
    by_cases hy : (bget ((s.data.toList.drop p).take (f - 1)) f).2.1 = 0
    · have hB := bget_few hf hy
      have hd := fun W => get_any (⟨(bget ((s.data.toList.drop p).take (f - 1)) f).1.toArray⟩ : ByteArray) W (by
        have hB2 := hB
        unfold getB at hB2
        show (bget ((s.data.toList.drop p).take (f - 1)) f).1.toArray.size ≤ _
        simp at hB2
        rw [List.size_toArray]
        unfold maxLen
        omega)
      rw [show (⟨(bget ((s.data.toList.drop p).take (f - 1)) f).1.toArray⟩ : ByteArray).data.toList = (bget ((s.data.toList.drop p).take (f - 1)) f).1 from rfl, getN_yes hB, hB] at hd
      unfold bgetV at hg
      rw [hy] at hg
      rw [pget_ok (by rw [psz_two]; omega) (by rw [psz_two, pnum_two, if_pos hy])]
      exact pget_w_two f p s w hf hs (by omega) _ _ _ hg hd
    · rw [pget_form (by rw [psz_two]; omega) (by rw [psz_two, pnum_two, if_neg hy])]
      exact pget_w_bad f p s w hf hs (by omega) _ _ _ hy hg

end Go.Proofs.Ytafcdokgjkfikaa
