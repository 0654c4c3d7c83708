/-
  What the document's Get answers: for every style, form, text and place, in every world.
-/
import Derived.Test.YtafcdokgjkfikaaPfxGet
import Derived.Test.YtafcdokgjkfikaaBcdRefGet
namespace Go.Proofs.Ytafcdokgjkfikaa
open Go.RowKit

theorem prefGet_arg (st f p : Int) (s : ByteArray) (w : World) (h : (st ≠ 1 ∧ st ≠ 2) ∨ (f ≠ 2 ∧ f ≠ 3)) :
    Calls Try.prog 12 #[.int .i64 st, .int .i64 f, .string s, .int .i64 p] w fun e w' => e = .returned (.tuple #[.int .i64 0, .int .i64 0, .int .i64 1]) ∧ Below w.heap.size w w' := by
  by_cases hs : st = 1 ∨ st = 2
  · have HC := Lib.hid (width_no f (by omega))
    clear h
    rcases hs with rfl | rfl
    · go_enter Try.func12, Try.ntmps12
      go_wp2_with fail
      refine (HC.out _).mono ?_
      rintro e w1 ⟨rfl, rfl⟩
      go_wp2
      go_ret3
      exact ⟨rfl, Below.refl _ _⟩
    · go_enter Try.func12, Try.ntmps12
      go_wp2_with fail
      refine (HC.out _).mono ?_
      rintro e w1 ⟨rfl, rfl⟩
      go_wp2
      go_ret3
      exact ⟨rfl, Below.refl _ _⟩
  · have h1 : (st != 1) = true := by simp; omega
    have h2 : (st != 2) = true := by simp; omega
    clear h hs
    go_enter Try.func12, Try.ntmps12
    go_wp2
    go_ret3
    exact ⟨rfl, Below.refl _ _⟩

set_option maxHeartbeats 800000 in
theorem prefGet_place (st f p : Int) (s : ByteArray) (w : World) (hst : st = 1 ∨ st = 2) (hf : f = 2 ∨ f = 3) (h : p < 0 ∨ (s.size : Int) < p) :
    Calls Try.prog 12 #[.int .i64 st, .int .i64 f, .string s, .int .i64 p] w fun e w' => e = .returned (.tuple #[.int .i64 0, .int .i64 0, .int .i64 1]) ∧ Below w.heap.size w w' := by
  have HC := Lib.hid (width_yes f hf)
  have hf0 : (f == 0) = false := by simp; omega
  clear hf
  by_cases h0 : p < 0
  · clear h
    rcases hst with rfl | rfl
    · go_enter Try.func12, Try.ntmps12
      go_wp2_with fail
      refine (HC.out _).mono ?_
      rintro e w1 ⟨rfl, rfl⟩
      go_wp2
      go_ret3
      exact ⟨rfl, Below.refl _ _⟩
    · go_enter Try.func12, Try.ntmps12
      go_wp2_with fail
      refine (HC.out _).mono ?_
      rintro e w1 ⟨rfl, rfl⟩
      go_wp2
      go_ret3
      exact ⟨rfl, Below.refl _ _⟩
  · have h1 : (s.size : Int) < p := by omega
    have h2 : decide (p < 0) = false := by simp; omega
    clear h h0
    rcases hst with rfl | rfl
    · go_enter Try.func12, Try.ntmps12
      go_wp2_with fail
      refine (HC.out _).mono ?_
      rintro e w1 ⟨rfl, rfl⟩
      go_wp2
      go_ret3
      exact ⟨rfl, Below.refl _ _⟩
    · go_enter Try.func12, Try.ntmps12
      go_wp2_with fail
      refine (HC.out _).mono ?_
      rintro e w1 ⟨rfl, rfl⟩
      go_wp2
      go_ret3
      exact ⟨rfl, Below.refl _ _⟩

set_option maxHeartbeats 800000 in
theorem prefGet_cut (st f p : Nat) (s : ByteArray) (w : World) (hst : st = 1 ∨ st = 2) (hf : f = 2 ∨ f = 3) (hs : s.size ≤ 1000000) (hp : p ≤ s.size) (h : s.size < p + psz st f) :
    Calls Try.prog 12 #[.int .i64 (st : Int), .int .i64 (f : Int), .string s, .int .i64 (p : Int)] w fun e w' => e = .returned (.tuple #[.int .i64 0, .int .i64 0, .int .i64 2]) ∧ Below w.heap.size w w' := by
  have HC := Lib.hid (width_yes (f : Int) (by omega))
  have hf0 : ((f : Int) == 0) = false := by simp; omega
  have h2 : decide ((p : Int) < 0) = false := by simp
  have h3 : decide (s.size < p) = false := by simp; omega
  have hf1 : 1 ≤ f := by omega
  have hf3 : f ≤ 3 := by omega
  clear hf
  rcases hst with rfl | rfl
  · show Calls Try.prog 12 #[.int .i64 1, .int .i64 (f : Int), .string s, .int .i64 (p : Int)] w _
    rw [psz_one] at h
    have h4 : decide ((s.size : Int) - (p : Int) < (f : Int)) = true := by simp; omega
    go_enter Try.func12, Try.ntmps12
    go_wp2_with fail
    refine (HC.out _).mono ?_
    rintro e w1 ⟨rfl, rfl⟩
    go_wp2
    go_ret3
    exact ⟨rfl, Below.refl _ _⟩
  · show Calls Try.prog 12 #[.int .i64 2, .int .i64 (f : Int), .string s, .int .i64 (p : Int)] w _
    rw [psz_two] at h
    have h4 : decide ((s.size : Int) - (p : Int) < (f : Int) - 1) = true := by simp; omega
    go_enter Try.func12, Try.ntmps12
    go_wp2_with fail
    refine (HC.out _).mono ?_
    rintro e w1 ⟨rfl, rfl⟩
    go_wp2
    go_ret3
    exact ⟨rfl, Below.refl _ _⟩

set_option maxHeartbeats 800000 in
theorem prefGet_one (f p : Nat) (s : ByteArray) (w : World) (hf : f = 2 ∨ f = 3) (hs : s.size ≤ 1000000) (h : p + f ≤ s.size) (n : Int) (b : Bool)
    (hg : ∀ W, Calls Try.prog 25 #[.string (s.extract p (p + f))] W fun e w' => e = .returned (.tuple #[.int .i64 n, .bool b]) ∧ W = w') :
    Calls Try.prog 12 #[.int .i64 1, .int .i64 (f : Int), .string s, .int .i64 (p : Int)] w fun e w' => e = .returned (.tuple (if b = true then #[.int .i64 n, .int .i64 ((p + f : Nat) : Int), .int .i64 0] else #[.int .i64 0, .int .i64 0, .int .i64 3])) ∧ Below w.heap.size w w' := by
  have HC := Lib.hid (width_yes (f : Int) (by omega))
  have HG := Lib.hid hg
  have hf0 : ((f : Int) == 0) = false := by simp; omega
  have h2 : decide ((p : Int) < 0) = false := by simp
  have h3 : decide (s.size < p) = false := by simp; omega
  have hf3 : f ≤ 3 := by omega
  have h4 : decide ((s.size : Int) - (p : Int) < (f : Int)) = false := by simp; omega
  clear hf hg
  cases b
  · rw [if_neg (by decide)]
    go_enter Try.func12, Try.ntmps12
    go_wp2_with fail
    refine (HC.out _).mono ?_
    rintro e w1 ⟨rfl, rfl⟩
    go_wp2_with fail
    refine (HG.out _).mono ?_
    rintro e w1 ⟨rfl, rfl⟩
    go_wp2
    go_ret3
    exact ⟨rfl, Below.refl _ _⟩
  · rw [if_pos rfl]
    go_enter Try.func12, Try.ntmps12
    go_wp2_with fail
    refine (HC.out _).mono ?_
    rintro e w1 ⟨rfl, rfl⟩
    go_wp2_with fail
    refine (HG.out _).mono ?_
    rintro e w1 ⟨rfl, rfl⟩
    go_wp2
    go_ret3
    exact ⟨rfl, Below.refl _ _⟩

/-- In the style of bytes: the form is one more than their number. -/
theorem prefGet_bad (z p : Nat) (s : ByteArray) (w : World) (hz : z = 1 ∨ z = 2) (hs : s.size ≤ 1000000) (h : p + z ≤ s.size) (x : ByteArray) (y k : Nat) (hy : y ≠ 0)
    (hg : ∀ W, Calls Try.prog 24 #[.string (s.extract p (p + z)), .int .i64 ((z + 1 : Nat) : Int)] W fun e w' => e = .returned (.tuple #[.string x, .int .i64 (y : Int), .int .i64 (k : Int)]) ∧ Below W.heap.size W w') :
    Calls Try.prog 12 #[.int .i64 2, .int .i64 ((z + 1 : Nat) : Int), .string s, .int .i64 (p : Int)] w fun e w' => e = .returned (.tuple #[.int .i64 0, .int .i64 0, .int .i64 3]) ∧ Below w.heap.size w w' := by
  have HC := Lib.hid (width_yes ((z + 1 : Nat) : Int) (by omega))
  have HG := Lib.hid hg
  have hf0 : (((z + 1 : Nat) : Int) == 0) = false := by simp; omega
  have h2 : decide ((p : Int) < 0) = false := by simp
  have h3 : decide (s.size < p) = false := by simp; omega
  have h5 : ((y : Int) != 0) = true := by simp [hy]
  have h6 : ((z + 1 : Nat) : Int) - 1 = (z : Int) := by omega
  have h4 : decide ((s.size : Int) - (p : Int) < (z : Int)) = false := by simp; omega
  have hz3 : z ≤ 2 := by omega
  have hz4 : 1 ≤ z := by omega
  clear hz hg hy
  generalize hf : z + 1 = f at *
  go_enter Try.func12, Try.ntmps12
  go_wp2_with fail
  refine (HC.out _).mono ?_
  rintro e w1 ⟨rfl, rfl⟩
  go_wp2_with fail
  refine (HG.out _).mono ?_
  rintro e w1 ⟨rfl, hb1⟩
  go_wp2
  go_ret3
  exact ⟨rfl, hb1⟩

set_option maxHeartbeats 800000 in
theorem prefGet_two (z p : Nat) (s : ByteArray) (w : World) (hz : z = 1 ∨ z = 2) (hs : s.size ≤ 1000000) (h : p + z ≤ s.size) (x : ByteArray) (k : Nat) (n : Int)
    (hg : ∀ W, Calls Try.prog 24 #[.string (s.extract p (p + z)), .int .i64 ((z + 1 : Nat) : Int)] W fun e w' => e = .returned (.tuple #[.string x, .int .i64 0, .int .i64 (k : Int)]) ∧ Below W.heap.size W w')
    (hd : ∀ W, Calls Try.prog 25 #[.string x] W fun e w' => e = .returned (.tuple #[.int .i64 n, .bool true]) ∧ W = w') :
    Calls Try.prog 12 #[.int .i64 2, .int .i64 ((z + 1 : Nat) : Int), .string s, .int .i64 (p : Int)] w fun e w' => e = .returned (.tuple #[.int .i64 n, .int .i64 ((p + z : Nat) : Int), .int .i64 0]) ∧ Below w.heap.size w w' := by
  have HC := Lib.hid (width_yes ((z + 1 : Nat) : Int) (by omega))
  have HG := Lib.hid hg
  have HD := Lib.hid hd
  have hf0 : (((z + 1 : Nat) : Int) == 0) = false := by simp; omega
  have h2 : decide ((p : Int) < 0) = false := by simp
  have h3 : decide (s.size < p) = false := by simp; omega
  have h6 : ((z + 1 : Nat) : Int) - 1 = (z : Int) := by omega
  have h4 : decide ((s.size : Int) - (p : Int) < (z : Int)) = false := by simp; omega
  have hz3 : z ≤ 2 := by omega
  have hz4 : 1 ≤ z := by omega
  clear hz hg hd
  generalize hf : z + 1 = f at *
  go_enter Try.func12, Try.ntmps12
  go_wp2_with fail
  refine (HC.out _).mono ?_
  rintro e w1 ⟨rfl, rfl⟩
  go_wp2_with fail
  refine (HG.out _).mono ?_
  rintro e w1 ⟨rfl, hb1⟩
  go_wp2_with fail
  refine (HD.out _).mono ?_
  rintro e w2 ⟨rfl, rfl⟩
  go_wp2
  go_ret3
  exact ⟨rfl, hb1⟩

/-- What the document's Get answers at a place of a text. -/
theorem prefGet_any (st f p : Nat) (s : ByteArray) (w : World) (hst : st = 1 ∨ st = 2) (hf : f = 2 ∨ f = 3) (hs : s.size ≤ 1000000) (hp : p ≤ s.size) :
    Calls Try.prog 12 #[.int .i64 (st : Int), .int .i64 (f : Int), .string s, .int .i64 (p : Int)] w fun e w' => e = .returned (pgetV (pget st f s.data.toList p)) ∧ Below w.heap.size w w' := by
  have hl : s.data.toList.length = s.size := by simp
  have hz3 := (psz_le (st := st) hf)
  by_cases h : s.size < p + psz st f
  · rw [pget_cut (by omega)]
    exact prefGet_cut st f p s w hst hf hs hp h
  have hz : (s.extract p (p + psz st f)).size = psz st f := by simp; omega
  have hx := ext_list s p (psz st f)
  have hxl : ((s.data.toList.drop p).take (psz st f)).length = psz st f := by rw [← hx, Array.length_toList]; exact hz
  rcases hst with rfl | rfl
  · rw [psz_one] at *
    have hg := fun W => refGet_any (s.extract p (p + f)) W (by rw [hz]; unfold maxLen; omega)
    rw [hx, getB_few hf hxl] at hg
    have := prefGet_one f p s w hf hs (by omega) _ _ hg
    cases ha : allD ((s.data.toList.drop p).take f)
    · rw [ha, if_neg (by decide)] at this
      rw [pget_form (by rw [psz_one]; omega) (by rw [psz_one, pnum_one, ha]; rfl)]
      exact this
    · rw [getN_yes (by rw [getB_few hf hxl, ha]), ha, if_pos rfl] at this
      rw [pget_ok (by rw [psz_one]; omega) (by rw [psz_one, pnum_one, if_pos ha])]
      exact this
  · obtain ⟨z, rfl⟩ : ∃ z, f = z + 1 := ⟨f - 1, by omega⟩
    rw [psz_two, Nat.add_sub_cancel] at *
    have hg := fun W => brefGet_any (s.extract p (p + z)) ((z + 1 : Nat) : Int) W
    rw [hx] at hg
    by_cases hy : (bget ((s.data.toList.drop p).take z) (z + 1 : Nat)).2.1 = 0
    · have hB := bget_few hf hy
      have hd := fun W => refGet_any (⟨(bget ((s.data.toList.drop p).take z) (z + 1 : Nat)).1.toArray⟩ : ByteArray) W (by
        have hB2 := hB
        unfold getB at hB2
        show (bget ((s.data.toList.drop p).take z) (z + 1 : Nat)).1.toArray.size ≤ _
        simp only [Bool.and_eq_true, decide_eq_true_eq] at hB2
        rw [List.size_toArray]
        unfold maxLen
        omega)
      rw [show (⟨(bget ((s.data.toList.drop p).take z) (z + 1 : Nat)).1.toArray⟩ : ByteArray).data.toList = (bget ((s.data.toList.drop p).take z) (z + 1 : Nat)).1 from rfl, getN_yes hB, hB] at hd
      unfold bgetV at hg
      rw [hy] at hg
      rw [pget_ok (by rw [psz_two]; omega) (by rw [psz_two, pnum_two, Nat.add_sub_cancel, if_pos hy])]
      exact prefGet_two z p s w (by omega) hs (by omega) _ _ _ hg hd
    · rw [pget_form (by rw [psz_two]; omega) (by rw [psz_two, pnum_two, Nat.add_sub_cancel, if_neg hy])]
      exact prefGet_bad z p s w (by omega) hs (by omega) _ _ _ hy hg

end Go.Proofs.Ytafcdokgjkfikaa
