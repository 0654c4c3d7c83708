/-
  What Put and the document's Put answer: for every style, form and number, in every world.
-/
import Derived.Test.YtafcdokgjkfikaaPfxSmall
import Derived.Test.YtafcdokgjkfikaaDigPut
import Derived.Test.YtafcdokgjkfikaaDigRefPut
import Derived.Test.YtafcdokgjkfikaaBcdRefPut
namespace Go.Proofs.Ytafcdokgjkfikaa
open Go.RowKit

theorem pput_arg (st f n : Int) (w : World) (h : (st ≠ 1 ∧ st ≠ 2) ∨ (f ≠ 2 ∧ f ≠ 3)) :
    Calls Try.prog 8 #[.int .i64 st, .int .i64 f, .int .i64 n] w fun e w' => e = .returned (.tuple #[.string ⟨#[]⟩, .int .i64 1]) ∧ Below w.heap.size w w' := by
  have HK := Lib.hid (pknown_no st f h)
  clear h
  go_enter Try.func8, Try.ntmps8
  go_wp2_with fail
  refine (HK.out _).mono ?_
  rintro e w1 ⟨rfl, rfl⟩
  go_wp2
  go_ret2
  exact ⟨rfl, Below.refl _ _⟩

theorem dput_range (f n : Int) (hf : f = 2 ∨ f = 3) (h : n < 0 ∨ (10 ^ f.toNat : Int) ≤ n) : putB n f = false := by
  refine putB_no ?_
  by_cases h0 : n < 0
  · exact Or.inl h0
  · refine Or.inr (Or.inr (Or.inr ⟨by omega, ?_⟩))
    rcases hf with rfl | rfl
    · have : (100 : Int) ≤ n := by simpa [h0] using h
      show 0 < n.toNat / 100
      omega
    · have : (1000 : Int) ≤ n := by simpa [h0] using h
      show 0 < n.toNat / 1000
      omega
theorem dput_in (f n : Nat) (hf : f = 2 ∨ f = 3) (h : n < 10 ^ f) : putB (n : Int) (f : Int) = true := by
  refine putB_mk (by omega) (by omega) (by omega) ?_
  exact Nat.div_eq_of_lt (by simpa using h)

theorem pput_range (st f n : Int) (w : World) (hs : st = 1 ∨ st = 2) (hf : f = 2 ∨ f = 3) (hn : n ≤ 9223372036854775807) (h : n < 0 ∨ (10 ^ f.toNat : Int) ≤ n) :
    Calls Try.prog 8 #[.int .i64 st, .int .i64 f, .int .i64 n] w fun e w' => e = .returned (.tuple #[.string ⟨#[]⟩, .int .i64 5]) ∧ Below w.heap.size w w' := by
  have HK := Lib.hid (pknown_yes st f hs hf)
  have HC := Lib.hid (count_yes f hf)
  have HP := Lib.hid (fun W => put_any n f W hn)
  rw [putS_no (dput_range f n hf h), dput_range f n hf h] at HP
  clear h hf hs hn
  go_enter Try.func8, Try.ntmps8
  go_wp2_with fail
  refine (HK.out _).mono ?_
  rintro e w1 ⟨rfl, rfl⟩
  go_wp2_with fail
  refine (HC.out _).mono ?_
  rintro e w1 ⟨rfl, rfl⟩
  go_wp2_with fail
  refine (HP.out _).mono ?_
  rintro e w1 ⟨rfl, hb⟩
  go_wp2
  go_ret2
  exact ⟨rfl, hb⟩

theorem pput_ok (st f n : Nat) (w : World) (hs : st = 1 ∨ st = 2) (hf : f = 2 ∨ f = 3) (h : n < 10 ^ f) :
    Calls Try.prog 8 #[.int .i64 (st : Int), .int .i64 (f : Int), .int .i64 (n : Int)] w fun e w' => e = .returned (.tuple #[.string ⟨(pputL st f n).toArray⟩, .int .i64 0]) ∧ Below w.heap.size w w' := by
  have hp := dput_in f n hf h
  have h3 : n < 1000 := by rcases hf with rfl | rfl <;> omega
  have HK := Lib.hid (pknown_yes (st : Int) (f : Int) (by omega) (by omega))
  have HC := Lib.hid (count_yes (f : Int) (by omega))
  have HP := Lib.hid (fun W => put_any (n : Int) (f : Int) W (by omega))
  rw [putS_yes hp, hp, Int.toNat_natCast, Int.toNat_natCast] at HP
  have hq : (⟨(putL n f).toArray⟩ : ByteArray).data.toList = putL n f := rfl
  rcases hs with rfl | rfl
  · change Hid (∀ W, Calls _ _ #[.int .i64 1, .int .i64 (f : Int)] W _) at HK
    show Calls Try.prog 8 #[.int .i64 1, .int .i64 (f : Int), .int .i64 (n : Int)] w _
    show Calls _ _ _ _ fun e w' => e = .returned (.tuple #[.string ⟨(putL n f).toArray⟩, .int .i64 0]) ∧ _
    generalize (⟨(putL n f).toArray⟩ : ByteArray) = x at *
    clear h hf hp hq h3
    go_enter Try.func8, Try.ntmps8
    go_wp2_with fail
    refine (HK.out _).mono ?_
    rintro e w1 ⟨rfl, rfl⟩
    go_wp2_with fail
    refine (HC.out _).mono ?_
    rintro e w1 ⟨rfl, rfl⟩
    go_wp2_with fail
    refine (HP.out _).mono ?_
    rintro e w1 ⟨rfl, hb⟩
    go_wp2
    go_ret2
    exact ⟨rfl, hb⟩
  · change Hid (∀ W, Calls _ _ #[.int .i64 2, .int .i64 (f : Int)] W _) at HK
    show Calls Try.prog 8 #[.int .i64 2, .int .i64 (f : Int), .int .i64 (n : Int)] w _
    show Calls _ _ _ _ fun e w' => e = .returned (.tuple #[.string ⟨(packL (putL n f)).toArray⟩, .int .i64 0]) ∧ _
    have hy : bputB (putL n f) = true := bputB_yes (by rw [putL_length]; omega) (putL_all n f)
    have HB := Lib.hid (fun W => bput_any (⟨(putL n f).toArray⟩ : ByteArray) W (by show (putL n f).toArray.size ≤ _; rw [List.size_toArray, putL_length]; unfold maxLen; omega))
    rw [hq, bputS_yes hy, hy] at HB
    generalize (⟨(packL (putL n f)).toArray⟩ : ByteArray) = y at *
    generalize (⟨(putL n f).toArray⟩ : ByteArray) = x at *
    clear h hf hp hq h3 hy
    go_enter Try.func8, Try.ntmps8
    go_wp2_with fail
    refine (HK.out _).mono ?_
    rintro e w1 ⟨rfl, rfl⟩
    go_wp2_with fail
    refine (HC.out _).mono ?_
    rintro e w1 ⟨rfl, rfl⟩
    go_wp2_with fail
    refine (HP.out _).mono ?_
    rintro e w1 ⟨rfl, hb⟩
    go_wp2_with fail
    refine (HB.out _).mono ?_
    rintro e w2 ⟨rfl, hb2⟩
    go_wp2
    go_ret2
    exact ⟨rfl, hbt hb hb2⟩

theorem prefPut_arg (st f n : Int) (w : World) (h : (st ≠ 1 ∧ st ≠ 2) ∨ (f ≠ 2 ∧ f ≠ 3)) :
    Calls Try.prog 9 #[.int .i64 st, .int .i64 f, .int .i64 n] w fun e w' => e = .returned (.tuple #[.string ⟨#[]⟩, .int .i64 1]) ∧ Below w.heap.size w w' := by
  by_cases hs : st = 1 ∨ st = 2
  · have HC := Lib.hid (width_no f (by omega))
    clear h
    rcases hs with rfl | rfl
    · go_enter Try.func9, Try.ntmps9
      go_wp2_with fail
      refine (HC.out _).mono ?_
      rintro e w1 ⟨rfl, rfl⟩
      go_wp2
      go_ret2
      exact ⟨rfl, Below.refl _ _⟩
    · go_enter Try.func9, Try.ntmps9
      go_wp2_with fail
      refine (HC.out _).mono ?_
      rintro e w1 ⟨rfl, rfl⟩
      go_wp2
      go_ret2
      exact ⟨rfl, Below.refl _ _⟩
  · have h1 : (st != 1) = true := by simp; omega
    have h2 : (st != 2) = true := by simp; omega
    clear h hs
    go_enter Try.func9, Try.ntmps9
    go_wp2
    go_ret2
    exact ⟨rfl, Below.refl _ _⟩

theorem prefPut_range (st f n : Int) (w : World) (hs : st = 1 ∨ st = 2) (hf : f = 2 ∨ f = 3) (hn : n ≤ 9223372036854775807) (h : n < 0 ∨ (10 ^ f.toNat : Int) ≤ n) :
    Calls Try.prog 9 #[.int .i64 st, .int .i64 f, .int .i64 n] w fun e w' => e = .returned (.tuple #[.string ⟨#[]⟩, .int .i64 5]) ∧ Below w.heap.size w w' := by
  have HC := Lib.hid (width_yes f hf)
  have HP := Lib.hid (fun W => refPut_any n f W hn)
  rw [putS_no (dput_range f n hf h), dput_range f n hf h] at HP
  have h0 : (f == 0) = false := by simp; omega
  clear h hf hn
  rcases hs with rfl | rfl
  · go_enter Try.func9, Try.ntmps9
    go_wp2_with fail
    refine (HC.out _).mono ?_
    rintro e w1 ⟨rfl, rfl⟩
    go_wp2_with fail
    refine (HP.out _).mono ?_
    rintro e w1 ⟨rfl, hb⟩
    go_wp2
    go_ret2
    exact ⟨rfl, hb⟩
  · go_enter Try.func9, Try.ntmps9
    go_wp2_with fail
    refine (HC.out _).mono ?_
    rintro e w1 ⟨rfl, rfl⟩
    go_wp2_with fail
    refine (HP.out _).mono ?_
    rintro e w1 ⟨rfl, hb⟩
    go_wp2
    go_ret2
    exact ⟨rfl, hb⟩

theorem prefPut_ok (st f n : Nat) (w : World) (hs : st = 1 ∨ st = 2) (hf : f = 2 ∨ f = 3) (h : n < 10 ^ f) :
    Calls Try.prog 9 #[.int .i64 (st : Int), .int .i64 (f : Int), .int .i64 (n : Int)] w fun e w' => e = .returned (.tuple #[.string ⟨(pputL st f n).toArray⟩, .int .i64 0]) ∧ Below w.heap.size w w' := by
  have hp := dput_in f n hf h
  have h3 : n < 1000 := by rcases hf with rfl | rfl <;> omega
  have HC := Lib.hid (width_yes (f : Int) (by omega))
  have HP := Lib.hid (fun W => refPut_any (n : Int) (f : Int) W (by omega))
  rw [putS_yes hp, hp, Int.toNat_natCast, Int.toNat_natCast] at HP
  have hq : (⟨(putL n f).toArray⟩ : ByteArray).data.toList = putL n f := rfl
  have h0 : ((f : Int) == 0) = false := by simp; omega
  rcases hs with rfl | rfl
  · show Calls Try.prog 9 #[.int .i64 1, .int .i64 (f : Int), .int .i64 (n : Int)] w _
    show Calls _ _ _ _ fun e w' => e = .returned (.tuple #[.string ⟨(putL n f).toArray⟩, .int .i64 0]) ∧ _
    generalize (⟨(putL n f).toArray⟩ : ByteArray) = x at *
    clear h hf hp hq h3
    go_enter Try.func9, Try.ntmps9
    go_wp2_with fail
    refine (HC.out _).mono ?_
    rintro e w1 ⟨rfl, rfl⟩
    go_wp2_with fail
    refine (HP.out _).mono ?_
    rintro e w1 ⟨rfl, hb⟩
    go_wp2
    go_ret2
    exact ⟨rfl, hb⟩
  · show Calls Try.prog 9 #[.int .i64 2, .int .i64 (f : Int), .int .i64 (n : Int)] w _
    show Calls _ _ _ _ fun e w' => e = .returned (.tuple #[.string ⟨(packL (putL n f)).toArray⟩, .int .i64 0]) ∧ _
    have hy : bputB (putL n f) = true := bputB_yes (by rw [putL_length]; omega) (putL_all n f)
    have HB := Lib.hid (fun W => brefPut_any (⟨(putL n f).toArray⟩ : ByteArray) W (by show (putL n f).toArray.size ≤ _; rw [List.size_toArray, putL_length]; unfold maxLen; omega))
    rw [hq, bputS_yes hy, hy] at HB
    generalize (⟨(packL (putL n f)).toArray⟩ : ByteArray) = y at *
    generalize (⟨(putL n f).toArray⟩ : ByteArray) = x at *
    clear h hf hp hq h3 hy
    go_enter Try.func9, Try.ntmps9
    go_wp2_with fail
    refine (HC.out _).mono ?_
    rintro e w1 ⟨rfl, rfl⟩
    go_wp2_with fail
    refine (HP.out _).mono ?_
    rintro e w1 ⟨rfl, hb⟩
    go_wp2_with fail
    refine (HB.out _).mono ?_
    rintro e w2 ⟨rfl, hb2⟩
    go_wp2
    go_ret2
    exact ⟨rfl, hbt hb hb2⟩

end Go.Proofs.Ytafcdokgjkfikaa
