/-
  The laws of layer 3: each returns true, for every input, in every world.
-/
import Derived.Test.YtbgllhgkalachaaBcdRefPut
import Derived.Test.YtbgllhgkalachaaBcdRefGet
namespace Go.Proofs.Ytbgllhgkalachaa
open Go.RowKit

theorem bawk_put (w : World) : Calls Try.prog 9 #[.string ⟨#[49, 50, 51]⟩] w fun e w' => e = .returned (.tuple #[.string ⟨#[1, 35]⟩, .bool true]) ∧ Below w.heap.size w w' := by
  have h := bput_any ⟨#[49, 50, 51]⟩ w (by decide)
  rw [show bputS (ByteArray.mk #[49, 50, 51]).data.toList = ⟨#[1, 35]⟩ from by decide +kernel, show bputB (ByteArray.mk #[49, 50, 51]).data.toList = true from by decide +kernel] at h
  exact h
theorem bawk_get1 (w : World) : Calls Try.prog 11 #[.string ⟨#[1, 35, 120]⟩, .int .i64 3] w fun e w' => e = .returned (.tuple #[.string ⟨#[49, 50, 51]⟩, .int .i64 0, .int .i64 0]) ∧ Below w.heap.size w w' := by
  have h := bget_any ⟨#[1, 35, 120]⟩ 3 w
  rw [show bget (ByteArray.mk #[1, 35, 120]).data.toList 3 = ([49, 50, 51], 0, 0) from by decide +kernel] at h
  exact h
theorem bawk_get2 (w : World) : Calls Try.prog 11 #[.string ⟨#[17, 35]⟩, .int .i64 3] w fun e w' => e = .returned (.tuple #[.string ⟨#[]⟩, .int .i64 4, .int .i64 0]) ∧ Below w.heap.size w w' := by
  have h := bget_any ⟨#[17, 35]⟩ 3 w
  rw [show bget (ByteArray.mk #[17, 35]).data.toList 3 = ([], 4, 0) from by decide +kernel] at h
  exact h
theorem bawk_get3 (w : World) : Calls Try.prog 11 #[.string ⟨#[1, 47]⟩, .int .i64 3] w fun e w' => e = .returned (.tuple #[.string ⟨#[]⟩, .int .i64 3, .int .i64 1]) ∧ Below w.heap.size w w' := by
  have h := bget_any ⟨#[1, 47]⟩ 3 w
  rw [show bget (ByteArray.mk #[1, 47]).data.toList 3 = ([], 3, 1) from by decide +kernel] at h
  exact h

set_option maxHeartbeats 1000000 in
theorem bawake_any (w : World) : Calls Try.prog 8 #[] w fun e w' => e = .returned (.bool true) ∧ Below w.heap.size w w' := by
  go_enter Try.func8, Try.ntmps8
  go_wp2_with fail
  refine (bawk_put _).mono ?_
  rintro e w1 ⟨rfl, hb1⟩
  go_wp2_with fail
  refine (bawk_get1 _).mono ?_
  rintro e w2 ⟨rfl, hb2⟩
  go_wp2_with fail
  refine (bawk_get2 _).mono ?_
  rintro e w3 ⟨rfl, hb3⟩
  go_wp2_with fail
  refine (bawk_get3 _).mono ?_
  rintro e w4 ⟨rfl, hb4⟩
  go_wp2_with fail
  refine (size_nat 3 _ (by omega)).mono ?_
  rintro e w5 ⟨rfl, rfl⟩
  go_wp2_with fail
  refine (size_less (-1) _ (by omega)).mono ?_
  rintro e w5 ⟨rfl, rfl⟩
  go_wp2_with fail
  go_ret
  exact ⟨rfl, hbt (hbt (hbt hb1 hb2) hb3) hb4⟩

set_option maxHeartbeats 1000000 in
theorem bputs_law (s : ByteArray) (w : World) (hs : s.size ≤ maxLen) : Calls Try.prog 3 #[.string s] w fun e w' => e = .returned (.bool true) ∧ Below w.heap.size w w' := by
  have HP := Lib.hid (fun w => bput_any s w hs)
  have HR := Lib.hid (fun w => brefPut_any s w hs)
  unfold maxLen at hs
  generalize bputS s.data.toList = x at HP HR
  generalize bputB s.data.toList = y at HP HR
  by_cases h : 2000 < s.size
  · have t1 : decide ((2000 : Int) < (s.size : Int)) = true := by simp; omega
    go_enter Try.func3, Try.ntmps3
    go_wp2_with fail
    refine (bawake_any _).mono ?_
    rintro e w1 ⟨rfl, hb1⟩
    go_wp2_with fail
    refine (bawake_any _).mono ?_
    rintro e w2 ⟨rfl, hb2⟩
    go_wp2_with fail
    go_ret
    exact ⟨rfl, hbt hb1 hb2⟩
  · have t1 : decide ((2000 : Int) < (s.size : Int)) = false := by simp; omega
    go_enter Try.func3, Try.ntmps3
    go_wp2_with fail
    refine (bawake_any _).mono ?_
    rintro e w1 ⟨rfl, hb1⟩
    go_wp2_with fail
    refine (HP.out _).mono ?_
    rintro e w2 ⟨rfl, hb2⟩
    go_wp2_with fail
    refine (HR.out _).mono ?_
    rintro e w3 ⟨rfl, hb3⟩
    go_wp2_with fail
    go_ret
    exact ⟨by simp, hbt (hbt hb1 hb2) hb3⟩

set_option maxHeartbeats 1000000 in
theorem bgets_law (b : ByteArray) (n : Int) (w : World) (hs : b.size ≤ maxLen) (_ : -9223372036854775808 ≤ n) (_ : n ≤ 9223372036854775807) : Calls Try.prog 4 #[.string b, .int .i64 n] w fun e w' => e = .returned (.bool true) ∧ Below w.heap.size w w' := by
  have HG := Lib.hid (fun w => bget_any b n w)
  have HR := Lib.hid (fun w => brefGet_any b n w)
  unfold maxLen at hs
  unfold bgetV at HG HR
  generalize (⟨(bget b.data.toList n).1.toArray⟩ : ByteArray) = x at HG HR
  generalize (bget b.data.toList n).2.1 = y at HG HR
  generalize (bget b.data.toList n).2.2 = z at HG HR
  by_cases h : 2000 < b.size
  · have t1 : decide ((2000 : Int) < (b.size : Int)) = true := by simp; omega
    go_enter Try.func4, Try.ntmps4
    go_wp2_with fail
    refine (bawake_any _).mono ?_
    rintro e w1 ⟨rfl, hb1⟩
    go_wp2_with fail
    refine (bawake_any _).mono ?_
    rintro e w2 ⟨rfl, hb2⟩
    go_wp2_with fail
    go_ret
    exact ⟨rfl, hbt hb1 hb2⟩
  · have t1 : decide ((2000 : Int) < (b.size : Int)) = false := by simp; omega
    go_enter Try.func4, Try.ntmps4
    go_wp2_with fail
    refine (bawake_any _).mono ?_
    rintro e w1 ⟨rfl, hb1⟩
    go_wp2_with fail
    refine (HG.out _).mono ?_
    rintro e w2 ⟨rfl, hb2⟩
    go_wp2_with fail
    refine (HR.out _).mono ?_
    rintro e w3 ⟨rfl, hb3⟩
    go_wp2_with fail
    go_ret
    exact ⟨by simp, hbt (hbt hb1 hb2) hb3⟩

end Go.Proofs.Ytbgllhgkalachaa
