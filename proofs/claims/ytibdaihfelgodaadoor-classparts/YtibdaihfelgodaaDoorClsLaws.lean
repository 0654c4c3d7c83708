/-
  The laws of layer 4: each returns true, for every input, in every world in which the table of kinds stands as the program's text lays it.
-/
import Derived.Test.YtibdaihfelgodaaDoorClsFirst
namespace Go.Proofs.YtibdaihfelgodaaDoor
open Go.RowKit

theorem cawk_first1 (w : World) (hw : Kinds w) : Calls Tryd.prog 12 #[.int .i64 3, .string ⟨#[97, 49, 32, 98]⟩] w fun e w' => e = .returned (.int .i64 2) ∧ Below w.heap.size w w' := by
  have h := first_any 3 ⟨#[97, 49, 32, 98]⟩ w hw (by decide)
  rw [show fst 3 (ByteArray.mk #[97, 49, 32, 98]).data.toList = 2 from by decide +kernel] at h
  exact h
theorem cawk_first2 (w : World) (hw : Kinds w) : Calls Tryd.prog 12 #[.int .i64 7, .string ⟨#[97]⟩] w fun e w' => e = .returned (.int .i64 0) ∧ Below w.heap.size w w' := by
  have h := first_any 7 ⟨#[97]⟩ w hw (by decide)
  rw [show fst 7 (ByteArray.mk #[97]).data.toList = 0 from by decide +kernel] at h
  exact h
theorem cawk_wider1 (w : World) (hw : Kinds w) : Calls Tryd.prog 14 #[.int .i64 4, .int .i64 3] w fun e w' => e = .returned (.bool true) ∧ Below w.heap.size w w' := by
  have h := wider_any 4 3 w hw
  rw [show wid 4 3 = true from by decide +kernel] at h
  exact h
theorem cawk_wider2 (w : World) (hw : Kinds w) : Calls Tryd.prog 14 #[.int .i64 6, .int .i64 5] w fun e w' => e = .returned (.bool true) ∧ Below w.heap.size w w' := by
  have h := wider_any 6 5 w hw
  rw [show wid 6 5 = true from by decide +kernel] at h
  exact h
theorem cawk_wider3 (w : World) (hw : Kinds w) : Calls Tryd.prog 14 #[.int .i64 1, .int .i64 3] w fun e w' => e = .returned (.bool false) ∧ Below w.heap.size w w' := by
  have h := wider_any 1 3 w hw
  rw [show wid 1 3 = false from by decide +kernel] at h
  exact h

set_option maxHeartbeats 1000000 in
theorem cawake_any (w : World) (hw : Kinds w) : Calls Tryd.prog 8 #[] w fun e w' => e = .returned (.bool true) ∧ Below w.heap.size w w' := by
  have HW := Lib.hid hw; clear hw
  go_enter Tryd.func8, Tryd.ntmps8
  go_wp2_with fail
  refine (cawk_first1 _ HW.out).mono ?_
  rintro e w1 ⟨rfl, hb1⟩
  have HW1 := Lib.hid (HW.out.below hb1)
  go_wp2_with fail
  refine (cawk_wider1 _ HW1.out).mono ?_
  rintro e w2 ⟨rfl, hb2⟩
  have HW2 := Lib.hid (HW1.out.below hb2)
  go_wp2_with fail
  refine (cawk_wider2 _ HW2.out).mono ?_
  rintro e w3 ⟨rfl, hb3⟩
  have HW3 := Lib.hid (HW2.out.below hb3)
  go_wp2_with fail
  refine (cawk_wider3 _ HW3.out).mono ?_
  rintro e w4 ⟨rfl, hb4⟩
  have HW4 := Lib.hid (HW3.out.below hb4)
  go_wp2_with fail
  refine (known_yes (c := 6) (by decide) _).mono ?_
  rintro e w5 ⟨rfl, rfl⟩
  go_wp2_with fail
  refine (known_no (c := 0) (by decide) _).mono ?_
  rintro e w6 ⟨rfl, rfl⟩
  go_wp2_with fail
  refine (cawk_first2 _ HW4.out).mono ?_
  rintro e w7 ⟨rfl, hb7⟩
  go_wp2_with fail
  go_ret
  exact ⟨rfl, hbt (hbt (hbt (hbt hb1 hb2) hb3) hb4) hb7⟩

set_option maxHeartbeats 1000000 in
theorem ctells_law (c n : Int) (w : World) (hw : Kinds w) (_ : -9223372036854775808 ≤ c) (_ : c ≤ 9223372036854775807) (h0 : 0 ≤ n) (_ : n ≤ 255) : Calls Tryd.prog 3 #[.int .i64 c, .int .u8 n] w fun e w' => e = .returned (.bool true) ∧ Below w.heap.size w w' := by
  obtain ⟨n, rfl⟩ : ∃ m : Nat, n = (m : Int) := ⟨n.toNat, by omega⟩
  have HI := Lib.hid (fun w hw => is_any c n w hw)
  have HR := Lib.hid (fun w => refIs_any c n w)
  generalize isO c n = b at HI HR
  have HW := Lib.hid hw
  clear hw h0
  cases hc : isC c
  · have HK := Lib.hid (known_no hc)
    rw [isC_false] at hc
    rcases hc with hc | hc
    · have t1 : decide ((1 : Int) ≤ c) = false := by simp; omega
      clear hc
      go_enter Tryd.func3, Tryd.ntmps3
      go_wp2_with fail
      refine (cawake_any _ HW.out).mono ?_
      rintro e w1 ⟨rfl, hb1⟩
      have HW1 := Lib.hid (HW.out.below hb1)
      go_wp2_with fail
      refine (HI.out _ HW1.out).mono ?_
      rintro e w2 ⟨rfl, hb2⟩
      go_wp2_with fail
      refine (HR.out _).mono ?_
      rintro e w3 ⟨rfl, rfl⟩
      have tb : (b == b) = true := by simp
      go_wp2_with fail
      refine (HK.out _).mono ?_
      rintro e w4 ⟨rfl, rfl⟩
      go_wp2_with fail
      go_ret
      exact ⟨rfl, hbt hb1 hb2⟩
    · have t1 : decide ((1 : Int) ≤ c) = true := by simp; omega
      have t2 : decide (c ≤ (6 : Int)) = false := by simp; omega
      clear hc
      go_enter Tryd.func3, Tryd.ntmps3
      go_wp2_with fail
      refine (cawake_any _ HW.out).mono ?_
      rintro e w1 ⟨rfl, hb1⟩
      have HW1 := Lib.hid (HW.out.below hb1)
      go_wp2_with fail
      refine (HI.out _ HW1.out).mono ?_
      rintro e w2 ⟨rfl, hb2⟩
      go_wp2_with fail
      refine (HR.out _).mono ?_
      rintro e w3 ⟨rfl, rfl⟩
      have tb : (b == b) = true := by simp
      go_wp2_with fail
      refine (HK.out _).mono ?_
      rintro e w4 ⟨rfl, rfl⟩
      go_wp2_with fail
      go_ret
      exact ⟨rfl, hbt hb1 hb2⟩
  · have HK := Lib.hid (known_yes hc)
    rw [isC_iff] at hc
    have t1 : decide ((1 : Int) ≤ c) = true := by simp; omega
    have t2 : decide (c ≤ (6 : Int)) = true := by simp; omega
    clear hc
    go_enter Tryd.func3, Tryd.ntmps3
    go_wp2_with fail
    refine (cawake_any _ HW.out).mono ?_
    rintro e w1 ⟨rfl, hb1⟩
    have HW1 := Lib.hid (HW.out.below hb1)
    go_wp2_with fail
    refine (HI.out _ HW1.out).mono ?_
    rintro e w2 ⟨rfl, hb2⟩
    go_wp2_with fail
    refine (HR.out _).mono ?_
    rintro e w3 ⟨rfl, rfl⟩
    have tb : (b == b) = true := by simp
    go_wp2_with fail
    refine (HK.out _).mono ?_
    rintro e w4 ⟨rfl, rfl⟩
    go_wp2_with fail
    go_ret
    exact ⟨rfl, hbt hb1 hb2⟩

set_option maxHeartbeats 1000000 in
theorem cfirst_law (c : Int) (s : ByteArray) (w : World) (hw : Kinds w) (_ : -9223372036854775808 ≤ c) (_ : c ≤ 9223372036854775807) (hs : s.size ≤ maxLen) : Calls Tryd.prog 4 #[.int .i64 c, .string s] w fun e w' => e = .returned (.bool true) ∧ Below w.heap.size w w' := by
  have HF := Lib.hid (fun w hw => first_any c s w hw hs)
  have HR := Lib.hid (fun w => refFirst_any c s w hs)
  unfold maxLen at hs
  generalize fst c s.data.toList = f at HF HR
  have HW := Lib.hid hw
  clear hw
  by_cases h : 2000 < s.size
  · have t1 : decide ((2000 : Int) < (s.size : Int)) = true := by simp; omega
    go_enter Tryd.func4, Tryd.ntmps4
    go_wp2_with fail
    refine (cawake_any _ HW.out).mono ?_
    rintro e w1 ⟨rfl, hb1⟩
    have HW1 := Lib.hid (HW.out.below hb1)
    go_wp2_with fail
    refine (cawake_any _ HW1.out).mono ?_
    rintro e w2 ⟨rfl, hb2⟩
    go_wp2_with fail
    go_ret
    exact ⟨rfl, hbt hb1 hb2⟩
  · have t1 : decide ((2000 : Int) < (s.size : Int)) = false := by simp; omega
    go_enter Tryd.func4, Tryd.ntmps4
    go_wp2_with fail
    refine (cawake_any _ HW.out).mono ?_
    rintro e w1 ⟨rfl, hb1⟩
    have HW1 := Lib.hid (HW.out.below hb1)
    go_wp2_with fail
    refine (HF.out _ HW1.out).mono ?_
    rintro e w2 ⟨rfl, hb2⟩
    go_wp2_with fail
    refine (HR.out _).mono ?_
    rintro e w3 ⟨rfl, rfl⟩
    go_wp2_with fail
    go_ret
    exact ⟨by simp, hbt hb1 hb2⟩

set_option maxHeartbeats 1000000 in
theorem cwider_law (a b : Int) (w : World) (hw : Kinds w) (_ : -9223372036854775808 ≤ a) (_ : a ≤ 9223372036854775807) (_ : -9223372036854775808 ≤ b) (_ : b ≤ 9223372036854775807) : Calls Tryd.prog 5 #[.int .i64 a, .int .i64 b] w fun e w' => e = .returned (.bool true) ∧ Below w.heap.size w w' := by
  have HF := Lib.hid (fun w hw => wider_any a b w hw)
  have HR := Lib.hid (fun w => refWider_any a b w)
  generalize wid a b = f at HF HR
  have HW := Lib.hid hw
  clear hw
  go_enter Tryd.func5, Tryd.ntmps5
  go_wp2_with fail
  refine (cawake_any _ HW.out).mono ?_
  rintro e w1 ⟨rfl, hb1⟩
  have HW1 := Lib.hid (HW.out.below hb1)
  go_wp2_with fail
  refine (HF.out _ HW1.out).mono ?_
  rintro e w2 ⟨rfl, hb2⟩
  go_wp2_with fail
  refine (HR.out _).mono ?_
  rintro e w3 ⟨rfl, rfl⟩
  go_wp2_with fail
  go_ret
  exact ⟨by simp, hbt hb1 hb2⟩

end Go.Proofs.YtibdaihfelgodaaDoor
