/-
  The answers that the document fixes: in every world.
-/
import Derived.Test.YtlclmhninhdfnaaFldOf
import Derived.Test.YtlclmhninhdfnaaFldNext
import Derived.Test.YtlclmhninhdfnaaFldOnes
namespace Go.Proofs.Ytlclmhninhdfnaa
open Go.RowKit

theorem ints_two (w : World) (a b : Int) (t : TypeId) : Ints (w.alloc (.cells #[.int .i64 a, .int .i64 b] t)) (some ⟨w.heap.size, 0, none⟩) [a, b] := by
  intro i hi
  refine ⟨_, rfl, ?_⟩
  rw [show (⟨w.heap.size, 0, none⟩ : Addr).add i = ⟨w.heap.size, i, none⟩ from by rw [Addr.add_lit, Nat.zero_add], cell_of_row _ _ i _ t _ (heap_alloc_new w _)]
  match i, hi with
  | 0, _ => rfl
  | 1, _ => rfl
theorem ints_one (w : World) (a : Int) (t : TypeId) : Ints (w.alloc (.cells #[.int .i64 a] t)) (some ⟨w.heap.size, 0, none⟩) [a] := by
  intro i hi
  refine ⟨_, rfl, ?_⟩
  rw [show (⟨w.heap.size, 0, none⟩ : Addr).add i = ⟨w.heap.size, i, none⟩ from by rw [Addr.add_lit, Nat.zero_add], cell_of_row _ _ i _ t _ (heap_alloc_new w _)]
  match i, hi with
  | 0, _ => rfl

theorem of_1_64 (w : World) : Calls Try.prog 19 #[.slice (some ⟨w.heap.size, 0, none⟩) 2 2] (w.alloc (.cells #[.int .i64 1, .int .i64 64] 3)) fun e w' => e = .returned (.agg #[.int .u64 9223372036854775809, .int .u64 0]) ∧ Below w.heap.size w w' := by
  refine (of_any _ 2 [1, 64] _ (ints_two w 1 64 3) (by simp)).mono fun e w' ⟨he, hb⟩ => ⟨?_, hbt (below_al _ _) hb⟩
  rw [he, show ofH [1, 64] = 9223372036854775809 by decide +kernel, show ofL [1, 64] = 0 by decide +kernel]
  rfl
theorem of_3_65 (w : World) : Calls Try.prog 19 #[.slice (some ⟨w.heap.size, 0, none⟩) 2 2] (w.alloc (.cells #[.int .i64 3, .int .i64 65] 3)) fun e w' => e = .returned (.agg #[.int .u64 2305843009213693952, .int .u64 9223372036854775808]) ∧ Below w.heap.size w w' := by
  refine (of_any _ 2 [3, 65] _ (ints_two w 3 65 3) (by simp)).mono fun e w' ⟨he, hb⟩ => ⟨?_, hbt (below_al _ _) hb⟩
  rw [he, show ofH [3, 65] = 2305843009213693952 by decide +kernel, show ofL [3, 65] = 9223372036854775808 by decide +kernel]
  rfl
theorem of_0_129 (w : World) : Calls Try.prog 19 #[.slice (some ⟨w.heap.size, 0, none⟩) 2 2] (w.alloc (.cells #[.int .i64 0, .int .i64 129] 3)) fun e w' => e = .returned (.agg #[.int .u64 0, .int .u64 0]) ∧ Below w.heap.size w w' := by
  refine (of_any _ 2 [0, 129] _ (ints_two w 0 129 3) (by simp)).mono fun e w' ⟨he, hb⟩ => ⟨?_, hbt (below_al _ _) hb⟩
  rw [he, show ofH [0, 129] = 0 by decide +kernel, show ofL [0, 129] = 0 by decide +kernel]
  rfl
theorem of_65 (w : World) : Calls Try.prog 19 #[.slice (some ⟨w.heap.size, 0, none⟩) 1 1] (w.alloc (.cells #[.int .i64 65] 3)) fun e w' => e = .returned (.agg #[.int .u64 0, .int .u64 9223372036854775808]) ∧ Below w.heap.size w w' := by
  refine (of_any _ 1 [65] _ (ints_one w 65 3) (by simp)).mono fun e w' ⟨he, hb⟩ => ⟨?_, hbt (below_al _ _) hb⟩
  rw [he, show ofH [65] = 0 by decide +kernel, show ofL [65] = 9223372036854775808 by decide +kernel]
  rfl
theorem aw_halves (w : World) : Calls Try.prog 9 #[.agg #[.int .u64 9223372036854775809, .int .u64 0]] w fun e w' => e = .returned (.tuple #[.int .u64 9223372036854775809, .int .u64 0]) ∧ Below w.heap.size w w' := halves_any 9223372036854775809 0 w
abbrev awV : Value := .agg #[.int .u64 2305843009213693952, .int .u64 9223372036854775808]
theorem aw_next3 (w : World) : Calls Try.prog 16 #[awV, .int .i64 3] w fun e w' => e = .returned (.int .i64 65) ∧ Below w.heap.size w w' := by
  have := next_any 2305843009213693952 9223372036854775808 3 w (by decide) (by decide) (by decide)
  rw [show nextN 2305843009213693952 9223372036854775808 3 = 65 by decide +kernel] at this
  exact this
theorem aw_next65 (w : World) : Calls Try.prog 16 #[awV, .int .i64 65] w fun e w' => e = .returned (.int .i64 0) ∧ Below w.heap.size w w' := by
  have := next_any 2305843009213693952 9223372036854775808 65 w (by decide) (by decide) (by decide)
  rw [show nextN 2305843009213693952 9223372036854775808 65 = 0 by decide +kernel] at this
  exact this
theorem aw_has65 (w : World) : Calls Try.prog 13 #[awV, .int .i64 65] w fun e w' => e = .returned (.bool true) ∧ Below w.heap.size w w' := by
  have := has_any 2305843009213693952 9223372036854775808 65 w (by decide) (by decide)
  rw [show hasN 2305843009213693952 9223372036854775808 65 = true by decide +kernel] at this
  exact this
theorem aw_has4 (w : World) : Calls Try.prog 13 #[awV, .int .i64 4] w fun e w' => e = .returned (.bool false) ∧ Below w.heap.size w w' := by
  have := has_any 2305843009213693952 9223372036854775808 4 w (by decide) (by decide)
  rw [show hasN 2305843009213693952 9223372036854775808 4 = false by decide +kernel] at this
  exact this
theorem aw_len (w : World) : Calls Try.prog 15 #[awV] w fun e w' => e = .returned (.int .i64 2) ∧ Below w.heap.size w w' := by
  have := len_any 2305843009213693952 9223372036854775808 w (by decide) (by decide)
  rw [show Lib.onesCount 2305843009213693952 + Lib.onesCount 9223372036854775808 = 2 by decide +kernel] at this
  exact this
theorem aw_without (w : World) : Calls Try.prog 22 #[awV, .int .i64 3] w fun e w' => e = .returned (.agg #[.int .u64 0, .int .u64 9223372036854775808]) ∧ Below w.heap.size w w' := by
  have := without_any 2305843009213693952 9223372036854775808 3 w (by decide) (by decide)
  rw [show 2305843009213693952 &&& (fullN - aH 3) = 0 by decide +kernel, show 9223372036854775808 &&& (fullN - aL 3) = 9223372036854775808 by decide +kernel] at this
  exact this

set_option maxHeartbeats 1600000 in
theorem awake_any (w : World) : Calls Try.prog 12 #[] w fun e w' => e = .returned (.bool true) ∧ Below w.heap.size w w' := by
  go_enter Try.func12, Try.ntmps12
  go_wp2_with fail
  refine (of_1_64 w).mono ?_
  rintro e w1 ⟨rfl, hb1⟩
  go_wp2_with fail
  refine (aw_halves w1).mono ?_
  rintro e w2 ⟨rfl, hb2⟩
  have hb := hbt hb1 hb2
  clear hb1 hb2
  go_wp2_with fail
  refine (of_3_65 w2).mono ?_
  rintro e w3 ⟨rfl, hb3⟩
  replace hb := hbt (hbt hb hb3) (below_al w3 (.cells #[.int .u64 2305843009213693952, .int .u64 9223372036854775808] 24))
  have ho := heap_alloc_new w3 (.cells #[.int .u64 2305843009213693952, .int .u64 9223372036854775808] 24)
  have HB := Lib.hid hb
  have HO := Lib.hid ho
  clear hb3 hb ho
  go_wp2_with fail
  refine (aw_next3 _).mono ?_
  rintro e w4 ⟨rfl, hb4⟩
  have ho := obj_below HO.out hb4
  have HB4 := Lib.hid (hbt HB.out hb4)
  have HO4 := Lib.hid ho
  obtain ⟨c0, c1, _, _⟩ := obj_cells ho
  clear hb4 ho HB HO
  generalize w3.heap.size = g at *
  go_wp2_with fail
  refine (aw_next65 _).mono ?_
  rintro e w5 ⟨rfl, hb⟩
  have ho := obj_below HO4.out hb
  have HB5 := Lib.hid (hbt HB4.out hb)
  have HO5 := Lib.hid ho
  clear c0 c1
  obtain ⟨c0, c1, _, _⟩ := obj_cells ho
  clear hb ho HB4 HO4
  go_wp2_with fail
  refine (of_0_129 _).mono ?_
  rintro e w6 ⟨rfl, hb⟩
  have ho := obj_below HO5.out hb
  have HB6 := Lib.hid (hbt HB5.out hb)
  have HO6 := Lib.hid ho
  clear c0 c1
  obtain ⟨c0, c1, _, _⟩ := obj_cells ho
  clear hb ho HB5 HO5
  go_wp2_with fail
  refine (aw_has65 _).mono ?_
  rintro e w7 ⟨rfl, hb⟩
  have ho := obj_below HO6.out hb
  have HB7 := Lib.hid (hbt HB6.out hb)
  have HO7 := Lib.hid ho
  clear c0 c1
  obtain ⟨c0, c1, _, _⟩ := obj_cells ho
  clear hb ho HB6 HO6
  go_wp2_with fail
  refine (aw_has4 _).mono ?_
  rintro e w8 ⟨rfl, hb⟩
  have ho := obj_below HO7.out hb
  have HB8 := Lib.hid (hbt HB7.out hb)
  have HO8 := Lib.hid ho
  clear c0 c1
  obtain ⟨c0, c1, _, _⟩ := obj_cells ho
  clear hb ho HB7 HO7
  go_wp2_with fail
  refine (aw_len _).mono ?_
  rintro e w9 ⟨rfl, hb⟩
  have ho := obj_below HO8.out hb
  have HB9 := Lib.hid (hbt HB8.out hb)
  have HO9 := Lib.hid ho
  clear c0 c1
  obtain ⟨c0, c1, _, _⟩ := obj_cells ho
  clear hb ho HB8 HO8
  go_wp2_with fail
  refine (aw_without _).mono ?_
  rintro e w10 ⟨rfl, hb⟩
  have ho := obj_below HO9.out hb
  have HB10 := Lib.hid (hbt HB9.out hb)
  have HO10 := Lib.hid ho
  clear c0 c1
  obtain ⟨c0, c1, _, _⟩ := obj_cells ho
  clear hb ho HB9 HO9
  go_wp2_with fail
  refine (of_65 _).mono ?_
  rintro e w11 ⟨rfl, hb⟩
  have ho := obj_below HO10.out hb
  have HB11 := Lib.hid (hbt HB10.out hb)
  have HO11 := Lib.hid ho
  clear c0 c1
  obtain ⟨c0, c1, _, _⟩ := obj_cells ho
  clear hb ho HB10 HO10
  go_wp2
  go_ret
  exact ⟨rfl, HB11.out⟩

end Go.Proofs.Ytlclmhninhdfnaa
