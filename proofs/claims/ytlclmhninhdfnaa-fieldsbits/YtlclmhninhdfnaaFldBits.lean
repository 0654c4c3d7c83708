/-
  FieldsBits: any bits are the set that the document says: for every input, in every world.
-/
import Derived.Test.YtlclmhninhdfnaaFldAwake
import Derived.Test.YtlclmhninhdfnaaFldList
import Derived.Test.YtlclmhninhdfnaaFldRefs
namespace Go.Proofs.Ytlclmhninhdfnaa
open Go.RowKit

set_option maxHeartbeats 3200000 in
theorem bits_law (h l : Nat) (n : Int) (w : World) (b1 : h < M64) (b2 : l < M64) (b : n ≤ 9223372036854775807) :
    Calls Try.prog 3 #[.int .u64 (h : Int), .int .u64 (l : Int), .int .i64 n] w fun e w' => e = .returned (.bool true) ∧ Below w.heap.size w w' := by
  have C1 := Lib.hid (fun W => bits_any h l W)
  have C2 := Lib.hid (fun W => halves_any h l W)
  have C3 := Lib.hid (fun W => refList_any h l W b1 b2)
  have C4 := Lib.hid (fun W => list_any h l W b1 b2)
  have C5 := Lib.hid (fun W => has_any h l n W b1 b2)
  have C6 := Lib.hid (fun W => refHas_any h l n W b1 b2)
  have C7 := Lib.hid (fun W => len_any h l W b1 b2)
  have C8 := Lib.hid (fun W => next_any h l n W b1 b2 b)
  have C9 := Lib.hid (fun W => refNext_any h l n W b1 b2)
  have HL := Lib.hid (zi_length (listN h l 128))
  have HL2 := Lib.hid (listN_length_le h l 128)
  have hz : (zi (listN h l 128)).length ≤ 1000 := by rw [HL.out]; have := HL2.out; omega
  have HZ := Lib.hid hz; clear hz
  rw [← listN_len h l] at C7
  unfold setV at *
  generalize zi (listN h l 128) = zs at *
  generalize (listN h l 128).length = len at *
  generalize hasN h l n = r at *
  generalize nextN h l n = q at *
  go_enter Try.func3, Try.ntmps3
  go_wp2_with fail
  refine (C1.out _).mono ?_
  rintro e w1 ⟨rfl, hb1⟩
  have HO0 := Lib.hid (heap_alloc_new w1 (.cells #[.int .u64 (h : Int), .int .u64 (l : Int)] 24))
  have HB0 := Lib.hid (hbt hb1 (below_al w1 (.cells #[.int .u64 (h : Int), .int .u64 (l : Int)] 24)))
  clear hb1
  go_wp2_with fail
  refine (C2.out _).mono ?_
  rintro e w2 ⟨rfl, hb⟩
  have ho := obj_below HO0.out hb
  have HB2 := Lib.hid (hbt HB0.out hb)
  have HO2 := Lib.hid ho
  clear hb ho HB0 HO0
  generalize w1.heap.size = g at *
  go_wp2_with fail
  refine (C3.out _).mono ?_
  rintro e w3 ⟨A, ca, rfl, hA, hb⟩
  have ho := obj_below HO2.out hb
  have HB3 := Lib.hid (hbt HB2.out hb)
  have HO3 := Lib.hid ho
  have HA3 := Lib.hid hA
  obtain ⟨c0, c1, _, _⟩ := obj_cells ho
  clear hb ho HB2 HO2 hA
  go_wp2_with fail
  refine (C4.out _).mono ?_
  rintro e w4 ⟨B, cb, rfl, hB, hb⟩
  have HB4 := Lib.hid (hbt HB3.out hb)
  have HO4 := Lib.hid (obj_below HO3.out hb)
  have HA4 := Lib.hid (HA3.out.below hb)
  have HG4 := Lib.hid hB
  clear hb HB3 HO3 HA3 c0 c1 hB
  go_wp2_with fail
  refine (awake_any _).mono ?_
  rintro e w5 ⟨rfl, hb⟩
  have HB5 := Lib.hid (hbt HB4.out hb)
  have HO5 := Lib.hid (obj_below HO4.out hb)
  have HA5 := Lib.hid (HA4.out.below hb)
  have HG5 := Lib.hid (HG4.out.below hb)
  obtain ⟨c0, c1, _, _⟩ := obj_cells HO5.out
  clear hb HB4 HO4 HA4 HG4
  go_wp2_with fail
  refine (C5.out _).mono ?_
  rintro e w6 ⟨rfl, hb⟩
  have HB6 := Lib.hid (hbt HB5.out hb)
  have HO6 := Lib.hid (obj_below HO5.out hb)
  have HA6 := Lib.hid (HA5.out.below hb)
  have HG6 := Lib.hid (HG5.out.below hb)
  clear hb HB5 HO5 HA5 HG5 c0 c1
  go_wp2_with fail
  refine (C6.out _).mono ?_
  rintro e w7 ⟨rfl, rfl⟩
  obtain ⟨c0, c1, _, _⟩ := obj_cells HO6.out
  go_wp2_with fail
  refine (C7.out _).mono ?_
  rintro e w7 ⟨rfl, hb⟩
  have HB7 := Lib.hid (hbt HB6.out hb)
  have HO7 := Lib.hid (obj_below HO6.out hb)
  have HA7 := Lib.hid (HA6.out.below hb)
  have HG7 := Lib.hid (HG6.out.below hb)
  clear hb HB6 HO6 HA6 HG6 c0 c1
  obtain ⟨c0, c1, _, _⟩ := obj_cells HO7.out
  go_wp2_with fail
  refine (C8.out _).mono ?_
  rintro e w8 ⟨rfl, hb⟩
  have HB8 := Lib.hid (hbt HB7.out hb)
  have HA8 := Lib.hid (HA7.out.below hb)
  have HG8 := Lib.hid (HG7.out.below hb)
  clear hb HB7 HO7 HA7 HG7 c0 c1
  go_wp2_with fail
  refine (C9.out _).mono ?_
  rintro e w9 ⟨rfl, rfl⟩
  go_wp2_with fail
  rw [← HL.out]
  refine (same_any B A cb ca zs _ HG8.out HA8.out HZ.out).mono ?_
  rintro e w9 ⟨rfl, hb⟩
  have HB9 := Lib.hid (hbt HB8.out hb)
  clear hb
  go_wp2
  go_ret
  exact ⟨rfl, HB9.out⟩

theorem fieldsBits_walk (a b n : Int) (w : World) (h1 : 0 ≤ a) (h2 : a ≤ 18446744073709551615) (h3 : 0 ≤ b) (h4 : b ≤ 18446744073709551615) (_h5 : -9223372036854775808 ≤ n) (h6 : n ≤ 9223372036854775807) :
    Calls Try.prog 3 #[.int .u64 a, .int .u64 b, .int .i64 n] w fun e w' => e = .returned (.bool true) ∧ Below w.heap.size w w' := by
  obtain ⟨x, rfl⟩ := Int.eq_ofNat_of_zero_le h1
  obtain ⟨y, rfl⟩ := Int.eq_ofNat_of_zero_le h3
  exact bits_law x y n w (show x < 18446744073709551616 by omega) (show y < 18446744073709551616 by omega) h6

end Go.Proofs.Ytlclmhninhdfnaa
