/-
  The law BitmapPuts, walked: for every style and every two numbers of 64 bits it returns true, in every world.
-/
import Derived.Test.YtdnckiaeeikbhaaBmpAwake
import Derived.Test.YtdnckiaeeikbhaaBmpRefPut
import Derived.Test.YtdnckiaeeikbhaaFldLst
namespace Go.Proofs.Ytdnckiaeeikbhaa
open Go.RowKit

set_option maxHeartbeats 800000 in
theorem puts_no (st : Int) (h l : Nat) (w : World) (b1 : h < M64) (b2 : l < M64) (hp : ∀ W, Calls Try.prog 8 #[.int .i64 st, setV h l] W fun e w' => e = .returned (.tuple #[.string ⟨#[]⟩, .int .i64 1]) ∧ Below W.heap.size W w')
    (hr : ∀ A cap W, Ints W A (zi (listN h l 128)) → Calls Try.prog 10 #[.int .i64 st, .slice A (listN h l 128).length cap] W fun e w' => e = .returned (.tuple #[.string ⟨#[]⟩, .bool false]) ∧ Below W.heap.size W w') :
    Calls Try.prog 3 #[.int .i64 st, .int .u64 (h : Int), .int .u64 (l : Int)] w fun e w' => e = .returned (.bool true) ∧ Below w.heap.size w w' := by
  have HB := Lib.hid (bits_any h l)
  have HP := Lib.hid hp
  have HR := Lib.hid hr
  have HL := Lib.hid (fun W => refList_any h l W b1 b2)
  have HA := Lib.hid bwake_any
  unfold setV at *
  clear hp hr b1 b2
  generalize zi (listN h l 128) = zs at *
  generalize (listN h l 128).length = n at *
  go_enter Try.func3, Try.ntmps3
  go_wp2_with fail
  refine (HB.out _).mono ?_
  rintro e w1 ⟨rfl, hb1⟩
  go_wp2_with fail
  refine (HP.out _).mono ?_
  rintro e w2 ⟨rfl, hb2⟩
  have HB2 := Lib.hid (hbt hb1 hb2)
  clear hb1 hb2
  go_wp2_with fail
  refine (HL.out _).mono ?_
  rintro e w3 ⟨A, cap, rfl, hi, hb3⟩
  have HB3 := Lib.hid (hbt HB2.out hb3)
  have HI := Lib.hid hi
  clear hi hb3
  go_wp2_with fail
  refine (HR.out _ _ _ HI.out).mono ?_
  rintro e w4 ⟨rfl, hb4⟩
  have HB4 := Lib.hid (hbt HB3.out hb4)
  clear hb4
  go_wp2_with fail
  refine (HA.out _).mono ?_
  rintro e w5 ⟨rfl, hb5⟩
  have HB5 := Lib.hid (hbt HB4.out hb5)
  clear hb5
  go_wp2_with fail
  refine (HA.out _).mono ?_
  rintro e w6 ⟨rfl, hb6⟩
  have HB6 := Lib.hid (hbt HB5.out hb6)
  clear hb6
  go_wp2
  go_ret
  exact ⟨rfl, HB6.out⟩

set_option maxHeartbeats 800000 in
theorem puts_yes (st : Int) (h l : Nat) (t : ByteArray) (w : World) (b1 : h < M64) (b2 : l < M64) (hp : ∀ W, Calls Try.prog 8 #[.int .i64 st, setV h l] W fun e w' => e = .returned (.tuple #[.string t, .int .i64 0]) ∧ Below W.heap.size W w')
    (hr : ∀ A cap W, Ints W A (zi (listN h l 128)) → Calls Try.prog 10 #[.int .i64 st, .slice A (listN h l 128).length cap] W fun e w' => e = .returned (.tuple #[.string t, .bool true]) ∧ Below W.heap.size W w') :
    Calls Try.prog 3 #[.int .i64 st, .int .u64 (h : Int), .int .u64 (l : Int)] w fun e w' => e = .returned (.bool true) ∧ Below w.heap.size w w' := by
  have HB := Lib.hid (bits_any h l)
  have HP := Lib.hid hp
  have HR := Lib.hid hr
  have HL := Lib.hid (fun W => refList_any h l W b1 b2)
  have HA := Lib.hid bwake_any
  unfold setV at *
  clear hp hr b1 b2
  generalize zi (listN h l 128) = zs at *
  generalize (listN h l 128).length = n at *
  go_enter Try.func3, Try.ntmps3
  go_wp2_with fail
  refine (HB.out _).mono ?_
  rintro e w1 ⟨rfl, hb1⟩
  go_wp2_with fail
  refine (HP.out _).mono ?_
  rintro e w2 ⟨rfl, hb2⟩
  have HB2 := Lib.hid (hbt hb1 hb2)
  clear hb1 hb2
  go_wp2_with fail
  refine (HL.out _).mono ?_
  rintro e w3 ⟨A, cap, rfl, hi, hb3⟩
  have HB3 := Lib.hid (hbt HB2.out hb3)
  have HI := Lib.hid hi
  clear hi hb3
  go_wp2_with fail
  refine (HR.out _ _ _ HI.out).mono ?_
  rintro e w4 ⟨rfl, hb4⟩
  have HB4 := Lib.hid (hbt HB3.out hb4)
  clear hb4
  go_wp2_with fail
  refine (HA.out _).mono ?_
  rintro e w5 ⟨rfl, hb5⟩
  have HB5 := Lib.hid (hbt HB4.out hb5)
  clear hb5
  go_wp2
  go_ret
  exact ⟨rfl, HB5.out⟩

theorem bitmapPuts_walk (st a b : Int) (w : World) (_h1 : -9223372036854775808 ≤ st) (_h2 : st ≤ 9223372036854775807) (h3 : 0 ≤ a) (h4 : a ≤ 18446744073709551615) (h5 : 0 ≤ b) (h6 : b ≤ 18446744073709551615) :
    Calls Try.prog 3 #[.int .i64 st, .int .u64 a, .int .u64 b] w fun e w' => e = .returned (.bool true) ∧ Below w.heap.size w w' := by
  obtain ⟨h, rfl⟩ := Int.eq_ofNat_of_zero_le h3
  obtain ⟨l, rfl⟩ := Int.eq_ofNat_of_zero_le h5
  have b1 : h < M64 := by unfold M64; omega
  have b2 : l < M64 := by unfold M64; omega
  have hlen : (zi (listN h l 128)).length ≤ 900 := by rw [zi_length]; have := listN_length_le h l 128; omega
  by_cases hst : st = 1 ∨ st = 2
  · obtain ⟨k, rfl⟩ := Int.eq_ofNat_of_zero_le (show 0 ≤ st by omega)
    have hk : k = 1 ∨ k = 2 := by omega
    cases h1 : hasN h l 1
    · refine puts_yes _ h l ⟨(putL k h l).toArray⟩ w b1 b2 (fun W => put_ok k h l W hk b1 b2 h1) (fun A cap W hi => ?_)
      have := refPut_ok k A cap (zi (listN h l 128)) W hk hi hlen (by rw [inL_one]; exact h1)
      rw [zi_length, outL_put k b1 b2] at this
      exact this
    · refine puts_no _ h l w b1 b2 (fun W => put_one k h l W hk b1 b2 h1) (fun A cap W hi => ?_)
      have := refPut_one k A cap (zi (listN h l 128)) W hk hi hlen (by rw [inL_one]; exact h1)
      rw [zi_length] at this
      exact this
  · exact puts_no _ h l w b1 b2 (fun W => put_style st h l W (by omega)) (fun A cap W _ => refPut_style st A _ cap W (by omega) (by omega))

end Go.Proofs.Ytdnckiaeeikbhaa
