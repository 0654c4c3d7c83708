/-
  The law BitmapBack, walked: for every style, every two numbers of 64 bits and every text it returns true, in every world.
-/
import Derived.Test.YtdnckiaeeikbhaaBmpAwake
import Derived.Test.YtdnckiaeeikbhaaBmpTurn
namespace Go.Proofs.Ytdnckiaeeikbhaa
open Go.RowKit

set_option maxHeartbeats 800000 in
theorem back_err (st : Int) (h l : Nat) (s : ByteArray) (w : World) (hm : s.size ≤ maxLen) (hp : ∀ W, Calls Try.prog 8 #[.int .i64 st, setV h l] W fun e w' => e = .returned (.tuple #[.string ⟨#[]⟩, .int .i64 1]) ∧ Below W.heap.size W w') :
    Calls Try.prog 5 #[.int .i64 st, .agg #[.int .u64 (h : Int), .int .u64 (l : Int)], .string s] w fun e w' => e = .returned (.bool true) ∧ Below w.heap.size w w' := by
  have HA := Lib.hid bwake_any
  have HP := Lib.hid hp
  have HB := Lib.hid (bits_any h l)
  have HM := Lib.hid hm
  unfold setV at *
  clear hp hm
  go_enter Try.func5, Try.ntmps5
  go_wp2_with fail
  refine (HB.out _).mono ?_
  rintro e w1 ⟨rfl, hb1⟩
  have HB1 := Lib.hid (hbt (hbt (below_al _ _) hb1) (below_al w1 (setO h l)))
  clear hb1
  go_wp2_with fail
  refine (HP.out _).mono ?_
  rintro e w2 ⟨rfl, hb2⟩
  have HB2 := Lib.hid (hbt HB1.out hb2)
  clear hb2
  go_wp2_with fail
  refine (HA.out _).mono ?_
  rintro e w3 ⟨rfl, hb3⟩
  have HB3 := Lib.hid (hbt HB2.out hb3)
  clear hb3
  go_wp2_with fail
  refine (HA.out _).mono ?_
  rintro e w4 ⟨rfl, hb4⟩
  have HB4 := Lib.hid (hbt HB3.out hb4)
  clear hb4
  go_wp2
  go_ret
  exact ⟨rfl, HB4.out⟩

set_option maxHeartbeats 800000 in
theorem back_far (st : Int) (h l : Nat) (s t : ByteArray) (w : World) (hm : s.size ≤ maxLen) (hs : 100 < s.size) (hp : ∀ W, Calls Try.prog 8 #[.int .i64 st, setV h l] W fun e w' => e = .returned (.tuple #[.string t, .int .i64 0]) ∧ Below W.heap.size W w') :
    Calls Try.prog 5 #[.int .i64 st, .agg #[.int .u64 (h : Int), .int .u64 (l : Int)], .string s] w fun e w' => e = .returned (.bool true) ∧ Below w.heap.size w w' := by
  have HA := Lib.hid bwake_any
  have HP := Lib.hid hp
  have HB := Lib.hid (bits_any h l)
  have HM := Lib.hid hm
  have hd : decide ((100 : Int) < (s.size : Int)) = true := by simp; omega
  unfold setV at *
  clear hp hm hs
  go_enter Try.func5, Try.ntmps5
  go_wp2_with fail
  refine (HB.out _).mono ?_
  rintro e w1 ⟨rfl, hb1⟩
  have HB1 := Lib.hid (hbt (hbt (below_al _ _) hb1) (below_al w1 (setO h l)))
  clear hb1
  go_wp2_with fail
  refine (HP.out _).mono ?_
  rintro e w2 ⟨rfl, hb2⟩
  have HB2 := Lib.hid (hbt HB1.out hb2)
  clear hb2
  go_wp2_with fail
  refine (HA.out _).mono ?_
  rintro e w3 ⟨rfl, hb3⟩
  have HB3 := Lib.hid (hbt HB2.out hb3)
  clear hb3
  go_wp2_with fail
  refine (HA.out _).mono ?_
  rintro e w4 ⟨rfl, hb4⟩
  have HB4 := Lib.hid (hbt HB3.out hb4)
  clear hb4
  go_wp2
  go_ret
  exact ⟨rfl, HB4.out⟩

set_option maxHeartbeats 1600000 in
theorem back_ok (st : Int) (h l : Nat) (s t : ByteArray) (w : World) (hs : s.size ≤ 100) (ht : t.size ≤ 32) (hp : ∀ W, Calls Try.prog 8 #[.int .i64 st, setV h l] W fun e w' => e = .returned (.tuple #[.string t, .int .i64 0]) ∧ Below W.heap.size W w')
    (hg : ∀ W, Calls Try.prog 13 #[.int .i64 st, .string (s ++ t ++ s), .int .i64 (s.size : Int)] W fun e w' => e = .returned (.tuple #[setV h l, .int .i64 ((s.size : Int) + (t.size : Int)), .int .i64 0]) ∧ Below W.heap.size W w') :
    Calls Try.prog 5 #[.int .i64 st, .agg #[.int .u64 (h : Int), .int .u64 (l : Int)], .string s] w fun e w' => e = .returned (.bool true) ∧ Below w.heap.size w w' := by
  have HA := Lib.hid bwake_any
  have HP := Lib.hid hp
  have HG := Lib.hid hg
  have HB := Lib.hid (bits_any h l)
  have hd : decide ((100 : Int) < (s.size : Int)) = false := by simp; omega
  unfold setV at *
  clear hp hg
  go_enter Try.func5, Try.ntmps5
  go_wp2_with fail
  refine (HB.out _).mono ?_
  rintro e w1 ⟨rfl, hb1⟩
  have HB1 := Lib.hid (hbt (hbt (below_al _ _) hb1) (below_al w1 (setO h l)))
  have HO1 := Lib.hid (heap_alloc_new w1 (setO h l))
  clear hb1
  go_wp2_with fail
  refine (HP.out _).mono ?_
  rintro e w2 ⟨rfl, hb2⟩
  have HB2 := Lib.hid (hbt HB1.out hb2)
  have HO2 := Lib.hid (obj_below HO1.out hb2)
  clear hb2
  generalize w1.heap.size = g7 at *
  go_wp2_with fail
  refine (HA.out _).mono ?_
  rintro e w3 ⟨rfl, hb3⟩
  have HB3 := Lib.hid (hbt HB2.out hb3)
  have HO3 := Lib.hid (obj_below HO2.out hb3)
  clear hb3
  go_wp2_with fail
  refine (HG.out _).mono ?_
  rintro e w4 ⟨rfl, hb4⟩
  have HB4 := Lib.hid (hbt (hbt HB3.out hb4) (below_al w4 (setO h l)))
  have ho := obj_below HO3.out hb4
  have hlt := obj_lt ho
  obtain ⟨c0, c1, _, _⟩ := obj_cells ho
  clear hb4 ho
  go_wp2
  go_ret
  exact ⟨rfl, HB4.out⟩

theorem bitmapBack_walk (st a b : Int) (s : ByteArray) (w : World) (_h1 : -9223372036854775808 ≤ st) (_h2 : st ≤ 9223372036854775807) (h3 : 0 ≤ a) (h4 : a ≤ 18446744073709551615) (h5 : 0 ≤ b) (h6 : b ≤ 18446744073709551615) (hm : s.size ≤ maxLen) :
    Calls Try.prog 5 #[.int .i64 st, .agg #[.int .u64 a, .int .u64 b], .string s] w fun e w' => e = .returned (.bool true) ∧ Below w.heap.size w w' := by
  obtain ⟨h, rfl⟩ := Int.eq_ofNat_of_zero_le h3
  obtain ⟨l, rfl⟩ := Int.eq_ofNat_of_zero_le h5
  have b1 : h < M64 := by unfold M64; omega
  have b2 : l < M64 := by unfold M64; omega
  by_cases hst : st = 1 ∨ st = 2
  · obtain ⟨k, rfl⟩ := Int.eq_ofNat_of_zero_le (show 0 ≤ st by omega)
    have hk : k = 1 ∨ k = 2 := by omega
    cases h1 : hasN h l 1
    · have hp := fun W => put_ok k h l W hk b1 b2 h1
      by_cases hs : 100 < s.size
      · exact back_far k h l s _ w hm hs hp
      · have htl : (⟨(putL k h l).toArray⟩ : ByteArray).size = (putL k h l).length := by show (putL k h l).toArray.size = _; simp
        have hw : wid k ≤ 16 := by unfold wid; split <;> omega
        have hpl := putL_len k h l
        have hp32 : (putL k h l).length ≤ 32 := by rw [hpl]; split <;> omega
        have hall : (s ++ ⟨(putL k h l).toArray⟩ ++ s).data.toList = s.data.toList ++ (putL k h l ++ s.data.toList) := by
          rw [ByteArray.data_append, ByteArray.data_append]
          simp
        have hsz : (s ++ ⟨(putL k h l).toArray⟩ ++ s).size = s.size + (putL k h l).length + s.size := by rw [ByteArray.size_append, ByteArray.size_append, htl]
        refine back_ok k h l s ⟨(putL k h l).toArray⟩ w (by omega) (by omega) hp (fun W => ?_)
        have hg := get_any k (s ++ ⟨(putL k h l).toArray⟩ ++ s) s.size W hk (by omega) (by omega)
        rw [getN_put b1 b2 h1 hall (size_list s).symm] at hg
        rw [htl]
        exact hg
    · exact back_err k h l s w hm (fun W => put_one k h l W hk b1 b2 h1)
  · exact back_err st h l s w hm (fun W => put_style st h l W (by omega))

end Go.Proofs.Ytdnckiaeeikbhaa
