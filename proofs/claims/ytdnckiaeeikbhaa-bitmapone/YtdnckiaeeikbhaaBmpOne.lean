/-
  The law BitmapOne, walked: for every style and text it returns true, in every world.
-/
import Derived.Test.YtdnckiaeeikbhaaBmpAwake
import Derived.Test.YtdnckiaeeikbhaaBmpTurn
namespace Go.Proofs.Ytdnckiaeeikbhaa
open Go.RowKit

set_option maxHeartbeats 800000 in
theorem one_far (st : Int) (s : ByteArray) (w : World) (hs : 500 < s.size) (hm : s.size ≤ maxLen) :
    Calls Try.prog 6 #[.int .i64 st, .string s] w fun e w' => e = .returned (.bool true) ∧ Below w.heap.size w w' := by
  have HA := Lib.hid bwake_any
  have hd : decide ((500 : Int) < (s.size : Int)) = true := by simp; omega
  have HM := Lib.hid hm
  clear hm hs
  go_enter Try.func6, Try.ntmps6
  go_wp2_with fail
  refine (HA.out _).mono ?_
  rintro e w1 ⟨rfl, hb1⟩
  go_wp2_with fail
  refine (HA.out _).mono ?_
  rintro e w2 ⟨rfl, hb2⟩
  have HB2 := Lib.hid (hbt hb1 hb2)
  clear hb1 hb2
  go_wp2
  go_ret
  exact ⟨rfl, HB2.out⟩

set_option maxHeartbeats 800000 in
theorem one_err (st : Int) (s : ByteArray) (n : Nat) (w : World) (hs : s.size ≤ 500) (hn : n ≠ 0) (hg : ∀ W, Calls Try.prog 13 #[.int .i64 st, .string s, .int .i64 0] W fun e w' => e = .returned (.tuple #[setV 0 0, .int .i64 0, .int .i64 (n : Int)]) ∧ Below W.heap.size W w') :
    Calls Try.prog 6 #[.int .i64 st, .string s] w fun e w' => e = .returned (.bool true) ∧ Below w.heap.size w w' := by
  have HA := Lib.hid bwake_any
  have HG := Lib.hid hg
  have hd : decide ((500 : Int) < (s.size : Int)) = false := by simp; omega
  have h4 : ((n : Int) != 0) = true := by simp [hn]
  unfold setV at *
  clear hg hn
  go_enter Try.func6, Try.ntmps6
  go_wp2_with fail
  refine (HA.out _).mono ?_
  rintro e w1 ⟨rfl, hb1⟩
  go_wp2_with fail
  refine (HG.out _).mono ?_
  rintro e w2 ⟨rfl, hb2⟩
  have HB2 := Lib.hid (hbt (hbt hb1 hb2) (below_al w2 (setO 0 0)))
  clear hb1 hb2
  go_wp2
  go_ret
  exact ⟨rfl, HB2.out⟩

set_option maxHeartbeats 800000 in
theorem one_ok (st : Int) (s : ByteArray) (x y n : Nat) (w : World) (hs : s.size ≤ 500) (hn : n ≤ s.size) (hg : ∀ W, Calls Try.prog 13 #[.int .i64 st, .string s, .int .i64 0] W fun e w' => e = .returned (.tuple #[setV x y, .int .i64 (n : Int), .int .i64 0]) ∧ Below W.heap.size W w')
    (hp : ∀ W, Calls Try.prog 8 #[.int .i64 st, setV x y] W fun e w' => e = .returned (.tuple #[.string (s.extract 0 n), .int .i64 0]) ∧ Below W.heap.size W w') :
    Calls Try.prog 6 #[.int .i64 st, .string s] w fun e w' => e = .returned (.bool true) ∧ Below w.heap.size w w' := by
  have HA := Lib.hid bwake_any
  have HG := Lib.hid hg
  have HP := Lib.hid hp
  have hd : decide ((500 : Int) < (s.size : Int)) = false := by simp; omega
  have hn' : (n : Int) ≤ (s.size : Int) := by omega
  unfold setV at *
  clear hg hp
  go_enter Try.func6, Try.ntmps6
  go_wp2_with fail
  refine (HA.out _).mono ?_
  rintro e w1 ⟨rfl, hb1⟩
  go_wp2_with fail
  refine (HG.out _).mono ?_
  rintro e w2 ⟨rfl, hb2⟩
  have HB2 := Lib.hid (hbt (hbt hb1 hb2) (below_al w2 (setO x y)))
  clear hb1 hb2
  go_wp2_with fail
  refine (HP.out _).mono ?_
  rintro e w3 ⟨rfl, hb3⟩
  have HB3 := Lib.hid (hbt HB2.out hb3)
  clear hb3
  go_wp2
  go_ret
  exact ⟨rfl, HB3.out⟩

theorem bitmapOne_walk (st : Int) (s : ByteArray) (w : World) (_h1 : -9223372036854775808 ≤ st) (_h2 : st ≤ 9223372036854775807) (hm : s.size ≤ maxLen) :
    Calls Try.prog 6 #[.int .i64 st, .string s] w fun e w' => e = .returned (.bool true) ∧ Below w.heap.size w w' := by
  by_cases hs : 500 < s.size
  · exact one_far st s w hs hm
  have hs' : s.size ≤ 500 := by omega
  by_cases hst : st = 1 ∨ st = 2
  · obtain ⟨k, rfl⟩ := Int.eq_ofNat_of_zero_le (show 0 ≤ st by omega)
    have hk : k = 1 ∨ k = 2 := by omega
    have hg := fun W => get_any k s 0 W hk (by omega) (by omega)
    by_cases he : (getN k s 0).err = 0
    · obtain ⟨⟨b1, b2, h1⟩, hn, hp⟩ := put_getN he
      rw [he] at hg
      refine one_ok k s _ _ _ w hs' hn hg (fun W => ?_)
      have := put_ok k _ _ W hk b1 b2 h1
      rw [hp] at this
      rw [show s.extract 0 (getN k s 0).next = ⟨(s.data.toList.take (getN k s 0).next).toArray⟩ from by
        rw [ByteArray.ext_iff]
        apply Array.toList_inj.1
        simp]
      exact this
    · obtain ⟨e1, e2, e3⟩ := getN_err he
      rw [e1, e2, e3] at hg
      exact one_err k s _ w hs' he hg
  · exact one_err st s 1 w hs' (by omega) (fun W => get_style st s 0 W (by omega))

end Go.Proofs.Ytdnckiaeeikbhaa
