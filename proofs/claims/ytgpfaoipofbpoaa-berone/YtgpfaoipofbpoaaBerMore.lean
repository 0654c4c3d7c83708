/-
  The laws BerBack and BerOne, walked: each returns true, for every input, in every world.
-/
import Derived.Test.YtgpfaoipofbpoaaBerAwake
namespace Go.Proofs.Ytgpfaoipofbpoaa
open Go.RowKit

set_option maxHeartbeats 800000 in
theorem berback_no (n : Int) (more : ByteArray) (w : World) (h : n < 0 ∨ 65535 < n) :
    Calls Try.prog 5 #[.int .i64 n, .string more] w fun e w' => e = .returned (.bool true) ∧ Below w.heap.size w w' := by
  have HA := Lib.hid berawake_any
  have HP := Lib.hid (fun W => berput_no n W h)
  clear h
  go_enter Try.func5, Try.ntmps5
  go_wp2_with fail
  refine (HP.out _).mono ?_
  rintro e w1 ⟨rfl, hb1⟩
  go_wp2_with fail
  refine (HA.out _).mono ?_
  rintro e w2 ⟨rfl, hb2⟩
  go_wp2_with fail
  refine (HA.out _).mono ?_
  rintro e w3 ⟨rfl, hb3⟩
  go_wp2
  go_ret
  exact ⟨rfl, hbt (hbt hb1 hb2) hb3⟩

set_option maxHeartbeats 800000 in
theorem berback_far (n : Int) (more : ByteArray) (w : World) (x : ByteArray) (hm : more.size ≤ maxLen) (h : 100 < more.size)
    (hp : ∀ W, Calls Try.prog 8 #[.int .i64 n] W fun e w' => e = .returned (.tuple #[.string x, .bool true]) ∧ Below W.heap.size W w') :
    Calls Try.prog 5 #[.int .i64 n, .string more] w fun e w' => e = .returned (.bool true) ∧ Below w.heap.size w w' := by
  have HA := Lib.hid berawake_any
  have HP := Lib.hid hp
  have hd : decide ((100 : Int) < (more.size : Int)) = true := by simp; omega
  have HM := Lib.hid hm
  clear hp hm h
  go_enter Try.func5, Try.ntmps5
  go_wp2_with fail
  refine (HP.out _).mono ?_
  rintro e w1 ⟨rfl, hb1⟩
  go_wp2_with fail
  refine (HA.out _).mono ?_
  rintro e w2 ⟨rfl, hb2⟩
  go_wp2_with fail
  refine (HA.out _).mono ?_
  rintro e w3 ⟨rfl, hb3⟩
  go_wp2
  go_ret
  exact ⟨rfl, hbt (hbt hb1 hb2) hb3⟩

set_option maxHeartbeats 1600000 in
theorem berback_ok (n : Int) (more : ByteArray) (w : World) (x : ByteArray) (h : more.size ≤ 100) (hx : x.size ≤ 3)
    (hp : ∀ W, Calls Try.prog 8 #[.int .i64 n] W fun e w' => e = .returned (.tuple #[.string x, .bool true]) ∧ Below W.heap.size W w')
    (hg : ∀ W, Calls Try.prog 12 #[.string (more ++ x ++ more), .int .i64 (more.size : Int)] W fun e w' => e = .returned (.tuple #[.int .i64 n, .int .i64 ((more.size + x.size : Nat) : Int), .int .i64 0]) ∧ W = w') :
    Calls Try.prog 5 #[.int .i64 n, .string more] w fun e w' => e = .returned (.bool true) ∧ Below w.heap.size w w' := by
  have HA := Lib.hid berawake_any
  have HP := Lib.hid hp
  have HG := Lib.hid hg
  have hd : decide ((100 : Int) < (more.size : Int)) = false := by simp; omega
  have hadd : ∀ W : World, (Op.stringOp .add more x).run Try.prog W = .ok (.string (more ++ x)) W := fun W => run_string_add_sum W more x (by omega)
  have hadd2 : ∀ W : World, (Op.stringOp .add (more ++ x) more).run Try.prog W = .ok (.string (more ++ x ++ more)) W := fun W => run_string_add_sum W (more ++ x) more (by rw [ByteArray.size_append]; omega)
  clear hp hg
  go_enter Try.func5, Try.ntmps5
  go_wp2_with fail
  refine (HP.out _).mono ?_
  rintro e w1 ⟨rfl, hb1⟩
  go_wp2_with fail
  refine (HA.out _).mono ?_
  rintro e w2 ⟨rfl, hb2⟩
  go_wp2_with fail
  refine (HG.out _).mono ?_
  rintro e w3 ⟨rfl, rfl⟩
  go_wp2
  go_ret
  exact ⟨by simp, hbt hb1 hb2⟩

theorem berBack_walk (n : Int) (more : ByteArray) (w : World) (_h5 : -9223372036854775808 ≤ n) (_h6 : n ≤ 9223372036854775807) (hm : more.size ≤ maxLen) :
    Calls Try.prog 5 #[.int .i64 n, .string more] w fun e w' => e = .returned (.bool true) ∧ Below w.heap.size w w' := by
  by_cases h0 : n < 0 ∨ 65535 < n
  · exact berback_no n more w h0
  obtain ⟨n, rfl⟩ := Int.eq_ofNat_of_zero_le (show 0 ≤ n by omega)
  have ht : n < 65536 := by omega
  have hp := fun W => berput_yes n W ht
  by_cases h : 100 < more.size
  · exact berback_far n more w _ hm h hp
  have hx : (⟨(berL n).toArray⟩ : ByteArray).size = (berL n).length := by show (berL n).toArray.size = _; rw [List.size_toArray]
  have hz := berSz_le n
  rw [← berL_length] at hz
  refine berback_ok n more w _ (by omega) (by omega) hp (fun W => ?_)
  have hg := berget_any more.size (more ++ ⟨(berL n).toArray⟩ ++ more) W (by rw [ByteArray.size_append, ByteArray.size_append]; omega) (by rw [ByteArray.size_append, ByteArray.size_append]; omega)
  have e1 : (more ++ ⟨(berL n).toArray⟩ ++ more : ByteArray).data.toList = more.data.toList ++ berL n ++ more.data.toList := by simp
  have e2 := berGet_back more.data.toList more.data.toList ht
  rw [show more.data.toList.length = more.size by simp] at e2
  rw [e1, e2] at hg
  rw [hx]
  exact hg

set_option maxHeartbeats 800000 in
theorem berone_far (s : ByteArray) (w : World) (hs : 500 < s.size) (hm : s.size ≤ maxLen) :
    Calls Try.prog 6 #[.string s] w fun e w' => e = .returned (.bool true) ∧ Below w.heap.size w w' := by
  have HA := Lib.hid berawake_any
  have hd : decide ((500 : Int) < (s.size : Int)) = true := by simp; omega
  have HM := Lib.hid hm
  clear hm hs
  go_enter Try.func6, Try.ntmps6
  go_wp2_with fail
  refine (HA.out _).mono ?_
  rintro e w1 ⟨rfl, hb1⟩
  go_wp2_with fail
  refine (HA.out _).mono ?_
  rintro e w2 ⟨rfl, hb2⟩
  go_wp2
  go_ret
  exact ⟨rfl, hbt hb1 hb2⟩

set_option maxHeartbeats 800000 in
theorem berone_err (s : ByteArray) (k : Nat) (w : World) (hs : s.size ≤ 500) (hk : k ≠ 0)
    (hg : ∀ W, Calls Try.prog 12 #[.string s, .int .i64 0] W fun e w' => e = .returned (.tuple #[.int .i64 0, .int .i64 0, .int .i64 (k : Int)]) ∧ W = w') :
    Calls Try.prog 6 #[.string s] w fun e w' => e = .returned (.bool true) ∧ Below w.heap.size w w' := by
  have HA := Lib.hid berawake_any
  have HG := Lib.hid hg
  have hd : decide ((500 : Int) < (s.size : Int)) = false := by simp; omega
  have h4 : ((k : Int) != 0) = true := by simp [hk]
  clear hg hk
  go_enter Try.func6, Try.ntmps6
  go_wp2_with fail
  refine (HA.out _).mono ?_
  rintro e w1 ⟨rfl, hb1⟩
  go_wp2_with fail
  refine (HG.out _).mono ?_
  rintro e w2 ⟨rfl, rfl⟩
  go_wp2
  go_ret
  exact ⟨rfl, hb1⟩

set_option maxHeartbeats 1600000 in
theorem berone_ok (s : ByteArray) (n m : Nat) (w : World) (hs : s.size ≤ 500) (hm : m ≤ s.size)
    (hg : ∀ W, Calls Try.prog 12 #[.string s, .int .i64 0] W fun e w' => e = .returned (.tuple #[.int .i64 (n : Int), .int .i64 (m : Int), .int .i64 0]) ∧ W = w')
    (hp : ∀ W, Calls Try.prog 8 #[.int .i64 (n : Int)] W fun e w' => e = .returned (.tuple #[.string (s.extract 0 m), .bool true]) ∧ Below W.heap.size W w') :
    Calls Try.prog 6 #[.string s] w fun e w' => e = .returned (.bool true) ∧ Below w.heap.size w w' := by
  have HA := Lib.hid berawake_any
  have HG := Lib.hid hg
  have HP := Lib.hid hp
  have hd : decide ((500 : Int) < (s.size : Int)) = false := by simp; omega
  have hm' : (m : Int) ≤ (s.size : Int) := by omega
  clear hg hp
  go_enter Try.func6, Try.ntmps6
  go_wp2_with fail
  refine (HA.out _).mono ?_
  rintro e w1 ⟨rfl, hb1⟩
  go_wp2_with fail
  refine (HG.out _).mono ?_
  rintro e w2 ⟨rfl, rfl⟩
  go_wp2_with fail
  refine (HP.out _).mono ?_
  rintro e w3 ⟨rfl, hb3⟩
  go_wp2
  go_ret
  exact ⟨by simp, hbt hb1 hb3⟩

theorem berOne_walk (s : ByteArray) (w : World) (hm : s.size ≤ maxLen) :
    Calls Try.prog 6 #[.string s] w fun e w' => e = .returned (.bool true) ∧ Below w.heap.size w w' := by
  by_cases hs : 500 < s.size
  · exact berone_far s w hs hm
  have hs' : s.size ≤ 500 := by omega
  have hg := fun W => berget_any 0 s W (by omega) (by omega)
  unfold bergetV at hg
  have hl : s.data.toList.length = s.size := by simp
  by_cases he : (berGet s.data.toList 0).2.2 = 0
  · obtain ⟨g1, g0, g2, g3⟩ := berGet_put he
    rw [Nat.zero_add] at g0
    rw [← g0, List.drop_zero] at g3
    rw [he] at hg
    generalize hn : (berGet s.data.toList 0).1 = n at *
    generalize hk : (berGet s.data.toList 0).2.1 = m at *
    refine berone_ok s n m w hs' (by omega) hg (fun W => ?_)
    have := berput_yes n W g1
    rw [g3] at this
    rw [show s.extract 0 m = ⟨(s.data.toList.take m).toArray⟩ from by
      rw [ByteArray.ext_iff]
      apply Array.toList_inj.1
      simp]
    exact this
  · obtain ⟨e1, e2⟩ := berGet_err he
    rw [e1, e2] at hg
    exact berone_err s _ w hs' he hg

end Go.Proofs.Ytgpfaoipofbpoaa
