/-
  The laws BerPuts and BerGets, walked: each returns true, for every input, in every world.
-/
import Derived.Test.YtgpfaoipofbpoaaBerAwake
import Derived.Test.YtgpfaoipofbpoaaBerRefGet
namespace Go.Proofs.Ytgpfaoipofbpoaa
open Go.RowKit

set_option maxHeartbeats 800000 in
theorem berputs_no (n : Int) (w : World) (h : n < 0 ∨ 65535 < n) : Calls Try.prog 3 #[.int .i64 n] w fun e w' => e = .returned (.bool true) ∧ Below w.heap.size w w' := by
  have HA := Lib.hid berawake_any
  have HP := Lib.hid (fun W => berput_no n W h)
  have HR := Lib.hid (fun W => berrefPut_no n W h)
  have HZ := Lib.hid (fun W => bersize_far n W h)
  clear h
  go_enter Try.func3, Try.ntmps3
  go_wp2_with fail
  refine (HP.out _).mono ?_
  rintro e w1 ⟨rfl, hb1⟩
  go_wp2_with fail
  refine (HR.out _).mono ?_
  rintro e w2 ⟨rfl, hb2⟩
  go_wp2_with fail
  refine (HA.out _).mono ?_
  rintro e w3 ⟨rfl, hb3⟩
  go_wp2_with fail
  refine (HZ.out _).mono ?_
  rintro e w4 ⟨rfl, rfl⟩
  go_wp2
  go_ret
  exact ⟨rfl, hbt (hbt hb1 hb2) hb3⟩

set_option maxHeartbeats 800000 in
theorem berputs_yes (n k : Nat) (x : ByteArray) (w : World) (hx : x.toList.isEmpty = false) (hk : x.size = k)
    (hp : ∀ W, Calls Try.prog 8 #[.int .i64 (n : Int)] W fun e w' => e = .returned (.tuple #[.string x, .bool true]) ∧ Below W.heap.size W w')
    (hr : ∀ W, Calls Try.prog 9 #[.int .i64 (n : Int)] W fun e w' => e = .returned (.string x) ∧ Below W.heap.size W w')
    (hz : ∀ W, Calls Try.prog 11 #[.int .i64 (n : Int)] W fun e w' => e = .returned (.int .i64 (k : Int)) ∧ W = w') :
    Calls Try.prog 3 #[.int .i64 (n : Int)] w fun e w' => e = .returned (.bool true) ∧ Below w.heap.size w w' := by
  have HA := Lib.hid berawake_any
  have HP := Lib.hid hp
  have HR := Lib.hid hr
  have HZ := Lib.hid hz
  clear hp hr hz
  subst hk
  go_enter Try.func3, Try.ntmps3
  go_wp2_with fail
  refine (HP.out _).mono ?_
  rintro e w1 ⟨rfl, hb1⟩
  go_wp2_with fail
  refine (HR.out _).mono ?_
  rintro e w2 ⟨rfl, hb2⟩
  go_wp2_with fail
  refine (HA.out _).mono ?_
  rintro e w3 ⟨rfl, hb3⟩
  go_wp2_with fail
  refine (HZ.out _).mono ?_
  rintro e w4 ⟨rfl, rfl⟩
  go_wp2
  go_ret
  exact ⟨rfl, hbt (hbt hb1 hb2) hb3⟩

theorem berPuts_walk (n : Int) (w : World) (_h1 : -9223372036854775808 ≤ n) (_h2 : n ≤ 9223372036854775807) :
    Calls Try.prog 3 #[.int .i64 n] w fun e w' => e = .returned (.bool true) ∧ Below w.heap.size w w' := by
  by_cases h : n < 0 ∨ 65535 < n
  · exact berputs_no n w h
  obtain ⟨n, rfl⟩ := Int.eq_ofNat_of_zero_le (show 0 ≤ n by omega)
  have hn : n < 65536 := by omega
  refine berputs_yes n (berSz n) _ w ?_ (by rw [mk_size, berL_length]) (fun W => berput_yes n W hn) (fun W => berrefPut_yes n W hn) (fun W => bersize_any n W hn)
  rw [ByteArray.toList_eq, mk_list, List.isEmpty_eq_false_iff]
  intro h
  have h1 := congrArg List.length h
  rw [berL_length] at h1
  have := berSz_le n
  simp at h1
  omega

set_option maxHeartbeats 800000 in
theorem bergets_far (p : Int) (s : ByteArray) (w : World) (hs : 500 < s.size) (hm : s.size ≤ maxLen) :
    Calls Try.prog 4 #[.string s, .int .i64 p] w fun e w' => e = .returned (.bool true) ∧ Below w.heap.size w w' := by
  have HA := Lib.hid berawake_any
  have hd : decide ((500 : Int) < (s.size : Int)) = true := by simp; omega
  have HM := Lib.hid hm
  clear hm hs
  go_enter Try.func4, Try.ntmps4
  go_wp2_with fail
  refine (HA.out _).mono ?_
  rintro e w1 ⟨rfl, hb1⟩
  go_wp2_with fail
  refine (HA.out _).mono ?_
  rintro e w2 ⟨rfl, hb2⟩
  have HB2 := Lib.hid (hbt hb1 hb2)
  clear hb1 hb2
  go_wp2
  go_ret
  exact ⟨rfl, HB2.out⟩

set_option maxHeartbeats 1600000 in
theorem bergets_near (p : Int) (s : ByteArray) (n m k : Nat) (w : World) (hs : s.size ≤ 500)
    (hg : ∀ W, Calls Try.prog 12 #[.string s, .int .i64 p] W fun e w' => e = .returned (.tuple #[.int .i64 (n : Int), .int .i64 (m : Int), .int .i64 (k : Int)]) ∧ W = w')
    (hr : ∀ W, Calls Try.prog 13 #[.string s, .int .i64 p] W fun e w' => e = .returned (.tuple #[.int .i64 (n : Int), .int .i64 (m : Int), .int .i64 (k : Int)]) ∧ Below W.heap.size W w') :
    Calls Try.prog 4 #[.string s, .int .i64 p] w fun e w' => e = .returned (.bool true) ∧ Below w.heap.size w w' := by
  have HA := Lib.hid berawake_any
  have HG := Lib.hid hg
  have HR := Lib.hid hr
  have hd : decide ((500 : Int) < (s.size : Int)) = false := by simp; omega
  clear hg hr
  go_enter Try.func4, Try.ntmps4
  go_wp2_with fail
  refine (HA.out _).mono ?_
  rintro e w1 ⟨rfl, hb1⟩
  go_wp2_with fail
  refine (HG.out _).mono ?_
  rintro e w2 ⟨rfl, rfl⟩
  go_wp2_with fail
  refine (HR.out _).mono ?_
  rintro e w3 ⟨rfl, hb3⟩
  go_wp2
  go_ret
  exact ⟨rfl, hbt hb1 hb3⟩

theorem berGets_walk (s : ByteArray) (p : Int) (w : World) (hm : s.size ≤ maxLen) (_h5 : -9223372036854775808 ≤ p) (_h6 : p ≤ 9223372036854775807) :
    Calls Try.prog 4 #[.string s, .int .i64 p] w fun e w' => e = .returned (.bool true) ∧ Below w.heap.size w w' := by
  by_cases hs : 500 < s.size
  · exact bergets_far p s w hs hm
  have hs' : s.size ≤ 500 := by omega
  by_cases hp : p < 0 ∨ (s.size : Int) < p
  · exact bergets_near p s 0 0 1 w hs' (fun W => berget_w_place p s W hp) (fun W => berrefGet_place p s W hp)
  obtain ⟨p, rfl⟩ := Int.eq_ofNat_of_zero_le (show 0 ≤ p by omega)
  exact bergets_near p s _ _ _ w hs' (fun W => berget_any p s W (by omega) (by omega)) (fun W => berrefGet_any p s W (by omega) (by omega))

end Go.Proofs.Ytgpfaoipofbpoaa
