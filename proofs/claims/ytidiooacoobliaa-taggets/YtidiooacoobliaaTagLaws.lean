/-
  The laws TagRights and TagGets, walked: each returns true, for every input, in every world.
-/
import Derived.Test.YtidiooacoobliaaTagAwake
import Derived.Test.YtidiooacoobliaaTagRefGet
namespace Go.Proofs.Ytidiooacoobliaa
open Go.RowKit

theorem trights_no (n : Int) (w : World) (h : tagB n = false) : Calls Try.prog 3 #[.int .i64 n] w fun e w' => e = .returned (.bool true) ∧ Below w.heap.size w w' := by
  have HA := Lib.hid twake_any
  have HP := Lib.hid (fun W => tput_no n W h)
  have HR := Lib.hid (right_any n)
  have HQ := Lib.hid (refRight_any n)
  rw [h] at HR HQ
  clear h
  go_enter Try.func3, Try.ntmps3
  go_wp2_with fail
  refine (HP.out _).mono ?_
  rintro e w1 ⟨rfl, hb1⟩
  go_wp2_with fail
  refine (HA.out _).mono ?_
  rintro e w2 ⟨rfl, hb2⟩
  go_wp2_with fail
  refine (HR.out _).mono ?_
  rintro e w3 ⟨rfl, rfl⟩
  go_wp2_with fail
  refine (HQ.out _).mono ?_
  rintro e w3 ⟨rfl, rfl⟩
  go_wp2_with fail
  refine (HQ.out _).mono ?_
  rintro e w3 ⟨rfl, rfl⟩
  go_wp2
  go_ret
  exact ⟨rfl, hbt hb1 hb2⟩

theorem trights_yes (n : Nat) (w : World) (h : tone n ∨ ttwo n) : Calls Try.prog 3 #[.int .i64 (n : Int)] w fun e w' => e = .returned (.bool true) ∧ Below w.heap.size w w' := by
  have HA := Lib.hid twake_any
  have HP := Lib.hid (fun W => tput_yes n W h)
  have HO := Lib.hid (fun W => trefPut_yes n W h)
  have HR := Lib.hid (right_any (n : Int))
  have HQ := Lib.hid (refRight_any (n : Int))
  rw [(tagB_nat n).2 h] at HR HQ
  generalize (⟨(tputL n).toArray⟩ : ByteArray) = x at *
  clear h
  go_enter Try.func3, Try.ntmps3
  go_wp2_with fail
  refine (HP.out _).mono ?_
  rintro e w1 ⟨rfl, hb1⟩
  go_wp2_with fail
  refine (HA.out _).mono ?_
  rintro e w2 ⟨rfl, hb2⟩
  go_wp2_with fail
  refine (HR.out _).mono ?_
  rintro e w3 ⟨rfl, rfl⟩
  go_wp2_with fail
  refine (HQ.out _).mono ?_
  rintro e w3 ⟨rfl, rfl⟩
  go_wp2_with fail
  refine (HQ.out _).mono ?_
  rintro e w3 ⟨rfl, rfl⟩
  go_wp2_with fail
  refine (HO.out _).mono ?_
  rintro e w3 ⟨rfl, hb3⟩
  go_wp2
  go_ret
  exact ⟨rfl, hbt (hbt hb1 hb2) hb3⟩

theorem tagRights_walk (n : Int) (w : World) (_h1 : -9223372036854775808 ≤ n) (_h2 : n ≤ 9223372036854775807) :
    Calls Try.prog 3 #[.int .i64 n] w fun e w' => e = .returned (.bool true) ∧ Below w.heap.size w w' := by
  cases h : tagB n
  · exact trights_no n w h
  · by_cases h0 : n < 0
    · rw [tagB_far (Or.inl h0)] at h; cases h
    obtain ⟨n, rfl⟩ := Int.eq_ofNat_of_zero_le (show 0 ≤ n by omega)
    exact trights_yes n w ((tagB_nat n).1 h)

set_option maxHeartbeats 800000 in
theorem tgets_far (p : Int) (s : ByteArray) (w : World) (hs : 500 < s.size) (hm : s.size ≤ maxLen) :
    Calls Try.prog 4 #[.string s, .int .i64 p] w fun e w' => e = .returned (.bool true) ∧ Below w.heap.size w w' := by
  have HA := Lib.hid twake_any
  have hd : decide ((500 : Int) < (s.size : Int)) = true := by simp; omega
  have HM := Lib.hid hm
  clear hm hs
  go_enter Try.func4, Try.ntmps4
  go_wp2_with fail
  refine (HA.out _).mono ?_
  rintro e w1 ⟨rfl, hb1⟩
  go_wp2_with fail
  refine (HA.out _).mono ?_
  rintro e w2 ⟨rfl, hb2⟩
  have HB2 := Lib.hid (hbt hb1 hb2)
  clear hb1 hb2
  go_wp2
  go_ret
  exact ⟨rfl, HB2.out⟩

set_option maxHeartbeats 1600000 in
theorem tgets_near (p : Int) (s : ByteArray) (n m k : Nat) (w : World) (hs : s.size ≤ 500)
    (hg : ∀ W, Calls Try.prog 13 #[.string s, .int .i64 p] W fun e w' => e = .returned (.tuple #[.int .i64 (n : Int), .int .i64 (m : Int), .int .i64 (k : Int)]) ∧ W = w')
    (hr : ∀ W, Calls Try.prog 14 #[.string s, .int .i64 p] W fun e w' => e = .returned (.tuple #[.int .i64 (n : Int), .int .i64 (m : Int), .int .i64 (k : Int)]) ∧ Below W.heap.size W w') :
    Calls Try.prog 4 #[.string s, .int .i64 p] w fun e w' => e = .returned (.bool true) ∧ Below w.heap.size w w' := by
  have HA := Lib.hid twake_any
  have HG := Lib.hid hg
  have HR := Lib.hid hr
  have hd : decide ((500 : Int) < (s.size : Int)) = false := by simp; omega
  clear hg hr
  go_enter Try.func4, Try.ntmps4
  go_wp2_with fail
  refine (HA.out _).mono ?_
  rintro e w1 ⟨rfl, hb1⟩
  go_wp2_with fail
  refine (HG.out _).mono ?_
  rintro e w2 ⟨rfl, rfl⟩
  go_wp2_with fail
  refine (HR.out _).mono ?_
  rintro e w3 ⟨rfl, hb3⟩
  go_wp2
  go_ret
  exact ⟨rfl, hbt hb1 hb3⟩

theorem tagGets_walk (s : ByteArray) (p : Int) (w : World) (hm : s.size ≤ maxLen) (_h5 : -9223372036854775808 ≤ p) (_h6 : p ≤ 9223372036854775807) :
    Calls Try.prog 4 #[.string s, .int .i64 p] w fun e w' => e = .returned (.bool true) ∧ Below w.heap.size w w' := by
  by_cases hs : 500 < s.size
  · exact tgets_far p s w hs hm
  have hs' : s.size ≤ 500 := by omega
  by_cases hp : p < 0 ∨ (s.size : Int) < p
  · exact tgets_near p s 0 0 1 w hs' (fun W => tget_w_place p s W hp) (fun W => trefGet_place p s W hp)
  obtain ⟨p, rfl⟩ := Int.eq_ofNat_of_zero_le (show 0 ≤ p by omega)
  exact tgets_near p s _ _ _ w hs' (fun W => tget_any p s W (by omega) (by omega)) (fun W => trefGet_any p s W (by omega) (by omega))

end Go.Proofs.Ytidiooacoobliaa
