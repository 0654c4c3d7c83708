/-
  What Put and the document's Put answer: for every number, in every world.
-/
import Derived.Test.YtldicdjkgoncoaaBerSmall
import Derived.Test.YtldicdjkgoncoaaObjs
namespace Go.Proofs.Ytldicdjkgoncoaa
open Go.RowKit

theorem berput_no (n : Int) (w : World) (h : n < 0 ∨ 65535 < n) : Calls Try.prog 22 #[.int .i64 n] w fun e w' => e = .returned (.tuple #[.string ⟨#[]⟩, .bool false]) ∧ Below w.heap.size w w' := by
  have HR := Lib.hid (fun W => bersize_far n W h)
  clear h
  go_enter Try.func22, Try.ntmps22
  go_wp2_with fail
  refine (HR.out _).mono ?_
  rintro e w1 ⟨rfl, rfl⟩
  go_wp2
  go_ret2
  exact ⟨rfl, Below.refl _ _⟩

theorem berput_one (n : Nat) (w : World) (h : n < 128) : Calls Try.prog 22 #[.int .i64 (n : Int)] w fun e w' => e = .returned (.tuple #[.string ⟨#[UInt8.ofNat n]⟩, .bool true]) ∧ Below w.heap.size w w' := by
  have hr := fun W => bersize_any n W (by omega)
  rw [berSz_one h] at hr
  have HR := Lib.hid hr
  have hc := conv_one n (by omega)
  have t4 : (n : Int) % 256 = (n : Int) := by omega
  have h' : (n : Int) < 256 := by omega
  clear h hr
  go_enter Try.func22, Try.ntmps22
  go_wp2_with fail
  refine (HR.out _).mono ?_
  rintro e w1 ⟨rfl, rfl⟩
  go_wp2
  go_ret2
  exact ⟨rfl, below_al _ _⟩

theorem berput_two (n : Nat) (w : World) (h : 128 ≤ n) (h2 : n < 256) : Calls Try.prog 22 #[.int .i64 (n : Int)] w fun e w' => e = .returned (.tuple #[.string ⟨#[129, UInt8.ofNat n]⟩, .bool true]) ∧ Below w.heap.size w w' := by
  have hr := fun W => bersize_any n W (by omega)
  rw [berSz_two h h2] at hr
  have HR := Lib.hid hr
  have hc := conv_two 129 n (by omega) (by omega)
  rw [show ((129 : Nat) : Int) = 129 from rfl, show UInt8.ofNat 129 = 129 from rfl] at hc
  have t4 : (n : Int) % 256 = (n : Int) := by omega
  have h' : (n : Int) < 256 := by omega
  clear h h2 hr
  go_enter Try.func22, Try.ntmps22
  go_wp2_with fail
  refine (HR.out _).mono ?_
  rintro e w1 ⟨rfl, rfl⟩
  go_wp2
  go_ret2
  exact ⟨rfl, below_al _ _⟩

theorem berput_three (n a b : Nat) (w : World) (h : 1 ≤ a) (ha : a < 256) (hb : b < 256) (hn : n = 256 * a + b) : Calls Try.prog 22 #[.int .i64 (n : Int)] w fun e w' => e = .returned (.tuple #[.string ⟨#[130, UInt8.ofNat a, UInt8.ofNat b]⟩, .bool true]) ∧ Below w.heap.size w w' := by
  have hr := fun W => bersize_any n W (by omega)
  rw [berSz_three (by omega)] at hr
  have HR := Lib.hid hr
  have hc := conv_three 130 a b (by omega) ha hb
  rw [show ((130 : Nat) : Int) = 130 from rfl, show UInt8.ofNat 130 = 130 from rfl] at hc
  have t3 : (n : Int) / 256 = (a : Int) := by omega
  have t4 : (n : Int) % 256 = (b : Int) := by omega
  have t5 : (a : Int) % 256 = (a : Int) := by omega
  have hn1 : (n : Int) ≤ 65535 := by omega
  have ha1 : (a : Int) < 256 := by omega
  have hb1 : (b : Int) < 256 := by omega
  clear h hn ha hb hr
  go_enter Try.func22, Try.ntmps22
  go_wp2_with fail
  refine (HR.out _).mono ?_
  rintro e w1 ⟨rfl, rfl⟩
  go_wp2
  go_ret2
  exact ⟨rfl, below_al _ _⟩

theorem berput_yes (n : Nat) (w : World) (h : n < 65536) : Calls Try.prog 22 #[.int .i64 (n : Int)] w fun e w' => e = .returned (.tuple #[.string ⟨(berL n).toArray⟩, .bool true]) ∧ Below w.heap.size w w' := by
  by_cases h1 : n < 128
  · rw [berL_one h1]
    exact berput_one n w h1
  by_cases h2 : n < 256
  · rw [berL_two (by omega) h2]
    exact berput_two n w (by omega) h2
  · rw [berL_three (by omega)]
    exact berput_three n (n / 256) (n % 256) w (by omega) (by omega) (by omega) (by omega)

theorem berrefPut_no (n : Int) (w : World) (h : n < 0 ∨ 65535 < n) : Calls Try.prog 26 #[.int .i64 n] w fun e w' => e = .returned (.string ⟨#[]⟩) ∧ Below w.heap.size w w' := by
  by_cases h0 : n < 0
  · clear h
    go_enter Try.func26, Try.ntmps26
    go_wp2
    go_ret
    exact ⟨rfl, Below.refl _ _⟩
  · have h1 : decide (n < 0) = false := by simpa using h0
    have h2 : 65535 < n := by omega
    clear h h0
    go_enter Try.func26, Try.ntmps26
    go_wp2
    go_ret
    exact ⟨rfl, Below.refl _ _⟩

theorem berrefPut_one (n : Nat) (w : World) (h : n < 128) : Calls Try.prog 26 #[.int .i64 (n : Int)] w fun e w' => e = .returned (.string ⟨#[UInt8.ofNat n]⟩) ∧ Below w.heap.size w w' := by
  have hc := conv_one n (by omega)
  have t1 : decide ((n : Int) < 0) = false := by simp
  have t2 : decide ((65535 : Int) < (n : Int)) = false := by simp; omega
  have t3 : decide ((n : Int) < 128) = true := by simp; omega
  have t4 : (n : Int) % 256 = (n : Int) := by omega
  have h' : (n : Int) < 256 := by omega
  clear h
  go_enter Try.func26, Try.ntmps26
  go_wp2
  go_ret
  exact ⟨rfl, below_al _ _⟩

theorem berrefPut_two (n : Nat) (w : World) (h : 128 ≤ n) (h2 : n < 256) : Calls Try.prog 26 #[.int .i64 (n : Int)] w fun e w' => e = .returned (.string ⟨#[129, UInt8.ofNat n]⟩) ∧ Below w.heap.size w w' := by
  have hc := conv_two 129 n (by omega) (by omega)
  rw [show ((129 : Nat) : Int) = 129 from rfl, show UInt8.ofNat 129 = 129 from rfl] at hc
  have t1 : decide ((n : Int) < 0) = false := by simp
  have t2 : decide ((65535 : Int) < (n : Int)) = false := by simp; omega
  have t3 : decide ((n : Int) < 128) = false := by simp; omega
  have t4 : (n : Int) % 256 = (n : Int) := by omega
  have h' : (n : Int) < 256 := by omega
  clear h h2
  go_enter Try.func26, Try.ntmps26
  go_wp2
  go_ret
  exact ⟨rfl, below_al _ _⟩

theorem berrefPut_three (n a b : Nat) (w : World) (h : 1 ≤ a) (ha : a < 256) (hb : b < 256) (hn : n = 256 * a + b) : Calls Try.prog 26 #[.int .i64 (n : Int)] w fun e w' => e = .returned (.string ⟨#[130, UInt8.ofNat a, UInt8.ofNat b]⟩) ∧ Below w.heap.size w w' := by
  have hc := conv_three 130 a b (by omega) ha hb
  rw [show ((130 : Nat) : Int) = 130 from rfl, show UInt8.ofNat 130 = 130 from rfl] at hc
  have t1 : decide ((n : Int) < 0) = false := by simp
  have t2 : decide ((65535 : Int) < (n : Int)) = false := by simp; omega
  have t0 : decide ((n : Int) < 128) = false := by simp; omega
  have t6 : decide ((n : Int) < 256) = false := by simp; omega
  have t3 : (n : Int) / 256 = (a : Int) := by omega
  have t4 : (n : Int) % 256 = (b : Int) := by omega
  have t5 : (a : Int) % 256 = (a : Int) := by omega
  have t7 : (b : Int) % 256 = (b : Int) := by omega
  have hn1 : (n : Int) ≤ 65535 := by omega
  have ha1 : (a : Int) < 256 := by omega
  have hb1 : (b : Int) < 256 := by omega
  clear h hn ha hb
  go_enter Try.func26, Try.ntmps26
  go_wp2
  go_ret
  exact ⟨rfl, below_al _ _⟩

theorem berrefPut_yes (n : Nat) (w : World) (h : n < 65536) : Calls Try.prog 26 #[.int .i64 (n : Int)] w fun e w' => e = .returned (.string ⟨(berL n).toArray⟩) ∧ Below w.heap.size w w' := by
  by_cases h1 : n < 128
  · rw [berL_one h1]
    exact berrefPut_one n w h1
  by_cases h2 : n < 256
  · rw [berL_two (by omega) h2]
    exact berrefPut_two n w (by omega) h2
  · rw [berL_three (by omega)]
    exact berrefPut_three n (n / 256) (n % 256) w (by omega) (by omega) (by omega) (by omega)

end Go.Proofs.Ytldicdjkgoncoaa
