/-
  What Put and the document's Put answer: for every number, in every world.
-/
import Derived.Test.YtldicdjkgoncoaaTagRt
import Derived.Test.YtldicdjkgoncoaaObjs
import Derived.Test.YtldicdjkgoncoaaStrs
namespace Go.Proofs.Ytldicdjkgoncoaa
open Go.RowKit

theorem tput_no (n : Int) (w : World) (h : tagB n = false) : Calls Try.prog 21 #[.int .i64 n] w fun e w' => e = .returned (.tuple #[.string ⟨#[]⟩, .bool false]) ∧ Below w.heap.size w w' := by
  have HR := Lib.hid (right_any n)
  rw [h] at HR
  clear h
  go_enter Try.func21, Try.ntmps21
  go_wp2_with fail
  refine (HR.out _).mono ?_
  rintro e w1 ⟨rfl, rfl⟩
  go_wp2
  go_ret2
  exact ⟨rfl, Below.refl _ _⟩

theorem tput_one (n : Nat) (w : World) (h : tone n) : Calls Try.prog 21 #[.int .i64 (n : Int)] w fun e w' => e = .returned (.tuple #[.string ⟨#[UInt8.ofNat n]⟩, .bool true]) ∧ Below w.heap.size w w' := by
  have HR := Lib.hid (right_any (n : Int))
  rw [(tagB_nat n).2 (Or.inl h)] at HR
  have hn := h.1
  have hc := conv_one n hn
  have t1 : decide ((n : Int) ≤ 255) = true := by simp; omega
  have t4 : (n : Int) % 256 = (n : Int) := by omega
  have h' : (n : Int) < 256 := by omega
  clear h hn
  go_enter Try.func21, Try.ntmps21
  go_wp2_with fail
  refine (HR.out _).mono ?_
  rintro e w1 ⟨rfl, rfl⟩
  go_wp2
  go_ret2
  exact ⟨rfl, below_al _ _⟩

theorem tput_two (n a b : Nat) (w : World) (h : ttwo n) (ha : a < 256) (hb : b < 256) (hn : n = 256 * a + b) : Calls Try.prog 21 #[.int .i64 (n : Int)] w fun e w' => e = .returned (.tuple #[.string ⟨#[UInt8.ofNat a, UInt8.ofNat b]⟩, .bool true]) ∧ Below w.heap.size w w' := by
  have HR := Lib.hid (right_any (n : Int))
  rw [(tagB_nat n).2 (Or.inr h)] at HR
  have hc := conv_two a b ha hb
  have hn2 := h.1
  have t1 : decide ((n : Int) ≤ 255) = false := by simp; omega
  have t3 : (n : Int) / 256 = (a : Int) := by omega
  have t4 : (n : Int) % 256 = (b : Int) := by omega
  have t5 : (a : Int) % 256 = (a : Int) := by omega
  have hn1 : (n : Int) ≤ 65535 := by omega
  have ha1 : (a : Int) < 256 := by omega
  have hb1 : (b : Int) < 256 := by omega
  clear h hn hn2 ha hb
  go_enter Try.func21, Try.ntmps21
  go_wp2_with fail
  refine (HR.out _).mono ?_
  rintro e w1 ⟨rfl, rfl⟩
  go_wp2
  go_ret2
  exact ⟨rfl, below_al _ _⟩

theorem tput_yes (n : Nat) (w : World) (h : tone n ∨ ttwo n) : Calls Try.prog 21 #[.int .i64 (n : Int)] w fun e w' => e = .returned (.tuple #[.string ⟨(tputL n).toArray⟩, .bool true]) ∧ Below w.heap.size w w' := by
  rcases h with h | h
  · rw [tputL_one h.1]
    exact tput_one n w h
  · rw [tputL_two h.1]
    exact tput_two n (n / 256) (n % 256) w h (by have := h.2.1; omega) (by omega) (by omega)

theorem trefPut_one (n : Nat) (w : World) (hn : n < 256) : Calls Try.prog 25 #[.int .i64 (n : Int)] w fun e w' => e = .returned (.string ⟨#[UInt8.ofNat n]⟩) ∧ Below w.heap.size w w' := by
  have hc := conv_one n hn
  have t4 : (n : Int) % 256 = (n : Int) := by omega
  have h' : (n : Int) < 256 := by omega
  clear hn
  go_enter Try.func25, Try.ntmps25
  go_wp2
  go_ret
  exact ⟨rfl, below_al _ _⟩

theorem trefPut_two (n a b : Nat) (w : World) (h : 1 ≤ a) (ha : a < 256) (hb : b < 256) (hn : n = 256 * a + b) : Calls Try.prog 25 #[.int .i64 (n : Int)] w fun e w' => e = .returned (.string ⟨#[UInt8.ofNat a, UInt8.ofNat b]⟩) ∧ Below w.heap.size w w' := by
  have hc := conv_two a b ha hb
  have t1 : decide ((n : Int) < 256) = false := by simp; omega
  have t3 : (n : Int) / 256 = (a : Int) := by omega
  have t4 : (n : Int) % 256 = (b : Int) := by omega
  have t5 : (a : Int) % 256 = (a : Int) := by omega
  have t6 : (b : Int) % 256 = (b : Int) := by omega
  have hn1 : (n : Int) ≤ 65535 := by omega
  have ha1 : (a : Int) < 256 := by omega
  have hb1 : (b : Int) < 256 := by omega
  clear h hn ha hb
  go_enter Try.func25, Try.ntmps25
  go_wp2
  go_ret
  exact ⟨rfl, below_al _ _⟩

theorem trefPut_yes (n : Nat) (w : World) (h : tone n ∨ ttwo n) : Calls Try.prog 25 #[.int .i64 (n : Int)] w fun e w' => e = .returned (.string ⟨(tputL n).toArray⟩) ∧ Below w.heap.size w w' := by
  rcases h with h | h
  · rw [tputL_one h.1]
    exact trefPut_one n w h.1
  · have h1 := h.1
    rw [tputL_two h1]
    exact trefPut_two n (n / 256) (n % 256) w (by omega) (by have := h.2.1; omega) (by omega) (by omega)

end Go.Proofs.Ytldicdjkgoncoaa
