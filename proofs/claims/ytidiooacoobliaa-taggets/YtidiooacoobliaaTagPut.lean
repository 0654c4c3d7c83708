/-
  What Put and the document's Put answer: for every number, in every world.
-/
import Derived.Test.YtidiooacoobliaaTagRt
import Derived.Test.YtidiooacoobliaaObjs
namespace Go.Proofs.Ytidiooacoobliaa
open Go.RowKit

/-- 'string([]byte{a})' and 'string([]byte{a, b})' in the world that the literal leaves. -/
theorem conv_one (a : Nat) (ha : a < 256) (w : World) :
    (convert 36 9 (.slice (some ⟨w.heap.size, 0, none⟩) 1 1)).run Try.prog (w.alloc (.cells #[.int .u8 (a : Int)] 5)) = .ok (.string ⟨#[UInt8.ofNat a]⟩) (w.alloc (.cells #[.int .u8 (a : Int)] 5)) := by
  have h := run_convert_bytes_back (P := Try.prog) (w.alloc (.cells #[.int .u8 (a : Int)] 5)) 36 9 5 ⟨w.heap.size, 0, none⟩ 1 [UInt8.ofNat a] Try.underlying36 Try.underlying5 Try.underlying9 (by
    intro j hj
    have hj0 : j = 0 := by simpa using hj
    subst hj0
    have e : ((UInt8.ofNat a).toNat : Int) = (a : Int) := by rw [UInt8.toNat_ofNat']; omega
    simp [Addr.add]
    omega)
  exact h
theorem conv_two (a b : Nat) (ha : a < 256) (hb : b < 256) (w : World) :
    (convert 36 9 (.slice (some ⟨w.heap.size, 0, none⟩) 2 2)).run Try.prog (w.alloc (.cells #[.int .u8 (a : Int), .int .u8 (b : Int)] 5)) = .ok (.string ⟨#[UInt8.ofNat a, UInt8.ofNat b]⟩) (w.alloc (.cells #[.int .u8 (a : Int), .int .u8 (b : Int)] 5)) := by
  have h := run_convert_bytes_back (P := Try.prog) (w.alloc (.cells #[.int .u8 (a : Int), .int .u8 (b : Int)] 5)) 36 9 5 ⟨w.heap.size, 0, none⟩ 2 [UInt8.ofNat a, UInt8.ofNat b] Try.underlying36 Try.underlying5 Try.underlying9 (by
    intro j hj
    have hj0 : j = 0 ∨ j = 1 := by have : j < 2 := hj; omega
    have e1 : ((UInt8.ofNat a).toNat : Int) = (a : Int) := by rw [UInt8.toNat_ofNat']; omega
    have e2 : ((UInt8.ofNat b).toNat : Int) = (b : Int) := by rw [UInt8.toNat_ofNat']; omega
    rcases hj0 with rfl | rfl
    · simp [Addr.add]
      omega
    · simp [Addr.add]
      omega)
  exact h

theorem tput_no (n : Int) (w : World) (h : tagB n = false) : Calls Try.prog 8 #[.int .i64 n] w fun e w' => e = .returned (.tuple #[.string ⟨#[]⟩, .bool false]) ∧ Below w.heap.size w w' := by
  have HR := Lib.hid (right_any n)
  rw [h] at HR
  clear h
  go_enter Try.func8, Try.ntmps8
  go_wp2_with fail
  refine (HR.out _).mono ?_
  rintro e w1 ⟨rfl, rfl⟩
  go_wp2
  go_ret2
  exact ⟨rfl, Below.refl _ _⟩

theorem tput_one (n : Nat) (w : World) (h : tone n) : Calls Try.prog 8 #[.int .i64 (n : Int)] w fun e w' => e = .returned (.tuple #[.string ⟨#[UInt8.ofNat n]⟩, .bool true]) ∧ Below w.heap.size w w' := by
  have HR := Lib.hid (right_any (n : Int))
  rw [(tagB_nat n).2 (Or.inl h)] at HR
  have hn := h.1
  have hc := conv_one n hn
  have t1 : decide ((n : Int) ≤ 255) = true := by simp; omega
  have t4 : (n : Int) % 256 = (n : Int) := by omega
  have h' : (n : Int) < 256 := by omega
  clear h hn
  go_enter Try.func8, Try.ntmps8
  go_wp2_with fail
  refine (HR.out _).mono ?_
  rintro e w1 ⟨rfl, rfl⟩
  go_wp2
  go_ret2
  exact ⟨rfl, below_al _ _⟩

theorem tput_two (n a b : Nat) (w : World) (h : ttwo n) (ha : a < 256) (hb : b < 256) (hn : n = 256 * a + b) : Calls Try.prog 8 #[.int .i64 (n : Int)] w fun e w' => e = .returned (.tuple #[.string ⟨#[UInt8.ofNat a, UInt8.ofNat b]⟩, .bool true]) ∧ Below w.heap.size w w' := by
  have HR := Lib.hid (right_any (n : Int))
  rw [(tagB_nat n).2 (Or.inr h)] at HR
  have hc := conv_two a b ha hb
  have hn2 := h.1
  have t1 : decide ((n : Int) ≤ 255) = false := by simp; omega
  have t3 : (n : Int) / 256 = (a : Int) := by omega
  have t4 : (n : Int) % 256 = (b : Int) := by omega
  have t5 : (a : Int) % 256 = (a : Int) := by omega
  have hn1 : (n : Int) ≤ 65535 := by omega
  have ha1 : (a : Int) < 256 := by omega
  have hb1 : (b : Int) < 256 := by omega
  clear h hn hn2 ha hb
  go_enter Try.func8, Try.ntmps8
  go_wp2_with fail
  refine (HR.out _).mono ?_
  rintro e w1 ⟨rfl, rfl⟩
  go_wp2
  go_ret2
  exact ⟨rfl, below_al _ _⟩

theorem tput_yes (n : Nat) (w : World) (h : tone n ∨ ttwo n) : Calls Try.prog 8 #[.int .i64 (n : Int)] w fun e w' => e = .returned (.tuple #[.string ⟨(tputL n).toArray⟩, .bool true]) ∧ Below w.heap.size w w' := by
  rcases h with h | h
  · rw [tputL_one h.1]
    exact tput_one n w h
  · rw [tputL_two h.1]
    exact tput_two n (n / 256) (n % 256) w h (by have := h.2.1; omega) (by omega) (by omega)

theorem trefPut_one (n : Nat) (w : World) (hn : n < 256) : Calls Try.prog 12 #[.int .i64 (n : Int)] w fun e w' => e = .returned (.string ⟨#[UInt8.ofNat n]⟩) ∧ Below w.heap.size w w' := by
  have hc := conv_one n hn
  have t4 : (n : Int) % 256 = (n : Int) := by omega
  have h' : (n : Int) < 256 := by omega
  clear hn
  go_enter Try.func12, Try.ntmps12
  go_wp2
  go_ret
  exact ⟨rfl, below_al _ _⟩

theorem trefPut_two (n a b : Nat) (w : World) (h : 1 ≤ a) (ha : a < 256) (hb : b < 256) (hn : n = 256 * a + b) : Calls Try.prog 12 #[.int .i64 (n : Int)] w fun e w' => e = .returned (.string ⟨#[UInt8.ofNat a, UInt8.ofNat b]⟩) ∧ Below w.heap.size w w' := by
  have hc := conv_two a b ha hb
  have t1 : decide ((n : Int) < 256) = false := by simp; omega
  have t3 : (n : Int) / 256 = (a : Int) := by omega
  have t4 : (n : Int) % 256 = (b : Int) := by omega
  have t5 : (a : Int) % 256 = (a : Int) := by omega
  have t6 : (b : Int) % 256 = (b : Int) := by omega
  have hn1 : (n : Int) ≤ 65535 := by omega
  have ha1 : (a : Int) < 256 := by omega
  have hb1 : (b : Int) < 256 := by omega
  clear h hn ha hb
  go_enter Try.func12, Try.ntmps12
  go_wp2
  go_ret
  exact ⟨rfl, below_al _ _⟩

theorem trefPut_yes (n : Nat) (w : World) (h : tone n ∨ ttwo n) : Calls Try.prog 12 #[.int .i64 (n : Int)] w fun e w' => e = .returned (.string ⟨(tputL n).toArray⟩) ∧ Below w.heap.size w w' := by
  rcases h with h | h
  · rw [tputL_one h.1]
    exact trefPut_one n w h.1
  · have h1 := h.1
    rw [tputL_two h1]
    exact trefPut_two n (n / 256) (n % 256) w (by omega) (by have := h.2.1; omega) (by omega) (by omega)

end Go.Proofs.Ytidiooacoobliaa
