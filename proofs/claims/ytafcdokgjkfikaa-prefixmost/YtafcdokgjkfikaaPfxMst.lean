/-
  The law PrefixMost, walked: for every style and form it returns true, in every world.
-/
import Derived.Test.YtafcdokgjkfikaaPfxAwake
namespace Go.Proofs.Ytafcdokgjkfikaa
open Go.RowKit

set_option maxHeartbeats 1600000 in
theorem pmost_style (st f : Int) (m : Nat) (w : World) (hst : st ≠ 1 ∧ st ≠ 2) (hm : m ≤ 999)
    (ho : ∀ W, Calls Try.prog 13 #[.int .i64 f] W fun e w' => e = .returned (.int .i64 (m : Int)) ∧ W = w') :
    Calls Try.prog 7 #[.int .i64 st, .int .i64 f] w fun e w' => e = .returned (.bool true) ∧ Below w.heap.size w w' := by
  have HA := Lib.hid pwake_any
  have HO := Lib.hid ho
  have HP := Lib.hid (fun n W => pput_arg st f n W (Or.inl hst))
  have h1 : (st != 1) = true := by simp; omega
  have h2 : (st != 2) = true := by simp; omega
  clear ho hst
  go_enter Try.func7, Try.ntmps7
  go_wp2_with fail
  refine (HO.out _).mono ?_
  rintro e w1 ⟨rfl, rfl⟩
  go_wp2_with fail
  refine (HP.out _ _).mono ?_
  rintro e w1 ⟨rfl, hb1⟩
  go_wp2_with fail
  refine (HP.out _ _).mono ?_
  rintro e w2 ⟨rfl, hb2⟩
  go_wp2_with fail
  refine (HA.out _).mono ?_
  rintro e w3 ⟨rfl, hb3⟩
  go_wp2_with fail
  refine (HA.out _).mono ?_
  rintro e w4 ⟨rfl, hb4⟩
  go_wp2
  go_ret
  exact ⟨rfl, hbt (hbt (hbt hb1 hb2) hb3) hb4⟩

set_option maxHeartbeats 1600000 in
theorem pmost_form (st f : Int) (w : World) (hst : st = 1 ∨ st = 2) (hf : f ≠ 2 ∧ f ≠ 3) :
    Calls Try.prog 7 #[.int .i64 st, .int .i64 f] w fun e w' => e = .returned (.bool true) ∧ Below w.heap.size w w' := by
  have HA := Lib.hid pwake_any
  have HO := Lib.hid (most_no f hf)
  have HP := Lib.hid (fun n W => pput_arg st f n W (Or.inr hf))
  have h1 : (f != 2) = true := by simp; omega
  have h2 : (f != 3) = true := by simp; omega
  clear hf
  rcases hst with rfl | rfl
  · go_enter Try.func7, Try.ntmps7
    go_wp2_with fail
    refine (HO.out _).mono ?_
    rintro e w1 ⟨rfl, rfl⟩
    go_wp2_with fail
    refine (HP.out _ _).mono ?_
    rintro e w1 ⟨rfl, hb1⟩
    go_wp2_with fail
    refine (HP.out _ _).mono ?_
    rintro e w2 ⟨rfl, hb2⟩
    go_wp2_with fail
    refine (HA.out _).mono ?_
    rintro e w3 ⟨rfl, hb3⟩
    go_wp2
    go_ret
    exact ⟨rfl, hbt (hbt hb1 hb2) hb3⟩
  · go_enter Try.func7, Try.ntmps7
    go_wp2_with fail
    refine (HO.out _).mono ?_
    rintro e w1 ⟨rfl, rfl⟩
    go_wp2_with fail
    refine (HP.out _ _).mono ?_
    rintro e w1 ⟨rfl, hb1⟩
    go_wp2_with fail
    refine (HP.out _ _).mono ?_
    rintro e w2 ⟨rfl, hb2⟩
    go_wp2_with fail
    refine (HA.out _).mono ?_
    rintro e w3 ⟨rfl, hb3⟩
    go_wp2
    go_ret
    exact ⟨rfl, hbt (hbt hb1 hb2) hb3⟩

set_option maxHeartbeats 1600000 in
theorem pmost_ok (st f : Int) (m : Nat) (x : ByteArray) (w : World) (hst : st = 1 ∨ st = 2) (hf : f = 2 ∨ f = 3) (hm : m ≤ 999)
    (ho : ∀ W, Calls Try.prog 13 #[.int .i64 f] W fun e w' => e = .returned (.int .i64 (m : Int)) ∧ W = w')
    (hp : ∀ W, Calls Try.prog 8 #[.int .i64 st, .int .i64 f, .int .i64 (m : Int)] W fun e w' => e = .returned (.tuple #[.string x, .int .i64 0]) ∧ Below W.heap.size W w')
    (hq : ∀ W, Calls Try.prog 8 #[.int .i64 st, .int .i64 f, .int .i64 ((m : Int) + 1)] W fun e w' => e = .returned (.tuple #[.string ⟨#[]⟩, .int .i64 5]) ∧ Below W.heap.size W w') :
    Calls Try.prog 7 #[.int .i64 st, .int .i64 f] w fun e w' => e = .returned (.bool true) ∧ Below w.heap.size w w' := by
  have HA := Lib.hid pwake_any
  have HO := Lib.hid ho
  have HP := Lib.hid hp
  have HQ := Lib.hid hq
  clear ho hp hq
  rcases hst with rfl | rfl <;> rcases hf with rfl | rfl <;>
  · go_enter Try.func7, Try.ntmps7
    go_wp2_with fail
    refine (HO.out _).mono ?_
    rintro e w1 ⟨rfl, rfl⟩
    go_wp2_with fail
    refine (HP.out _).mono ?_
    rintro e w1 ⟨rfl, hb1⟩
    go_wp2_with fail
    refine (HQ.out _).mono ?_
    rintro e w2 ⟨rfl, hb2⟩
    go_wp2_with fail
    refine (HA.out _).mono ?_
    rintro e w3 ⟨rfl, hb3⟩
    go_wp2
    go_ret
    exact ⟨rfl, hbt (hbt hb1 hb2) hb3⟩

theorem prefixMost_walk (st f : Int) (w : World) (_h1 : -9223372036854775808 ≤ st) (_h2 : st ≤ 9223372036854775807) (_h3 : -9223372036854775808 ≤ f) (_h4 : f ≤ 9223372036854775807) :
    Calls Try.prog 7 #[.int .i64 st, .int .i64 f] w fun e w' => e = .returned (.bool true) ∧ Below w.heap.size w w' := by
  by_cases hf : f = 2 ∨ f = 3
  · obtain ⟨f, rfl⟩ := Int.eq_ofNat_of_zero_le (show 0 ≤ f by omega)
    have hf' : f = 2 ∨ f = 3 := by omega
    have hm : 10 ^ f - 1 ≤ 999 ∧ 10 ^ f - 1 < 10 ^ f := by rcases hf' with rfl | rfl <;> decide
    have ho := fun W => most_yes f hf' W
    by_cases hst : st = 1 ∨ st = 2
    · obtain ⟨st, rfl⟩ := Int.eq_ofNat_of_zero_le (show 0 ≤ st by omega)
      refine pmost_ok st f _ _ w hst hf hm.1 ho (fun W => pput_ok st f _ W (by omega) hf' hm.2) (fun W => ?_)
      refine pput_range st f _ W hst hf (by omega) (Or.inr ?_)
      rcases hf' with rfl | rfl <;> decide
    · exact pmost_style st f _ w (by omega) hm.1 ho
  · by_cases hst : st = 1 ∨ st = 2
    · exact pmost_form st f w hst (by omega)
    · exact pmost_style st f 0 w (by omega) (by omega) (fun W => most_no f (by omega) W)

end Go.Proofs.Ytafcdokgjkfikaa
