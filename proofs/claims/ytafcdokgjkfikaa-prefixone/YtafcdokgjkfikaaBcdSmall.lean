/-
  What bcd.Size and bcd.half answer: for every count; for every text and every place in it; in every world.
-/
import Derived.Test.YtafcdokgjkfikaaByt
import Derived.Test.YtafcdokgjkfikaaBcdMath
import Derived.IntWalk
import Derived.Laws.BitsLemmas
namespace Go.Proofs.Ytafcdokgjkfikaa
open Go.RowKit

set_option maxHeartbeats 400000 in
theorem size_nat (n : Nat) (w : World) (h : n ≤ 9223372036854775807) :
    Calls Try.prog 28 #[.int .i64 (n : Int)] w fun e w' => e = .returned (.int .i64 (((n + 1) / 2 : Nat) : Int)) ∧ w = w' := by
  by_cases h1 : n < 1
  · have h2 : (n : Int) < 1 := by omega
    have e : (((n + 1) / 2 : Nat) : Int) = 0 := by omega
    go_enter Try.func28, Try.ntmps28
    go_wp2
    go_ret
    exact ⟨by rw [e]; rfl, rfl⟩
  · have h2 : (1 : Int) ≤ (n : Int) := by omega
    have e : (((n + 1) / 2 : Nat) : Int) = (n : Int) / 2 + (n : Int) % 2 := by omega
    go_enter Try.func28, Try.ntmps28
    go_wp2
    go_ret
    exact ⟨by rw [e]; rfl, rfl⟩
set_option maxHeartbeats 400000 in
theorem size_less (n : Int) (w : World) (h : n < 1) :
    Calls Try.prog 28 #[.int .i64 n] w fun e w' => e = .returned (.int .i64 0) ∧ w = w' := by
  go_enter Try.func28, Try.ntmps28
  go_wp2
  go_ret
  exact ⟨rfl, rfl⟩
set_option maxHeartbeats 400000 in
theorem half_any (b : ByteArray) (i : Nat) (w : World) (h : i / 2 < b.size) (hi : i ≤ 2000000000) :
    Calls Try.prog 30 #[.string b, .int .i64 (i : Int)] w fun e w' => e = .returned (.int .u8 ((hb b.data.toList i : Nat) : Int)) ∧ w = w' := by
  have hix := ix_str b (i / 2) h
  have hg : b.data.toList.getD (i / 2) 0 = b[i / 2] := getD_in _ _ _ (by simpa using h)
  have hd : ((i / 2 : Nat) : Int) = (i : Int) / 2 := by omega
  unfold hb
  rw [hg]
  generalize b[i / 2] = c at hix
  rw [hd] at hix
  have hc := c.toNat_lt
  have hc0 : (0 : Int) ≤ (c.toNat : Int) := by omega
  have hc1 : (c.toNat : Int) < 256 := by omega
  clear hd hg
  by_cases h2 : i % 2 = 0
  · have h3 : (i : Int) % 2 = 0 := by omega
    rw [if_pos h2]
    go_enter Try.func30, Try.ntmps30
    go_wp2
    go_ret
    exact ⟨by rw [Int.natCast_ediv]; rfl, rfl⟩
  · have h3 : (i : Int) % 2 = 1 := by omega
    have hand : bits .and .u8 (c.toNat : Int) 15 = (c.toNat : Int) % 16 := u8_and15 _ (by omega) (by omega)
    rw [if_neg h2]
    go_enter Try.func30, Try.ntmps30
    go_wp2
    go_ret
    exact ⟨by rw [Int.natCast_emod]; rfl, rfl⟩

end Go.Proofs.Ytafcdokgjkfikaa
