/-
  What the document's Has, Next, In, Halves and Same answer: for every set, number and list, in every world.
-/
import Derived.Test.YtiifkcemieblkaaFldSet
import Derived.Test.YtiifkcemieblkaaInts
import Derived.Deep.RegionWith
namespace Go.Proofs.Ytiifkcemieblkaa
open Go.RowKit Go.Lib

theorem half_step (X j : Nat) : X / 2 ^ (j + 1) = X / 2 ^ j / 2 := by rw [Nat.pow_succ, Nat.div_div_eq_div_mul]
theorem odd_eq (y : Nat) : ((y : Int) % 2 == 1) = decide (y % 2 = 1) := by
  by_cases h : y % 2 = 1
  · have : (y : Int) % 2 = 1 := by omega
    simp [h, this]
  · have : (y : Int) % 2 = 0 := by omega
    simp [h, this]
theorem has_val1 (h l : Nat) (n : Int) (h1 : 1 ≤ n) (h2 : n ≤ 64) : hasN h l n = decide (h / 2 ^ (64 - n).toNat % 2 = 1) := by
  unfold hasN
  rw [if_pos ⟨h1, h2⟩, Nat.testBit_eq_decide_div_mod_eq]
theorem has_val2 (h l : Nat) (n : Int) (h1 : 64 < n) (h2 : n ≤ 128) : hasN h l n = decide (l / 2 ^ (128 - n).toNat % 2 = 1) := by
  unfold hasN
  rw [if_neg (by omega), if_pos ⟨h1, h2⟩, Nat.testBit_eq_decide_div_mod_eq]

set_option maxHeartbeats 800000 in
theorem refHas_any (h l : Nat) (n : Int) (w : World) (b1 : h < M64) (b2 : l < M64) :
    Calls Try.prog 19 #[.int .u64 (h : Int), .int .u64 (l : Int), .int .i64 n] w fun e w' => e = .returned (.bool (hasN h l n)) ∧ w = w' := by
  by_cases h1 : n < 1
  · rw [has_out h l n (by omega)]
    go_enter Try.func19, Try.ntmps19
    go_wp2
    go_ret
    exact ⟨rfl, rfl⟩
  by_cases h2 : 128 < n
  · rw [has_out h l n (by omega)]
    go_enter Try.func19, Try.ntmps19
    go_wp2
    go_ret
    exact ⟨rfl, rfl⟩
  by_cases h3 : n ≤ 64
  · rw [has_val1 h l n (by omega) h3]
    have b : h < 18446744073709551616 := b1
    clear b1 b2
    go_enter Try.func19, Try.ntmps19
    go_wp2
    go_loop [7, 9] (fun x i => ∃ j : Nat, (j : Int) ≤ 64 - n ∧ i = .int .i64 j ∧ x = .int .u64 ((h / 2 ^ j : Nat) : Int)) (fun _ i => (64 - n).toNat - (intOf i).toNat)
    case atStart => exact ⟨0, by simp; omega, rfl, by simp⟩
    case round =>
      obtain ⟨j, hj, rfl, rfl⟩ := hrel
      have hst := half_step h j
      have hle : h / 2 ^ j ≤ h := Nat.div_le_self _ _
      by_cases hlt : (j : Int) < 64 - n
      · generalize h / 2 ^ j = y at *
        have HS := Lib.hid hst; clear hst
        have hy : (y : Int) < 18446744073709551616 := by omega
        go_wp2
        go_round
        case rel => exact ⟨j + 1, by omega, by go_num, by rw [HS.out]; simp⟩
        case measure => simp [intOf]; omega
      · have e : (64 - n).toNat = j := by omega
        generalize hv : h / 2 ^ j = y at *
        have HV := Lib.hid hv
        clear hst hv
        go_wp2
        go_ret
        refine ⟨?_, rfl⟩
        rw [HV.out, ← odd_eq]
        rfl
  · rw [has_val2 h l n (by omega) (by omega)]
    have b : l < 18446744073709551616 := b2
    clear b1 b2
    go_enter Try.func19, Try.ntmps19
    go_wp2
    go_loop [7, 9] (fun x i => ∃ j : Nat, (j : Int) ≤ 128 - n ∧ i = .int .i64 j ∧ x = .int .u64 ((l / 2 ^ j : Nat) : Int)) (fun _ i => (128 - n).toNat - (intOf i).toNat)
    case atStart => exact ⟨0, by simp; omega, rfl, by simp⟩
    case round =>
      obtain ⟨j, hj, rfl, rfl⟩ := hrel
      have hst := half_step l j
      have hle : l / 2 ^ j ≤ l := Nat.div_le_self _ _
      by_cases hlt : (j : Int) < 128 - n
      · generalize l / 2 ^ j = y at *
        have HS := Lib.hid hst; clear hst
        have hy : (y : Int) < 18446744073709551616 := by omega
        go_wp2
        go_round
        case rel => exact ⟨j + 1, by omega, by go_num, by rw [HS.out]; simp⟩
        case measure => simp [intOf]; omega
      · have e : (128 - n).toNat = j := by omega
        generalize hv : l / 2 ^ j = y at *
        have HV := Lib.hid hv
        clear hst hv
        go_wp2
        go_ret
        refine ⟨?_, rfl⟩
        rw [HV.out, ← odd_eq]
        rfl

set_option maxHeartbeats 800000 in
theorem refIn_any (A : Option Addr) (cap : Nat) (zs : List Int) (n : Int) (w : World) (hI : Ints w A zs) (hz : zs.length ≤ 1000) :
    Calls Try.prog 27 #[.slice A zs.length cap, .int .i64 n] w fun e w' => e = .returned (.bool (decide (n ∈ zs))) ∧ w = w' := by
  have HI := Lib.hid hI; clear hI
  go_enter Try.func27, Try.ntmps27
  go_wp2
  go_loop [5] (fun i => ∃ k : Nat, k ≤ zs.length ∧ i = .int .i64 k ∧ ∀ j, j < k → zs.getD j 0 ≠ n) (fun i => zs.length - (intOf i).toNat)
  case atStart => exact ⟨0, Nat.zero_le _, rfl, fun j hj => by omega⟩
  case round =>
    obtain ⟨k, hk, rfl, ha⟩ := hrel
    have HA := Lib.hid ha; clear ha
    by_cases hlt : k < zs.length
    · obtain ⟨a, rfl, hc⟩ := HI.out k hlt
      by_cases he : zs.getD k 0 = n
      · rw [he] at hc
        go_wp2
        go_ret
        refine ⟨?_, rfl⟩
        have hm : n ∈ zs := by
          rw [← he, getD_get _ _ hlt]
          exact List.getElem_mem hlt
        simp [hm]
      · generalize hv : zs.getD k 0 = v at *
        have HV := Lib.hid hv; clear hv
        go_wp2
        go_round
        case rel =>
          refine ⟨k + 1, by omega, by go_num, fun j hj => ?_⟩
          by_cases hjk : j = k
          · subst hjk; rw [HV.out]; exact he
          · exact HA.out j (by omega)
        case measure => simp [intOf]; omega
    · go_wp2
      go_ret
      refine ⟨?_, rfl⟩
      have hm : n ∉ zs := by
        intro hm
        obtain ⟨j, hj, he⟩ := List.getElem_of_mem hm
        have := HA.out j (by omega)
        rw [getD_get _ _ hj] at this
        exact this he
      simp [hm]


end Go.Proofs.Ytiifkcemieblkaa
