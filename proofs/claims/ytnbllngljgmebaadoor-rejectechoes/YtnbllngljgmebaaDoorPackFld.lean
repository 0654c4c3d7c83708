/-
  Texts of one family, laid together: FldSmall, FldSet, FldRef.
-/
import Derived.Test.YtnbllngljgmebaaDoorRows
import Derived.Test.YtnbllngljgmebaaDoorFldMath
import Derived.Test.YtnbllngljgmebaaDoorPackBase
import Derived.WalkKit
import Derived.WalkSpells
import Derived.WalkLawsBesides
import Derived.Lib.Hide
import Derived.BigQuiet
import Derived.Laws.BitsAllLaws
import Derived.Laws.Rows
import Derived.Laws.Shifts
import Derived.Deep.RegionWith

/-
  What Bits, Halves, Both, Either, alone and above answer: for every set and number, in every world.
-/
namespace Go.Proofs.YtnbllngljgmebaaDoor
open Go.RowKit Go.Lib

def setV (h l : Nat) : Value := .agg #[.int .u64 (h : Int), .int .u64 (l : Int)]





theorem shl_one (k : Nat) (hk : k < 64) (y : Int) (hy : y = (k : Int)) : IntKind.u64.wrap (2 ^ y.toNat) = ((2 ^ k : Nat) : Int) := by
  subst hy
  have h : 2 ^ k < 18446744073709551616 := pow_lt64 hk
  rw [Int.toNat_natCast]
  generalize hz : (2 : Nat) ^ k = z at h
  have hz' : (2 : Int) ^ k = (z : Int) := by rw [← hz]; simp
  rw [hz']
  simp only [IntKind.wrap, IntKind.bits, IntKind.signed]
  simp
  omega


theorem shr_full (k : Nat) (y : Int) (hy : y = (k : Int)) : (18446744073709551615 : Int) / 2 ^ y.toNat = ((fullN / 2 ^ k : Nat) : Int) := by
  subst hy
  rw [Int.toNat_natCast]
  simp [fullN]


end Go.Proofs.YtnbllngljgmebaaDoor

/-
  What With, Without and Has answer: for every set and number, in every world.
-/
namespace Go.Proofs.YtnbllngljgmebaaDoor
open Go.RowKit Go.Lib





end Go.Proofs.YtnbllngljgmebaaDoor

/-
  What the document's Has, Next, In, Halves and Same answer: for every set, number and list, in every world.
-/
namespace Go.Proofs.YtnbllngljgmebaaDoor
open Go.RowKit Go.Lib

theorem half_step (X j : Nat) : X / 2 ^ (j + 1) = X / 2 ^ j / 2 := by rw [Nat.pow_succ, Nat.div_div_eq_div_mul]
theorem odd_eq (y : Nat) : ((y : Int) % 2 == 1) = decide (y % 2 = 1) := by
  by_cases h : y % 2 = 1
  · have : (y : Int) % 2 = 1 := by omega
    simp [h, this]
  · have : (y : Int) % 2 = 0 := by omega
    simp [h, this]
theorem has_val1 (h l : Nat) (n : Int) (h1 : 1 ≤ n) (h2 : n ≤ 64) : hasN h l n = decide (h / 2 ^ (64 - n).toNat % 2 = 1) := by
  unfold hasN
  rw [if_pos ⟨h1, h2⟩, Nat.testBit_eq_decide_div_mod_eq]
theorem has_val2 (h l : Nat) (n : Int) (h1 : 64 < n) (h2 : n ≤ 128) : hasN h l n = decide (l / 2 ^ (128 - n).toNat % 2 = 1) := by
  unfold hasN
  rw [if_neg (by omega), if_pos ⟨h1, h2⟩, Nat.testBit_eq_decide_div_mod_eq]


set_option maxRecDepth 100000 in
set_option maxHeartbeats 800000 in
theorem refIn_any (A : Option Addr) (cap : Nat) (zs : List Int) (n : Int) (w : World) (hI : Ints w A zs) (hz : zs.length ≤ 1000) :
    Calls Tryd.prog 25 #[.slice A zs.length cap, .int .i64 n] w fun e w' => e = .returned (.bool (decide (n ∈ zs))) ∧ w = w' := by
  have HI := Lib.hid hI; clear hI
  go_enter Tryd.func25, Tryd.ntmps25
  go_wp2
  go_loop [5] (fun i => ∃ k : Nat, k ≤ zs.length ∧ i = .int .i64 k ∧ ∀ j, j < k → zs.getD j 0 ≠ n) (fun i => zs.length - (intOf i).toNat)
  case atStart => exact ⟨0, Nat.zero_le _, rfl, fun j hj => by omega⟩
  case round =>
    obtain ⟨k, hk, rfl, ha⟩ := hrel
    have HA := Lib.hid ha; clear ha
    by_cases hlt : k < zs.length
    · obtain ⟨a, rfl, hc⟩ := HI.out k hlt
      by_cases he : zs.getD k 0 = n
      · rw [he] at hc
        go_wp2
        go_ret
        refine ⟨?_, rfl⟩
        have hm : n ∈ zs := by
          rw [← he, getD_get _ _ hlt]
          exact List.getElem_mem hlt
        simp [hm]
      · generalize hv : zs.getD k 0 = v at *
        have HV := Lib.hid hv; clear hv
        go_wp2
        go_round
        case rel =>
          refine ⟨k + 1, by omega, by go_num, fun j hj => ?_⟩
          by_cases hjk : j = k
          · subst hjk; rw [HV.out]; exact he
          · exact HA.out j (by omega)
        case measure => simp [intOf]; omega
    · go_wp2
      go_ret
      refine ⟨?_, rfl⟩
      have hm : n ∉ zs := by
        intro hm
        obtain ⟨j, hj, he⟩ := List.getElem_of_mem hm
        have := HA.out j (by omega)
        rw [getD_get _ _ hj] at this
        exact this he
      simp [hm]


end Go.Proofs.YtnbllngljgmebaaDoor
