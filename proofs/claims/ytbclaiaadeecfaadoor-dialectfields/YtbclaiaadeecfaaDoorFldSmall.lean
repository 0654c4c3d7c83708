/-
  What Bits, Halves, Both, Either, alone and above answer: for every set and number, in every world.
-/
import Derived.Test.YtbclaiaadeecfaaDoorRows
import Derived.Test.YtbclaiaadeecfaaDoorFldMath
import Derived.Test.YtbclaiaadeecfaaDoorObjs
import Derived.WalkKit
import Derived.WalkSpells
import Derived.WalkLawsBesides
import Derived.Lib.Hide
import Derived.BigQuiet
import Derived.Laws.BitsAllLaws
import Derived.Laws.Rows
import Derived.Laws.Shifts
namespace Go.Proofs.YtbclaiaadeecfaaDoor
open Go.RowKit Go.Lib

def setV (h l : Nat) : Value := .agg #[.int .u64 (h : Int), .int .u64 (l : Int)]
def setO (h l : Nat) : Obj := .cells #[.int .u64 (h : Int), .int .u64 (l : Int)] 41

set_option maxHeartbeats 400000 in
theorem bits_any (h l : Nat) (w : World) :
    Calls Tryd.prog 14 #[.int .u64 (h : Int), .int .u64 (l : Int)] w fun e w' => e = .returned (setV h l) ∧ Below w.heap.size w w' := by
  go_enter Tryd.func14, Tryd.ntmps14
  go_wp2
  refine bodyPost_ret (results_cell_row rfl _ _ w.heap.size _ _ _ _ rfl (heap_al _ _ _ rfl) Tryd.underlying41 rfl (by kernel_rfl)) rfl ?_
  exact ⟨rfl, below_al _ _⟩



set_option maxHeartbeats 400000 in
theorem either_any (h l h' l' : Nat) (w : World) (b1 : h < M64) (b2 : l < M64) (b3 : h' < M64) (b4 : l' < M64) :
    Calls Tryd.prog 31 #[setV h l, setV h' l'] w fun e w' => e = .returned (setV (h ||| h') (l ||| l')) ∧ Below w.heap.size w w' := by
  unfold setV
  have e1 := u64_or_nat h h' b1 b3
  have e2 := u64_or_nat l l' b2 b4
  clear b1 b2 b3 b4
  generalize h ||| h' = x at e1 ⊢
  generalize l ||| l' = y at e2 ⊢
  go_enter Tryd.func31, Tryd.ntmps31
  go_wp2
  refine bodyPost_ret (results_cell_row rfl _ _ (w.heap.size + 1 + 1) _ _ _ _ rfl (heap_al _ _ _ (by simp)) Tryd.underlying41 rfl (by kernel_rfl)) rfl ?_
  exact ⟨rfl, hbt (hbt (below_al _ _) (below_al _ _)) (below_al _ _)⟩

theorem shl_one (k : Nat) (hk : k < 64) (y : Int) (hy : y = (k : Int)) : IntKind.u64.wrap (2 ^ y.toNat) = ((2 ^ k : Nat) : Int) := by
  subst hy
  have h : 2 ^ k < 18446744073709551616 := pow_lt64 hk
  rw [Int.toNat_natCast]
  generalize hz : (2 : Nat) ^ k = z at h
  have hz' : (2 : Int) ^ k = (z : Int) := by rw [← hz]; simp
  rw [hz']
  simp only [IntKind.wrap, IntKind.bits, IntKind.signed]
  simp
  omega

set_option maxHeartbeats 400000 in
theorem alone_any (n : Int) (w : World) :
    Calls Tryd.prog 29 #[.int .i64 n] w fun e w' => e = .returned (setV (aH n) (aL n)) ∧ Below w.heap.size w w' := by
  unfold setV
  by_cases h1 : n < 1
  · rw [show aH n = 0 by unfold aH; rw [if_neg (by omega)], show aL n = 0 by unfold aL; rw [if_neg (by omega)]]
    go_enter Tryd.func29, Tryd.ntmps29
    go_wp2
    refine bodyPost_ret (results_cell_row rfl _ _ w.heap.size _ _ _ _ rfl (heap_al _ _ _ rfl) Tryd.underlying41 rfl (by kernel_rfl)) rfl ?_
    exact ⟨rfl, below_al _ _⟩
  by_cases h2 : 128 < n
  · rw [show aH n = 0 by unfold aH; rw [if_neg (by omega)], show aL n = 0 by unfold aL; rw [if_neg (by omega)]]
    go_enter Tryd.func29, Tryd.ntmps29
    go_wp2
    refine bodyPost_ret (results_cell_row rfl _ _ w.heap.size _ _ _ _ rfl (heap_al _ _ _ rfl) Tryd.underlying41 rfl (by kernel_rfl)) rfl ?_
    exact ⟨rfl, below_al _ _⟩
  by_cases h3 : n ≤ 64
  · have e1 : IntKind.u64.wrap (2 ^ (64 - n).toNat) = ((aH n : Nat) : Int) := by
      rw [shl_one (64 - n).toNat (by omega) (64 - n) (by omega)]
      unfold aH
      rw [if_pos (by omega)]
    have e2 : aL n = 0 := by unfold aL; rw [if_neg (by omega)]
    rw [e2]
    clear e2
    generalize aH n = x at e1 ⊢
    go_enter Tryd.func29, Tryd.ntmps29
    go_wp2
    refine bodyPost_ret (results_cell_row rfl _ _ w.heap.size _ _ _ _ rfl (heap_al _ _ _ rfl) Tryd.underlying41 rfl (by kernel_rfl)) rfl ?_
    exact ⟨rfl, below_al _ _⟩
  · have e1 : IntKind.u64.wrap (2 ^ (128 - n).toNat) = ((aL n : Nat) : Int) := by
      rw [shl_one (128 - n).toNat (by omega) (128 - n) (by omega)]
      unfold aL
      rw [if_pos (by omega)]
    have e2 : aH n = 0 := by unfold aH; rw [if_neg (by omega)]
    rw [e2]
    clear e2
    generalize aL n = x at e1 ⊢
    go_enter Tryd.func29, Tryd.ntmps29
    go_wp2
    refine bodyPost_ret (results_cell_row rfl _ _ w.heap.size _ _ _ _ rfl (heap_al _ _ _ rfl) Tryd.underlying41 rfl (by kernel_rfl)) rfl ?_
    exact ⟨rfl, below_al _ _⟩

theorem shr_full (k : Nat) (y : Int) (hy : y = (k : Int)) : (18446744073709551615 : Int) / 2 ^ y.toNat = ((fullN / 2 ^ k : Nat) : Int) := by
  subst hy
  rw [Int.toNat_natCast]
  simp [fullN]


end Go.Proofs.YtbclaiaadeecfaaDoor
