/-
  Texts of one family, laid together: FldSmall, FldSet, FldRef, FldOf.
-/
import Derived.Test.YtbhlennolghjmaaGreatDoorRows
import Derived.Test.YtbhlennolghjmaaGreatDoorFldMath
import Derived.Test.YtbhlennolghjmaaGreatDoorPackBase
import Derived.WalkKit
import Derived.WalkSpells
import Derived.WalkLawsBesides
import Derived.Lib.Hide
import Derived.BigQuiet
import Derived.Laws.BitsAllLaws
import Derived.Laws.Rows
import Derived.Laws.Shifts
import Derived.Deep.RegionWith

/-
  What Bits, Halves, Both, Either, alone and above answer: for every set and number, in every world.
-/
namespace Go.Proofs.YtbhlennolghjmaaGreatDoor
open Go.RowKit Go.Lib

def setV (h l : Nat) : Value := .agg #[.int .u64 (h : Int), .int .u64 (l : Int)]
def setO (h l : Nat) : Obj := .cells #[.int .u64 (h : Int), .int .u64 (l : Int)] 103




set_option maxRecDepth 100000 in
set_option maxHeartbeats 400000 in
theorem either_any (h l h' l' : Nat) (w : World) (b1 : h < M64) (b2 : l < M64) (b3 : h' < M64) (b4 : l' < M64) :
    Calls Tryz.prog 69 #[setV h l, setV h' l'] w fun e w' => e = .returned (setV (h ||| h') (l ||| l')) ∧ Below w.heap.size w w' := by
  unfold setV
  have e1 := u64_or_nat h h' b1 b3
  have e2 := u64_or_nat l l' b2 b4
  clear b1 b2 b3 b4
  generalize h ||| h' = x at e1 ⊢
  generalize l ||| l' = y at e2 ⊢
  go_enter Tryz.func69, Tryz.ntmps69
  go_wp2
  refine bodyPost_ret (results_cell_row rfl _ _ (w.heap.size + 1 + 1) _ _ _ _ rfl (heap_al _ _ _ (by simp)) Tryz.underlying103 rfl (by kernel_rfl)) rfl ?_
  exact ⟨rfl, hbt (hbt (below_al _ _) (below_al _ _)) (below_al _ _)⟩

theorem shl_one (k : Nat) (hk : k < 64) (y : Int) (hy : y = (k : Int)) : IntKind.u64.wrap (2 ^ y.toNat) = ((2 ^ k : Nat) : Int) := by
  subst hy
  have h : 2 ^ k < 18446744073709551616 := pow_lt64 hk
  rw [Int.toNat_natCast]
  generalize hz : (2 : Nat) ^ k = z at h
  have hz' : (2 : Int) ^ k = (z : Int) := by rw [← hz]; simp
  rw [hz']
  simp only [IntKind.wrap, IntKind.bits, IntKind.signed]
  simp
  omega

set_option maxRecDepth 100000 in
set_option maxHeartbeats 400000 in
theorem alone_any (n : Int) (w : World) :
    Calls Tryz.prog 70 #[.int .i64 n] w fun e w' => e = .returned (setV (aH n) (aL n)) ∧ Below w.heap.size w w' := by
  unfold setV
  by_cases h1 : n < 1
  · rw [show aH n = 0 by unfold aH; rw [if_neg (by omega)], show aL n = 0 by unfold aL; rw [if_neg (by omega)]]
    go_enter Tryz.func70, Tryz.ntmps70
    go_wp2
    refine bodyPost_ret (results_cell_row rfl _ _ w.heap.size _ _ _ _ rfl (heap_al _ _ _ rfl) Tryz.underlying103 rfl (by kernel_rfl)) rfl ?_
    exact ⟨rfl, below_al _ _⟩
  by_cases h2 : 128 < n
  · rw [show aH n = 0 by unfold aH; rw [if_neg (by omega)], show aL n = 0 by unfold aL; rw [if_neg (by omega)]]
    go_enter Tryz.func70, Tryz.ntmps70
    go_wp2
    refine bodyPost_ret (results_cell_row rfl _ _ w.heap.size _ _ _ _ rfl (heap_al _ _ _ rfl) Tryz.underlying103 rfl (by kernel_rfl)) rfl ?_
    exact ⟨rfl, below_al _ _⟩
  by_cases h3 : n ≤ 64
  · have e1 : IntKind.u64.wrap (2 ^ (64 - n).toNat) = ((aH n : Nat) : Int) := by
      rw [shl_one (64 - n).toNat (by omega) (64 - n) (by omega)]
      unfold aH
      rw [if_pos (by omega)]
    have e2 : aL n = 0 := by unfold aL; rw [if_neg (by omega)]
    rw [e2]
    clear e2
    generalize aH n = x at e1 ⊢
    go_enter Tryz.func70, Tryz.ntmps70
    go_wp2
    refine bodyPost_ret (results_cell_row rfl _ _ w.heap.size _ _ _ _ rfl (heap_al _ _ _ rfl) Tryz.underlying103 rfl (by kernel_rfl)) rfl ?_
    exact ⟨rfl, below_al _ _⟩
  · have e1 : IntKind.u64.wrap (2 ^ (128 - n).toNat) = ((aL n : Nat) : Int) := by
      rw [shl_one (128 - n).toNat (by omega) (128 - n) (by omega)]
      unfold aL
      rw [if_pos (by omega)]
    have e2 : aH n = 0 := by unfold aH; rw [if_neg (by omega)]
    rw [e2]
    clear e2
    generalize aL n = x at e1 ⊢
    go_enter Tryz.func70, Tryz.ntmps70
    go_wp2
    refine bodyPost_ret (results_cell_row rfl _ _ w.heap.size _ _ _ _ rfl (heap_al _ _ _ rfl) Tryz.underlying103 rfl (by kernel_rfl)) rfl ?_
    exact ⟨rfl, below_al _ _⟩

theorem shr_full (k : Nat) (y : Int) (hy : y = (k : Int)) : (18446744073709551615 : Int) / 2 ^ y.toNat = ((fullN / 2 ^ k : Nat) : Int) := by
  subst hy
  rw [Int.toNat_natCast]
  simp [fullN]


end Go.Proofs.YtbhlennolghjmaaGreatDoor

/-
  What With, Without and Has answer: for every set and number, in every world.
-/
namespace Go.Proofs.YtbhlennolghjmaaGreatDoor
open Go.RowKit Go.Lib

/-- A set in one block, room for another in a second: what a region keeps. -/
def Two (w : World) (g h l g' : Nat) (u : World) : Prop := Below w.heap.size w u ∧ u.heap[g]? = some (setO h l) ∧ ∃ a b, u.heap[g']? = some (.cells #[a, b] 103)
theorem Two.below {w u u' : World} {g h l g' : Nat} (t : Two w g h l g' u) (hb : Below u.heap.size u u') : Two w g h l g' u' := by
  obtain ⟨h1, h2, a, b, h3⟩ := t
  exact ⟨hbt h1 hb, obj_below h2 hb, a, b, obj_below h3 hb⟩

theorem Two.drew {w u : World} {g h l g' : Nat} (t : Two w g h l g' u) : Two w g h l g' u.drew := ⟨t.1.drew, t.2.1, t.2.2⟩
theorem Two.store {w u : World} {g h l g' : Nat} (t : Two w g h l g' u) (hg : g ≠ g') (hw : w.heap.size ≤ g') (c d : Value) : Two w g h l g' ((u.setCell ⟨g', 0, none⟩ c).setCell ⟨g', 1, none⟩ d) := by
  obtain ⟨h1, h2, a, b, h3⟩ := t
  refine ⟨(h1.setCell (p := ⟨g', 0, none⟩) hw c).setCell (p := ⟨g', 1, none⟩) hw d, ?_, c, d, obj_set2 h3 c d⟩
  rw [heap_setCell_other _ _ _ _ hg, heap_setCell_other _ _ _ _ hg]
  exact h2
theorem two_start (w : World) (h l : Nat) : Two w w.heap.size h l (w.heap.size + 1) ((w.alloc (.cells #[.int .u64 (h : Int), .int .u64 (l : Int)] 103)).alloc (.cells #[.int .u64 0, .int .u64 0] 103)) :=
  ⟨hbt (below_al _ _) (below_al _ _), heap_alloc2_old _ _ _, _, _, heap_alloc2_new _ _ _⟩

set_option maxRecDepth 100000 in
set_option maxHeartbeats 800000 in
theorem with_any (h l : Nat) (n : Int) (w : World) (b1 : h < M64) (b2 : l < M64) :
    Calls Tryz.prog 52 #[setV h l, .int .i64 n] w fun e w' => e = .returned (setV (h ||| aH n) (l ||| aL n)) ∧ Below w.heap.size w w' := by
  have HA := Lib.hid (alone_any n)
  have HE := Lib.hid (fun W => either_any h l (aH n) (aL n) W b1 b2 (aH_lt n) (aL_lt n))
  clear b1 b2
  unfold setV at *
  generalize aH n = x at *
  generalize aL n = y at *
  generalize h ||| x = p at *
  generalize l ||| y = q at *
  go_enter Tryz.func52, Tryz.ntmps52
  go_wp2_with fail
  refine wp_region_noPanic ?_
  refine wp_region_held_drew (S := (Two w w.heap.size h l (w.heap.size + 1))) (by kernel_rfl) ((two_start w h l).drew) (fun hS => ?_)
  refine gv 0 (v := ?_) (fun u hu => ?_) hS ?_
  rotate_left
  · ((obtain ⟨_, hu2, _⟩ := hu; obtain ⟨c0, c1, _, _⟩ := obj_cells hu2; clear hu2); go_simp; try (with_reducible rfl))
  try simp only [puts]
  refine gv 1 (v := ?_) (fun u hu => ?_) hS ?_
  rotate_left
  · ((obtain ⟨_, hu2, _⟩ := hu; obtain ⟨c0, c1, _, _⟩ := obj_cells hu2; clear hu2); go_simp; try (with_reducible rfl))
  try simp only [puts]
  refine only_call (i := 2) 70 #[.int .i64 n] rfl (by kernel_rfl) (by rfl) ((HA.out _).mono fun e w' he => ⟨he.1, hS.below he.2⟩) ?_ ?_
  · (go_simp; try (with_reducible rfl))
  clear hS
  intro w2 hS
  try simp only [puts]
  refine only_call (i := 3) 69 #[.agg #[.int .u64 (h : Int), .int .u64 (l : Int)], .agg #[.int .u64 (x : Int), .int .u64 (y : Int)]] rfl (by kernel_rfl) (by rfl) ((HE.out _).mono fun e w' he => ⟨he.1, hS.below he.2⟩) ?_ ?_
  · (go_simp; try (with_reducible rfl))
  clear hS
  intro w3 hS
  try simp only [puts]
  refine only (i := 4) rfl (by kernel_rfl) (by rfl) (fun K hK => ?_)
  obtain ⟨hS1, hS2, a, b, hS3⟩ := id hS
  obtain ⟨c0, c1, f0, f1⟩ := obj_cells hS3
  go_simp
  refine hK.out _ _ (hS.store (by omega) (by omega) _ _) ?_
  clear hK
  try simp only [puts]
  refine wpAnyH_done (by kernel_rfl) (NoPanic.normal ?_) _
  have hr := obj_set2 hS3 (.int .u64 (p : Int)) (.int .u64 (q : Int))
  have hb := (hS.store (by omega) (by omega) (.int .u64 (p : Int)) (.int .u64 (q : Int))).1
  clear c0 c1 f0 f1 hS1 hS2 hS3 hS
  generalize ((w3.setCell _ _).setCell _ _) = w4 at *
  go_wp2
  refine bodyPost_ret (results_cell_row rfl _ _ (w.heap.size + 1) _ _ _ _ rfl hr Tryz.underlying103 rfl (by kernel_rfl)) rfl ?_
  exact ⟨rfl, hb⟩



end Go.Proofs.YtbhlennolghjmaaGreatDoor

/-
  What the document's Has, Next, In, Halves and Same answer: for every set, number and list, in every world.
-/
namespace Go.Proofs.YtbhlennolghjmaaGreatDoor
open Go.RowKit Go.Lib

theorem half_step (X j : Nat) : X / 2 ^ (j + 1) = X / 2 ^ j / 2 := by rw [Nat.pow_succ, Nat.div_div_eq_div_mul]
theorem odd_eq (y : Nat) : ((y : Int) % 2 == 1) = decide (y % 2 = 1) := by
  by_cases h : y % 2 = 1
  · have : (y : Int) % 2 = 1 := by omega
    simp [h, this]
  · have : (y : Int) % 2 = 0 := by omega
    simp [h, this]
theorem has_val1 (h l : Nat) (n : Int) (h1 : 1 ≤ n) (h2 : n ≤ 64) : hasN h l n = decide (h / 2 ^ (64 - n).toNat % 2 = 1) := by
  unfold hasN
  rw [if_pos ⟨h1, h2⟩, Nat.testBit_eq_decide_div_mod_eq]
theorem has_val2 (h l : Nat) (n : Int) (h1 : 64 < n) (h2 : n ≤ 128) : hasN h l n = decide (l / 2 ^ (128 - n).toNat % 2 = 1) := by
  unfold hasN
  rw [if_neg (by omega), if_pos ⟨h1, h2⟩, Nat.testBit_eq_decide_div_mod_eq]




end Go.Proofs.YtbhlennolghjmaaGreatDoor

/-
  What Of answers: for every list of numbers, in every world.
-/
namespace Go.Proofs.YtbhlennolghjmaaGreatDoor
open Go.RowKit

theorem ints_two (w : World) (a b : Int) (t : TypeId) : Ints (w.alloc (.cells #[.int .i64 a, .int .i64 b] t)) (some ⟨w.heap.size, 0, none⟩) [a, b] := by
  intro i hi
  refine ⟨_, rfl, ?_⟩
  rw [show (⟨w.heap.size, 0, none⟩ : Addr).add i = ⟨w.heap.size, i, none⟩ from by rw [Addr.add_lit, Nat.zero_add], cell_of_row _ _ i _ t _ (heap_alloc_new w _)]
  match i, hi with
  | 0, _ => rfl
  | 1, _ => rfl
theorem ints_one (w : World) (a : Int) (t : TypeId) : Ints (w.alloc (.cells #[.int .i64 a] t)) (some ⟨w.heap.size, 0, none⟩) [a] := by
  intro i hi
  refine ⟨_, rfl, ?_⟩
  rw [show (⟨w.heap.size, 0, none⟩ : Addr).add i = ⟨w.heap.size, i, none⟩ from by rw [Addr.add_lit, Nat.zero_add], cell_of_row _ _ i _ t _ (heap_alloc_new w _)]
  match i, hi with
  | 0, _ => rfl

theorem of_take (zs : List Int) (k : Nat) (hk : k < zs.length) : ofH (zs.take (k + 1)) = ofH (zs.take k) ||| aH (zs.getD k 0) ∧ ofL (zs.take (k + 1)) = ofL (zs.take k) ||| aL (zs.getD k 0) := by
  rw [List.take_succ_eq_append_getElem hk, getD_get zs k hk]
  exact of_snoc _ _


end Go.Proofs.YtbhlennolghjmaaGreatDoor
