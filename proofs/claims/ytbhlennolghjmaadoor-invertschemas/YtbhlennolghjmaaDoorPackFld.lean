/-
  Texts of one family, laid together: FldSmall, FldSet, FldRef, FldOf.
-/
import Derived.Test.YtbhlennolghjmaaDoorRows
import Derived.Test.YtbhlennolghjmaaDoorFldMath
import Derived.Test.YtbhlennolghjmaaDoorPackBase
import Derived.WalkKit
import Derived.WalkSpells
import Derived.WalkLawsBesides
import Derived.Lib.Hide
import Derived.BigQuiet
import Derived.Laws.BitsAllLaws
import Derived.Laws.Rows
import Derived.Laws.Shifts
import Derived.Deep.RegionWith

/-
  What Bits, Halves, Both, Either, alone and above answer: for every set and number, in every world.
-/
namespace Go.Proofs.YtbhlennolghjmaaDoor
open Go.RowKit Go.Lib

def setV (h l : Nat) : Value := .agg #[.int .u64 (h : Int), .int .u64 (l : Int)]
def setO (h l : Nat) : Obj := .cells #[.int .u64 (h : Int), .int .u64 (l : Int)] 57




set_option maxRecDepth 100000 in
set_option maxHeartbeats 400000 in
theorem either_any (h l h' l' : Nat) (w : World) (b1 : h < M64) (b2 : l < M64) (b3 : h' < M64) (b4 : l' < M64) :
    Calls Tryd.prog 70 #[setV h l, setV h' l'] w fun e w' => e = .returned (setV (h ||| h') (l ||| l')) ∧ Below w.heap.size w w' := by
  unfold setV
  have e1 := u64_or_nat h h' b1 b3
  have e2 := u64_or_nat l l' b2 b4
  clear b1 b2 b3 b4
  generalize h ||| h' = x at e1 ⊢
  generalize l ||| l' = y at e2 ⊢
  go_enter Tryd.func70, Tryd.ntmps70
  go_wp2
  refine bodyPost_ret (results_cell_row rfl _ _ (w.heap.size + 1 + 1) _ _ _ _ rfl (heap_al _ _ _ (by simp)) Tryd.underlying57 rfl (by kernel_rfl)) rfl ?_
  exact ⟨rfl, hbt (hbt (below_al _ _) (below_al _ _)) (below_al _ _)⟩

theorem shl_one (k : Nat) (hk : k < 64) (y : Int) (hy : y = (k : Int)) : IntKind.u64.wrap (2 ^ y.toNat) = ((2 ^ k : Nat) : Int) := by
  subst hy
  have h : 2 ^ k < 18446744073709551616 := pow_lt64 hk
  rw [Int.toNat_natCast]
  generalize hz : (2 : Nat) ^ k = z at h
  have hz' : (2 : Int) ^ k = (z : Int) := by rw [← hz]; simp
  rw [hz']
  simp only [IntKind.wrap, IntKind.bits, IntKind.signed]
  simp
  omega

set_option maxRecDepth 100000 in
set_option maxHeartbeats 400000 in
theorem alone_any (n : Int) (w : World) :
    Calls Tryd.prog 71 #[.int .i64 n] w fun e w' => e = .returned (setV (aH n) (aL n)) ∧ Below w.heap.size w w' := by
  unfold setV
  by_cases h1 : n < 1
  · rw [show aH n = 0 by unfold aH; rw [if_neg (by omega)], show aL n = 0 by unfold aL; rw [if_neg (by omega)]]
    go_enter Tryd.func71, Tryd.ntmps71
    go_wp2
    refine bodyPost_ret (results_cell_row rfl _ _ w.heap.size _ _ _ _ rfl (heap_al _ _ _ rfl) Tryd.underlying57 rfl (by kernel_rfl)) rfl ?_
    exact ⟨rfl, below_al _ _⟩
  by_cases h2 : 128 < n
  · rw [show aH n = 0 by unfold aH; rw [if_neg (by omega)], show aL n = 0 by unfold aL; rw [if_neg (by omega)]]
    go_enter Tryd.func71, Tryd.ntmps71
    go_wp2
    refine bodyPost_ret (results_cell_row rfl _ _ w.heap.size _ _ _ _ rfl (heap_al _ _ _ rfl) Tryd.underlying57 rfl (by kernel_rfl)) rfl ?_
    exact ⟨rfl, below_al _ _⟩
  by_cases h3 : n ≤ 64
  · have e1 : IntKind.u64.wrap (2 ^ (64 - n).toNat) = ((aH n : Nat) : Int) := by
      rw [shl_one (64 - n).toNat (by omega) (64 - n) (by omega)]
      unfold aH
      rw [if_pos (by omega)]
    have e2 : aL n = 0 := by unfold aL; rw [if_neg (by omega)]
    rw [e2]
    clear e2
    generalize aH n = x at e1 ⊢
    go_enter Tryd.func71, Tryd.ntmps71
    go_wp2
    refine bodyPost_ret (results_cell_row rfl _ _ w.heap.size _ _ _ _ rfl (heap_al _ _ _ rfl) Tryd.underlying57 rfl (by kernel_rfl)) rfl ?_
    exact ⟨rfl, below_al _ _⟩
  · have e1 : IntKind.u64.wrap (2 ^ (128 - n).toNat) = ((aL n : Nat) : Int) := by
      rw [shl_one (128 - n).toNat (by omega) (128 - n) (by omega)]
      unfold aL
      rw [if_pos (by omega)]
    have e2 : aH n = 0 := by unfold aH; rw [if_neg (by omega)]
    rw [e2]
    clear e2
    generalize aL n = x at e1 ⊢
    go_enter Tryd.func71, Tryd.ntmps71
    go_wp2
    refine bodyPost_ret (results_cell_row rfl _ _ w.heap.size _ _ _ _ rfl (heap_al _ _ _ rfl) Tryd.underlying57 rfl (by kernel_rfl)) rfl ?_
    exact ⟨rfl, below_al _ _⟩

theorem shr_full (k : Nat) (y : Int) (hy : y = (k : Int)) : (18446744073709551615 : Int) / 2 ^ y.toNat = ((fullN / 2 ^ k : Nat) : Int) := by
  subst hy
  rw [Int.toNat_natCast]
  simp [fullN]


end Go.Proofs.YtbhlennolghjmaaDoor

/-
  What With, Without and Has answer: for every set and number, in every world.
-/
namespace Go.Proofs.YtbhlennolghjmaaDoor
open Go.RowKit Go.Lib

/-- A set in one block, room for another in a second: what a region keeps. -/
def Two (w : World) (g h l g' : Nat) (u : World) : Prop := Below w.heap.size w u ∧ u.heap[g]? = some (setO h l) ∧ ∃ a b, u.heap[g']? = some (.cells #[a, b] 57)
theorem Two.below {w u u' : World} {g h l g' : Nat} (t : Two w g h l g' u) (hb : Below u.heap.size u u') : Two w g h l g' u' := by
  obtain ⟨h1, h2, a, b, h3⟩ := t
  exact ⟨hbt h1 hb, obj_below h2 hb, a, b, obj_below h3 hb⟩

theorem Two.drew {w u : World} {g h l g' : Nat} (t : Two w g h l g' u) : Two w g h l g' u.drew := ⟨t.1.drew, t.2.1, t.2.2⟩
theorem Two.store {w u : World} {g h l g' : Nat} (t : Two w g h l g' u) (hg : g ≠ g') (hw : w.heap.size ≤ g') (c d : Value) : Two w g h l g' ((u.setCell ⟨g', 0, none⟩ c).setCell ⟨g', 1, none⟩ d) := by
  obtain ⟨h1, h2, a, b, h3⟩ := t
  refine ⟨(h1.setCell (p := ⟨g', 0, none⟩) hw c).setCell (p := ⟨g', 1, none⟩) hw d, ?_, c, d, obj_set2 h3 c d⟩
  rw [heap_setCell_other _ _ _ _ hg, heap_setCell_other _ _ _ _ hg]
  exact h2
theorem two_start (w : World) (h l : Nat) : Two w w.heap.size h l (w.heap.size + 1) ((w.alloc (.cells #[.int .u64 (h : Int), .int .u64 (l : Int)] 57)).alloc (.cells #[.int .u64 0, .int .u64 0] 57)) :=
  ⟨hbt (below_al _ _) (below_al _ _), heap_alloc2_old _ _ _, _, _, heap_alloc2_new _ _ _⟩

set_option maxRecDepth 100000 in
set_option maxHeartbeats 800000 in
theorem with_any (h l : Nat) (n : Int) (w : World) (b1 : h < M64) (b2 : l < M64) :
    Calls Tryd.prog 50 #[setV h l, .int .i64 n] w fun e w' => e = .returned (setV (h ||| aH n) (l ||| aL n)) ∧ Below w.heap.size w w' := by
  have HA := Lib.hid (alone_any n)
  have HE := Lib.hid (fun W => either_any h l (aH n) (aL n) W b1 b2 (aH_lt n) (aL_lt n))
  clear b1 b2
  unfold setV at *
  generalize aH n = x at *
  generalize aL n = y at *
  generalize h ||| x = p at *
  generalize l ||| y = q at *
  go_enter Tryd.func50, Tryd.ntmps50
  go_wp2_with fail
  refine wp_region_noPanic ?_
  refine wp_region_held_drew (S := (Two w w.heap.size h l (w.heap.size + 1))) (by kernel_rfl) ((two_start w h l).drew) (fun hS => ?_)
  refine gv 0 (v := ?_) (fun u hu => ?_) hS ?_
  rotate_left
  · ((obtain ⟨_, hu2, _⟩ := hu; obtain ⟨c0, c1, _, _⟩ := obj_cells hu2; clear hu2); go_simp; try (with_reducible rfl))
  try simp only [puts]
  refine gv 1 (v := ?_) (fun u hu => ?_) hS ?_
  rotate_left
  · ((obtain ⟨_, hu2, _⟩ := hu; obtain ⟨c0, c1, _, _⟩ := obj_cells hu2; clear hu2); go_simp; try (with_reducible rfl))
  try simp only [puts]
  refine only_call (i := 2) 71 #[.int .i64 n] rfl (by kernel_rfl) (by rfl) ((HA.out _).mono fun e w' he => ⟨he.1, hS.below he.2⟩) ?_ ?_
  · (go_simp; try (with_reducible rfl))
  clear hS
  intro w2 hS
  try simp only [puts]
  refine only_call (i := 3) 70 #[.agg #[.int .u64 (h : Int), .int .u64 (l : Int)], .agg #[.int .u64 (x : Int), .int .u64 (y : Int)]] rfl (by kernel_rfl) (by rfl) ((HE.out _).mono fun e w' he => ⟨he.1, hS.below he.2⟩) ?_ ?_
  · (go_simp; try (with_reducible rfl))
  clear hS
  intro w3 hS
  try simp only [puts]
  refine only (i := 4) rfl (by kernel_rfl) (by rfl) (fun K hK => ?_)
  obtain ⟨hS1, hS2, a, b, hS3⟩ := id hS
  obtain ⟨c0, c1, f0, f1⟩ := obj_cells hS3
  go_simp
  refine hK.out _ _ (hS.store (by omega) (by omega) _ _) ?_
  clear hK
  try simp only [puts]
  refine wpAnyH_done (by kernel_rfl) (NoPanic.normal ?_) _
  have hr := obj_set2 hS3 (.int .u64 (p : Int)) (.int .u64 (q : Int))
  have hb := (hS.store (by omega) (by omega) (.int .u64 (p : Int)) (.int .u64 (q : Int))).1
  clear c0 c1 f0 f1 hS1 hS2 hS3 hS
  generalize ((w3.setCell _ _).setCell _ _) = w4 at *
  go_wp2
  refine bodyPost_ret (results_cell_row rfl _ _ (w.heap.size + 1) _ _ _ _ rfl hr Tryd.underlying57 rfl (by kernel_rfl)) rfl ?_
  exact ⟨rfl, hb⟩

set_option maxRecDepth 100000 in
set_option maxHeartbeats 800000 in
theorem without_any (h l : Nat) (n : Int) (w : World) (b1 : h < M64) (b2 : l < M64) :
    Calls Tryd.prog 69 #[setV h l, .int .i64 n] w fun e w' => e = .returned (setV (h &&& (fullN - aH n)) (l &&& (fullN - aL n))) ∧ Below w.heap.size w w' := by
  have HA := Lib.hid (alone_any n)
  have e1 : bits .andNot .u64 (h : Int) (aH n : Int) = ((h &&& (fullN - aH n) : Nat) : Int) := u64_andNot_nat h (aH n) b1 (aH_lt n)
  have e2 : bits .andNot .u64 (l : Int) (aL n : Int) = ((l &&& (fullN - aL n) : Nat) : Int) := u64_andNot_nat l (aL n) b2 (aL_lt n)
  clear b1 b2
  unfold setV at *
  generalize h &&& (fullN - aH n) = p at *
  generalize l &&& (fullN - aL n) = q at *
  generalize aH n = x at *
  generalize aL n = y at *
  go_enter Tryd.func69, Tryd.ntmps69
  go_wp2_with fail
  refine (HA.out _).mono ?_
  rintro e w1 ⟨rfl, hb⟩
  obtain ⟨hS1, hS2, a, b, hS3⟩ := (two_start w h l).below hb
  obtain ⟨c0, c1, _, _⟩ := obj_cells hS2
  obtain ⟨c2, c3, f2, f3⟩ := obj_cells hS3
  have k1 := obj_lt hS2
  have k2 := obj_lt hS3
  have H1 := Lib.hid hS1; have H3 := Lib.hid hS3
  clear hS1 hS2 hS3 hb
  go_wp2
  refine bodyPost_ret (results_cell_row rfl _ _ (w.heap.size + 1) _ _ _ _ rfl ((heap_alloc_old' _ _ _ (by simp; omega)).trans (obj_set2 H3.out _ _)) Tryd.underlying57 rfl (by kernel_rfl)) rfl ?_
  exact ⟨rfl, ((H1.out.setCell (p := ⟨w.heap.size + 1, 0, none⟩) (by simp) _).setCell (p := ⟨w.heap.size + 1, 1, none⟩) (by simp) _).alloc (by simp; omega) _⟩

set_option maxRecDepth 100000 in
set_option maxHeartbeats 800000 in
theorem has_any (h l : Nat) (n : Int) (w : World) (b1 : h < M64) (b2 : l < M64) :
    Calls Tryd.prog 49 #[setV h l, .int .i64 n] w fun e w' => e = .returned (.bool (hasN h l n)) ∧ Below w.heap.size w w' := by
  have HA := Lib.hid (fun W => without_any h l n W b1 b2)
  have hv := has_iff b1 b2 n
  clear b1 b2
  unfold setV at *
  generalize h &&& (fullN - aH n) = p at *
  generalize l &&& (fullN - aL n) = q at *
  generalize hasN h l n = r at *
  go_enter Tryd.func49, Tryd.ntmps49
  go_wp2_with fail
  refine wp_region_noPanic ?_
  refine wp_region_held_drew (S := (fun u => Below w.heap.size w u ∧ u.heap[w.heap.size]? = some (setO h l))) (by kernel_rfl) (⟨(below_al _ _).drew, heap_alloc_new _ _⟩) (fun hS => ?_)
  refine gv 0 (v := ?_) (fun u hu => ?_) hS ?_
  rotate_left
  · ((obtain ⟨_, hu2⟩ := hu; obtain ⟨c0, c1, _, _⟩ := obj_cells hu2; clear hu2); go_simp; try (with_reducible rfl))
  try simp only [puts]
  refine gv 1 (v := ?_) (fun u hu => ?_) hS ?_
  rotate_left
  · ((obtain ⟨_, hu2⟩ := hu; obtain ⟨c0, c1, _, _⟩ := obj_cells hu2; clear hu2); go_simp; try (with_reducible rfl))
  try simp only [puts]
  refine gv 3 (v := ?_) (fun u hu => ?_) hS ?_
  rotate_left
  · ((obtain ⟨_, hu2⟩ := hu; obtain ⟨c0, c1, _, _⟩ := obj_cells hu2; clear hu2); go_simp; try (with_reducible rfl))
  try simp only [puts]
  refine only_call (i := 2) 69 #[.agg #[.int .u64 (h : Int), .int .u64 (l : Int)], .int .i64 n] rfl (by kernel_rfl) (by rfl) ((HA.out _).mono fun e w' he => ⟨he.1, hbt hS.1 he.2, obj_below hS.2 he.2⟩) ?_ ?_
  · (go_simp; try (with_reducible rfl))
  clear hS
  intro w2 hS
  try simp only [puts]
  refine gv 4 (v := (.bool r)) (fun u hu => ?_) hS ?_
  · ((obtain ⟨_, hu2⟩ := hu; obtain ⟨c0, c1, _, _⟩ := obj_cells hu2; clear hu2); go_simp; (cases r <;> by_cases h1 : p = h <;> by_cases h2 : q = l <;> simp_all <;> (intros; omega)))
  try simp only [puts]
  refine gv 5 (v := ?_) (fun u hu => ?_) hS ?_
  rotate_left
  · ((obtain ⟨_, hu2⟩ := hu; obtain ⟨c0, c1, _, _⟩ := obj_cells hu2; clear hu2); go_simp; try (with_reducible rfl))
  try simp only [puts]
  refine wpAnyH_done (by kernel_rfl) (NoPanic.normal ?_) _
  go_wp2
  go_ret
  exact ⟨rfl, hS.1⟩

end Go.Proofs.YtbhlennolghjmaaDoor

/-
  What the document's Has, Next, In, Halves and Same answer: for every set, number and list, in every world.
-/
namespace Go.Proofs.YtbhlennolghjmaaDoor
open Go.RowKit Go.Lib

theorem half_step (X j : Nat) : X / 2 ^ (j + 1) = X / 2 ^ j / 2 := by rw [Nat.pow_succ, Nat.div_div_eq_div_mul]
theorem odd_eq (y : Nat) : ((y : Int) % 2 == 1) = decide (y % 2 = 1) := by
  by_cases h : y % 2 = 1
  · have : (y : Int) % 2 = 1 := by omega
    simp [h, this]
  · have : (y : Int) % 2 = 0 := by omega
    simp [h, this]
theorem has_val1 (h l : Nat) (n : Int) (h1 : 1 ≤ n) (h2 : n ≤ 64) : hasN h l n = decide (h / 2 ^ (64 - n).toNat % 2 = 1) := by
  unfold hasN
  rw [if_pos ⟨h1, h2⟩, Nat.testBit_eq_decide_div_mod_eq]
theorem has_val2 (h l : Nat) (n : Int) (h1 : 64 < n) (h2 : n ≤ 128) : hasN h l n = decide (l / 2 ^ (128 - n).toNat % 2 = 1) := by
  unfold hasN
  rw [if_neg (by omega), if_pos ⟨h1, h2⟩, Nat.testBit_eq_decide_div_mod_eq]

set_option maxRecDepth 100000 in
set_option maxHeartbeats 800000 in
theorem refHas_any (h l : Nat) (n : Int) (w : World) (b1 : h < M64) (b2 : l < M64) :
    Calls Tryd.prog 23 #[.int .u64 (h : Int), .int .u64 (l : Int), .int .i64 n] w fun e w' => e = .returned (.bool (hasN h l n)) ∧ w = w' := by
  by_cases h1 : n < 1
  · rw [has_out h l n (by omega)]
    go_enter Tryd.func23, Tryd.ntmps23
    go_wp2
    go_ret
    exact ⟨rfl, rfl⟩
  by_cases h2 : 128 < n
  · rw [has_out h l n (by omega)]
    go_enter Tryd.func23, Tryd.ntmps23
    go_wp2
    go_ret
    exact ⟨rfl, rfl⟩
  by_cases h3 : n ≤ 64
  · rw [has_val1 h l n (by omega) h3]
    have b : h < 18446744073709551616 := b1
    clear b1 b2
    go_enter Tryd.func23, Tryd.ntmps23
    go_wp2
    go_loop [7, 9] (fun x i => ∃ j : Nat, (j : Int) ≤ 64 - n ∧ i = .int .i64 j ∧ x = .int .u64 ((h / 2 ^ j : Nat) : Int)) (fun _ i => (64 - n).toNat - (intOf i).toNat)
    case atStart => exact ⟨0, by simp; omega, rfl, by simp⟩
    case round =>
      obtain ⟨j, hj, rfl, rfl⟩ := hrel
      have hst := half_step h j
      have hle : h / 2 ^ j ≤ h := Nat.div_le_self _ _
      by_cases hlt : (j : Int) < 64 - n
      · generalize h / 2 ^ j = y at *
        have HS := Lib.hid hst; clear hst
        have hy : (y : Int) < 18446744073709551616 := by omega
        go_wp2
        go_round
        case rel => exact ⟨j + 1, by omega, by go_num, by rw [HS.out]; simp⟩
        case measure => simp [intOf]; omega
      · have e : (64 - n).toNat = j := by omega
        generalize hv : h / 2 ^ j = y at *
        have HV := Lib.hid hv
        clear hst hv
        go_wp2
        go_ret
        refine ⟨?_, rfl⟩
        rw [HV.out, ← odd_eq]
        rfl
  · rw [has_val2 h l n (by omega) (by omega)]
    have b : l < 18446744073709551616 := b2
    clear b1 b2
    go_enter Tryd.func23, Tryd.ntmps23
    go_wp2
    go_loop [7, 9] (fun x i => ∃ j : Nat, (j : Int) ≤ 128 - n ∧ i = .int .i64 j ∧ x = .int .u64 ((l / 2 ^ j : Nat) : Int)) (fun _ i => (128 - n).toNat - (intOf i).toNat)
    case atStart => exact ⟨0, by simp; omega, rfl, by simp⟩
    case round =>
      obtain ⟨j, hj, rfl, rfl⟩ := hrel
      have hst := half_step l j
      have hle : l / 2 ^ j ≤ l := Nat.div_le_self _ _
      by_cases hlt : (j : Int) < 128 - n
      · generalize l / 2 ^ j = y at *
        have HS := Lib.hid hst; clear hst
        have hy : (y : Int) < 18446744073709551616 := by omega
        go_wp2
        go_round
        case rel => exact ⟨j + 1, by omega, by go_num, by rw [HS.out]; simp⟩
        case measure => simp [intOf]; omega
      · have e : (128 - n).toNat = j := by omega
        generalize hv : l / 2 ^ j = y at *
        have HV := Lib.hid hv
        clear hst hv
        go_wp2
        go_ret
        refine ⟨?_, rfl⟩
        rw [HV.out, ← odd_eq]
        rfl



end Go.Proofs.YtbhlennolghjmaaDoor

/-
  What Of answers: for every list of numbers, in every world.
-/
namespace Go.Proofs.YtbhlennolghjmaaDoor
open Go.RowKit

theorem ints_two (w : World) (a b : Int) (t : TypeId) : Ints (w.alloc (.cells #[.int .i64 a, .int .i64 b] t)) (some ⟨w.heap.size, 0, none⟩) [a, b] := by
  intro i hi
  refine ⟨_, rfl, ?_⟩
  rw [show (⟨w.heap.size, 0, none⟩ : Addr).add i = ⟨w.heap.size, i, none⟩ from by rw [Addr.add_lit, Nat.zero_add], cell_of_row _ _ i _ t _ (heap_alloc_new w _)]
  match i, hi with
  | 0, _ => rfl
  | 1, _ => rfl
theorem ints_one (w : World) (a : Int) (t : TypeId) : Ints (w.alloc (.cells #[.int .i64 a] t)) (some ⟨w.heap.size, 0, none⟩) [a] := by
  intro i hi
  refine ⟨_, rfl, ?_⟩
  rw [show (⟨w.heap.size, 0, none⟩ : Addr).add i = ⟨w.heap.size, i, none⟩ from by rw [Addr.add_lit, Nat.zero_add], cell_of_row _ _ i _ t _ (heap_alloc_new w _)]
  match i, hi with
  | 0, _ => rfl

theorem of_take (zs : List Int) (k : Nat) (hk : k < zs.length) : ofH (zs.take (k + 1)) = ofH (zs.take k) ||| aH (zs.getD k 0) ∧ ofL (zs.take (k + 1)) = ofL (zs.take k) ||| aL (zs.getD k 0) := by
  rw [List.take_succ_eq_append_getElem hk, getD_get zs k hk]
  exact of_snoc _ _


end Go.Proofs.YtbhlennolghjmaaDoor
