/-
  Texts of one family, laid together: FldSmall, FldSet, FldRef, FldRefs, FldOf.
-/
import Derived.Test.YthcdolkpdbbnkaaDoorRows
import Derived.Test.YthcdolkpdbbnkaaDoorFldMath
import Derived.Test.YthcdolkpdbbnkaaDoorPackBase
import Derived.WalkKit
import Derived.WalkSpells
import Derived.WalkLawsBesides
import Derived.Lib.Hide
import Derived.BigQuiet
import Derived.Laws.BitsAllLaws
import Derived.Laws.Rows
import Derived.Laws.Shifts
import Derived.Deep.RegionWith
import Derived.IntWalk

/-
  What Bits, Halves, Both, Either, alone and above answer: for every set and number, in every world.
-/
namespace Go.Proofs.YthcdolkpdbbnkaaDoor
open Go.RowKit Go.Lib

def setV (h l : Nat) : Value := .agg #[.int .u64 (h : Int), .int .u64 (l : Int)]
def setO (h l : Nat) : Obj := .cells #[.int .u64 (h : Int), .int .u64 (l : Int)] 46

set_option maxRecDepth 100000 in
set_option maxHeartbeats 400000 in
theorem bits_any (h l : Nat) (w : World) :
    Calls Tryd.prog 19 #[.int .u64 (h : Int), .int .u64 (l : Int)] w fun e w' => e = .returned (setV h l) ∧ Below w.heap.size w w' := by
  go_enter Tryd.func19, Tryd.ntmps19
  go_wp2
  refine bodyPost_ret (results_cell_row rfl _ _ w.heap.size _ _ _ _ rfl (heap_al _ _ _ rfl) Tryd.underlying46 rfl (by kernel_rfl)) rfl ?_
  exact ⟨rfl, below_al _ _⟩



set_option maxRecDepth 100000 in
set_option maxHeartbeats 400000 in
theorem either_any (h l h' l' : Nat) (w : World) (b1 : h < M64) (b2 : l < M64) (b3 : h' < M64) (b4 : l' < M64) :
    Calls Tryd.prog 49 #[setV h l, setV h' l'] w fun e w' => e = .returned (setV (h ||| h') (l ||| l')) ∧ Below w.heap.size w w' := by
  unfold setV
  have e1 := u64_or_nat h h' b1 b3
  have e2 := u64_or_nat l l' b2 b4
  clear b1 b2 b3 b4
  generalize h ||| h' = x at e1 ⊢
  generalize l ||| l' = y at e2 ⊢
  go_enter Tryd.func49, Tryd.ntmps49
  go_wp2
  refine bodyPost_ret (results_cell_row rfl _ _ (w.heap.size + 1 + 1) _ _ _ _ rfl (heap_al _ _ _ (by simp)) Tryd.underlying46 rfl (by kernel_rfl)) rfl ?_
  exact ⟨rfl, hbt (hbt (below_al _ _) (below_al _ _)) (below_al _ _)⟩

theorem shl_one (k : Nat) (hk : k < 64) (y : Int) (hy : y = (k : Int)) : IntKind.u64.wrap (2 ^ y.toNat) = ((2 ^ k : Nat) : Int) := by
  subst hy
  have h : 2 ^ k < 18446744073709551616 := pow_lt64 hk
  rw [Int.toNat_natCast]
  generalize hz : (2 : Nat) ^ k = z at h
  have hz' : (2 : Int) ^ k = (z : Int) := by rw [← hz]; simp
  rw [hz']
  simp only [IntKind.wrap, IntKind.bits, IntKind.signed]
  simp
  omega

set_option maxRecDepth 100000 in
set_option maxHeartbeats 400000 in
theorem alone_any (n : Int) (w : World) :
    Calls Tryd.prog 50 #[.int .i64 n] w fun e w' => e = .returned (setV (aH n) (aL n)) ∧ Below w.heap.size w w' := by
  unfold setV
  by_cases h1 : n < 1
  · rw [show aH n = 0 by unfold aH; rw [if_neg (by omega)], show aL n = 0 by unfold aL; rw [if_neg (by omega)]]
    go_enter Tryd.func50, Tryd.ntmps50
    go_wp2
    refine bodyPost_ret (results_cell_row rfl _ _ w.heap.size _ _ _ _ rfl (heap_al _ _ _ rfl) Tryd.underlying46 rfl (by kernel_rfl)) rfl ?_
    exact ⟨rfl, below_al _ _⟩
  by_cases h2 : 128 < n
  · rw [show aH n = 0 by unfold aH; rw [if_neg (by omega)], show aL n = 0 by unfold aL; rw [if_neg (by omega)]]
    go_enter Tryd.func50, Tryd.ntmps50
    go_wp2
    refine bodyPost_ret (results_cell_row rfl _ _ w.heap.size _ _ _ _ rfl (heap_al _ _ _ rfl) Tryd.underlying46 rfl (by kernel_rfl)) rfl ?_
    exact ⟨rfl, below_al _ _⟩
  by_cases h3 : n ≤ 64
  · have e1 : IntKind.u64.wrap (2 ^ (64 - n).toNat) = ((aH n : Nat) : Int) := by
      rw [shl_one (64 - n).toNat (by omega) (64 - n) (by omega)]
      unfold aH
      rw [if_pos (by omega)]
    have e2 : aL n = 0 := by unfold aL; rw [if_neg (by omega)]
    rw [e2]
    clear e2
    generalize aH n = x at e1 ⊢
    go_enter Tryd.func50, Tryd.ntmps50
    go_wp2
    refine bodyPost_ret (results_cell_row rfl _ _ w.heap.size _ _ _ _ rfl (heap_al _ _ _ rfl) Tryd.underlying46 rfl (by kernel_rfl)) rfl ?_
    exact ⟨rfl, below_al _ _⟩
  · have e1 : IntKind.u64.wrap (2 ^ (128 - n).toNat) = ((aL n : Nat) : Int) := by
      rw [shl_one (128 - n).toNat (by omega) (128 - n) (by omega)]
      unfold aL
      rw [if_pos (by omega)]
    have e2 : aH n = 0 := by unfold aH; rw [if_neg (by omega)]
    rw [e2]
    clear e2
    generalize aL n = x at e1 ⊢
    go_enter Tryd.func50, Tryd.ntmps50
    go_wp2
    refine bodyPost_ret (results_cell_row rfl _ _ w.heap.size _ _ _ _ rfl (heap_al _ _ _ rfl) Tryd.underlying46 rfl (by kernel_rfl)) rfl ?_
    exact ⟨rfl, below_al _ _⟩

theorem shr_full (k : Nat) (y : Int) (hy : y = (k : Int)) : (18446744073709551615 : Int) / 2 ^ y.toNat = ((fullN / 2 ^ k : Nat) : Int) := by
  subst hy
  rw [Int.toNat_natCast]
  simp [fullN]


end Go.Proofs.YthcdolkpdbbnkaaDoor

/-
  What With, Without and Has answer: for every set and number, in every world.
-/
namespace Go.Proofs.YthcdolkpdbbnkaaDoor
open Go.RowKit Go.Lib

/-- A set in one block, room for another in a second: what a region keeps. -/
def Two (w : World) (g h l g' : Nat) (u : World) : Prop := Below w.heap.size w u ∧ u.heap[g]? = some (setO h l) ∧ ∃ a b, u.heap[g']? = some (.cells #[a, b] 46)
theorem Two.below {w u u' : World} {g h l g' : Nat} (t : Two w g h l g' u) (hb : Below u.heap.size u u') : Two w g h l g' u' := by
  obtain ⟨h1, h2, a, b, h3⟩ := t
  exact ⟨hbt h1 hb, obj_below h2 hb, a, b, obj_below h3 hb⟩

theorem Two.drew {w u : World} {g h l g' : Nat} (t : Two w g h l g' u) : Two w g h l g' u.drew := ⟨t.1.drew, t.2.1, t.2.2⟩
theorem Two.store {w u : World} {g h l g' : Nat} (t : Two w g h l g' u) (hg : g ≠ g') (hw : w.heap.size ≤ g') (c d : Value) : Two w g h l g' ((u.setCell ⟨g', 0, none⟩ c).setCell ⟨g', 1, none⟩ d) := by
  obtain ⟨h1, h2, a, b, h3⟩ := t
  refine ⟨(h1.setCell (p := ⟨g', 0, none⟩) hw c).setCell (p := ⟨g', 1, none⟩) hw d, ?_, c, d, obj_set2 h3 c d⟩
  rw [heap_setCell_other _ _ _ _ hg, heap_setCell_other _ _ _ _ hg]
  exact h2
theorem two_start (w : World) (h l : Nat) : Two w w.heap.size h l (w.heap.size + 1) ((w.alloc (.cells #[.int .u64 (h : Int), .int .u64 (l : Int)] 46)).alloc (.cells #[.int .u64 0, .int .u64 0] 46)) :=
  ⟨hbt (below_al _ _) (below_al _ _), heap_alloc2_old _ _ _, _, _, heap_alloc2_new _ _ _⟩

set_option maxRecDepth 100000 in
set_option maxHeartbeats 800000 in
theorem with_any (h l : Nat) (n : Int) (w : World) (b1 : h < M64) (b2 : l < M64) :
    Calls Tryd.prog 35 #[setV h l, .int .i64 n] w fun e w' => e = .returned (setV (h ||| aH n) (l ||| aL n)) ∧ Below w.heap.size w w' := by
  have HA := Lib.hid (alone_any n)
  have HE := Lib.hid (fun W => either_any h l (aH n) (aL n) W b1 b2 (aH_lt n) (aL_lt n))
  clear b1 b2
  unfold setV at *
  generalize aH n = x at *
  generalize aL n = y at *
  generalize h ||| x = p at *
  generalize l ||| y = q at *
  go_enter Tryd.func35, Tryd.ntmps35
  go_wp2_with fail
  refine wp_region_noPanic ?_
  refine wp_region_held_drew (S := (Two w w.heap.size h l (w.heap.size + 1))) (by kernel_rfl) ((two_start w h l).drew) (fun hS => ?_)
  refine give_val (i := 0) (v := ?_) rfl (by kernel_rfl) (by kernel_rfl) (by kernel_rfl) (fun _ _ _ h => h) (by rfl) (fun u hu => ?_) hS ?_
  rotate_left
  · ((obtain ⟨_, hu2, _⟩ := hu; obtain ⟨c0, c1, _, _⟩ := obj_cells hu2; clear hu2); go_simp; try (with_reducible rfl))
  try simp only [Act.put, List.setIfInBounds_toArray, List.set_cons_zero, List.set_cons_succ]
  refine give_val (i := 1) (v := ?_) rfl (by kernel_rfl) (by kernel_rfl) (by kernel_rfl) (fun _ _ _ h => h) (by rfl) (fun u hu => ?_) hS ?_
  rotate_left
  · ((obtain ⟨_, hu2, _⟩ := hu; obtain ⟨c0, c1, _, _⟩ := obj_cells hu2; clear hu2); go_simp; try (with_reducible rfl))
  try simp only [Act.put, List.setIfInBounds_toArray, List.set_cons_zero, List.set_cons_succ]
  refine only_call (i := 2) 50 #[.int .i64 n] rfl (by kernel_rfl) (by rfl) ((HA.out _).mono fun e w' he => ⟨he.1, hS.below he.2⟩) ?_ ?_
  · (go_simp; try (with_reducible rfl))
  clear hS
  intro w2 hS
  try simp only [Act.put, List.setIfInBounds_toArray, List.set_cons_zero, List.set_cons_succ]
  refine only_call (i := 3) 49 #[.agg #[.int .u64 (h : Int), .int .u64 (l : Int)], .agg #[.int .u64 (x : Int), .int .u64 (y : Int)]] rfl (by kernel_rfl) (by rfl) ((HE.out _).mono fun e w' he => ⟨he.1, hS.below he.2⟩) ?_ ?_
  · (go_simp; try (with_reducible rfl))
  clear hS
  intro w3 hS
  try simp only [Act.put, List.setIfInBounds_toArray, List.set_cons_zero, List.set_cons_succ]
  refine only (i := 4) rfl (by kernel_rfl) (by rfl) (fun K hK => ?_)
  obtain ⟨hS1, hS2, a, b, hS3⟩ := id hS
  obtain ⟨c0, c1, f0, f1⟩ := obj_cells hS3
  go_simp
  refine hK.out _ _ (hS.store (by omega) (by omega) _ _) ?_
  clear hK
  try simp only [Act.put, List.setIfInBounds_toArray, List.set_cons_zero, List.set_cons_succ]
  refine wpAnyH_done (by kernel_rfl) (NoPanic.normal ?_) _
  have hr := obj_set2 hS3 (.int .u64 (p : Int)) (.int .u64 (q : Int))
  have hb := (hS.store (by omega) (by omega) (.int .u64 (p : Int)) (.int .u64 (q : Int))).1
  clear c0 c1 f0 f1 hS1 hS2 hS3 hS
  generalize ((w3.setCell _ _).setCell _ _) = w4 at *
  go_wp2
  refine bodyPost_ret (results_cell_row rfl _ _ (w.heap.size + 1) _ _ _ _ rfl hr Tryd.underlying46 rfl (by kernel_rfl)) rfl ?_
  exact ⟨rfl, hb⟩



end Go.Proofs.YthcdolkpdbbnkaaDoor

/-
  What the document's Has, Next, In, Halves and Same answer: for every set, number and list, in every world.
-/
namespace Go.Proofs.YthcdolkpdbbnkaaDoor
open Go.RowKit Go.Lib

theorem half_step (X j : Nat) : X / 2 ^ (j + 1) = X / 2 ^ j / 2 := by rw [Nat.pow_succ, Nat.div_div_eq_div_mul]
theorem odd_eq (y : Nat) : ((y : Int) % 2 == 1) = decide (y % 2 = 1) := by
  by_cases h : y % 2 = 1
  · have : (y : Int) % 2 = 1 := by omega
    simp [h, this]
  · have : (y : Int) % 2 = 0 := by omega
    simp [h, this]
theorem has_val1 (h l : Nat) (n : Int) (h1 : 1 ≤ n) (h2 : n ≤ 64) : hasN h l n = decide (h / 2 ^ (64 - n).toNat % 2 = 1) := by
  unfold hasN
  rw [if_pos ⟨h1, h2⟩, Nat.testBit_eq_decide_div_mod_eq]
theorem has_val2 (h l : Nat) (n : Int) (h1 : 64 < n) (h2 : n ≤ 128) : hasN h l n = decide (l / 2 ^ (128 - n).toNat % 2 = 1) := by
  unfold hasN
  rw [if_neg (by omega), if_pos ⟨h1, h2⟩, Nat.testBit_eq_decide_div_mod_eq]


set_option maxRecDepth 100000 in
set_option maxHeartbeats 800000 in
theorem refIn_any (A : Option Addr) (cap : Nat) (zs : List Int) (n : Int) (w : World) (hI : Ints w A zs) (hz : zs.length ≤ 1000) :
    Calls Tryd.prog 34 #[.slice A zs.length cap, .int .i64 n] w fun e w' => e = .returned (.bool (decide (n ∈ zs))) ∧ w = w' := by
  have HI := Lib.hid hI; clear hI
  go_enter Tryd.func34, Tryd.ntmps34
  go_wp2
  go_loop [5] (fun i => ∃ k : Nat, k ≤ zs.length ∧ i = .int .i64 k ∧ ∀ j, j < k → zs.getD j 0 ≠ n) (fun i => zs.length - (intOf i).toNat)
  case atStart => exact ⟨0, Nat.zero_le _, rfl, fun j hj => by omega⟩
  case round =>
    obtain ⟨k, hk, rfl, ha⟩ := hrel
    have HA := Lib.hid ha; clear ha
    by_cases hlt : k < zs.length
    · obtain ⟨a, rfl, hc⟩ := HI.out k hlt
      by_cases he : zs.getD k 0 = n
      · rw [he] at hc
        go_wp2
        go_ret
        refine ⟨?_, rfl⟩
        have hm : n ∈ zs := by
          rw [← he, getD_get _ _ hlt]
          exact List.getElem_mem hlt
        simp [hm]
      · generalize hv : zs.getD k 0 = v at *
        have HV := Lib.hid hv; clear hv
        go_wp2
        go_round
        case rel =>
          refine ⟨k + 1, by omega, by go_num, fun j hj => ?_⟩
          by_cases hjk : j = k
          · subst hjk; rw [HV.out]; exact he
          · exact HA.out j (by omega)
        case measure => simp [intOf]; omega
    · go_wp2
      go_ret
      refine ⟨?_, rfl⟩
      have hm : n ∉ zs := by
        intro hm
        obtain ⟨j, hj, he⟩ := List.getElem_of_mem hm
        have := HA.out j (by omega)
        rw [getD_get _ _ hj] at this
        exact this he
      simp [hm]


end Go.Proofs.YthcdolkpdbbnkaaDoor

/-
  What the document's Halves and Same answer: for every list, in every world.
-/
namespace Go.Proofs.YthcdolkpdbbnkaaDoor
open Go.RowKit Go.Lib


theorem acc_step (p : Nat → Bool) (b k : Nat) (hk : k < 64) : ∃ y : Nat, accN p b k = y ∧ y < 9223372036854775808 ∧ accN p b (k + 1) = y * 2 + (if p (b + k + 1) = true then 1 else 0) := by
  refine ⟨accN p b k, rfl, ?_, rfl⟩
  have h1 := accN_lt p b k
  have h2 : 2 ^ k ≤ 2 ^ 63 := Nat.pow_le_pow_right (by omega) (by omega)
  omega

set_option maxRecDepth 100000 in
set_option maxHeartbeats 1600000 in
theorem refHalves_any (A : Option Addr) (cap : Nat) (zs : List Int) (w : World) (hI : Ints w A zs) (hz : zs.length ≤ 1000) :
    Calls Tryd.prog 16 #[.slice A zs.length cap] w fun e w' => e = .returned (.tuple #[.int .u64 (ofH zs : Int), .int .u64 (ofL zs : Int)]) ∧ w = w' := by
  have HI := Lib.hid (fun (n : Nat) => refIn_any A cap zs (n : Int) w hI hz)
  clear hI
  have HO := Lib.hid (acc_of zs)
  have hfun : (fun n : Nat => decide ((n : Int) ∈ zs)) = (fun n : Nat => decide ((n : Int) ∈ zs)) := rfl
  clear hfun
  generalize hp : (fun n : Nat => decide ((n : Int) ∈ zs)) = p at HO
  have HP : Hid (∀ n : Nat, Calls Tryd.prog 34 #[.slice A zs.length cap, .int .i64 (n : Int)] w fun e w' => e = .returned (.bool (p n)) ∧ w = w') := by
    intro n
    rw [← hp]
    exact HI.out n
  clear HI hp
  generalize zs.length = len at *
  go_enter Tryd.func16, Tryd.ntmps16
  go_wp2
  go_loop [4, 5, 6] (fun x y i => ∃ n m : Nat, n = m + 1 ∧ m ≤ 128 ∧ i = .int .i64 (n : Int) ∧ x = .int .u64 ((accN p 0 (min m 64) : Nat) : Int) ∧ y = .int .u64 ((accN p 64 (m - 64) : Nat) : Int)) (fun _ _ i => 129 - (intOf i).toNat)
  case atStart => exact ⟨1, 0, rfl, by omega, rfl, rfl, rfl⟩
  case round =>
    obtain ⟨n, m, hn, hm, rfl, rfl, rfl⟩ := hrel
    by_cases h1 : m < 64
    · have e1 : min m 64 = m := by omega
      have e2 : m - 64 = 0 := by omega
      obtain ⟨y, hy, hy1, hy2⟩ := acc_step p 0 (m) (by omega)
      rw [e1, e2, hy]
      have hc := HP.out n
      rw [show 0 + (m) + 1 = n by omega] at hy2
      have hw : IntKind.u64.wrap ((y : Int) * 2) = ((y * 2 : Nat) : Int) := by rw [IntKind.wrap_u64]; omega
      have hw2 : IntKind.u64.wrap (((y * 2 : Nat) : Int) + 1) = ((y * 2 + 1 : Nat) : Int) := by rw [IntKind.wrap_u64]; omega
      have hn1 : 1 ≤ n := by omega
      have hn2 : n ≤ 64 := by omega
      have HN := Lib.hid hn
      have H1 := Lib.hid h1
      generalize hz0 : accN p 64 0 = z0
      have HZ := Lib.hid hz0
      clear hy hn hm h1 hy1 hz0 e1 e2
      generalize y * 2 = z at *
      generalize hz1 : z + 1 = z1 at *
      have HZ1 := Lib.hid hz1; clear hz1
      cases hb : p n
      · rw [hb] at hc hy2
        have HC := Lib.hid hc; clear hc hb
        have H2 := Lib.hid hy2; clear hy2
        go_wp2_with fail
        refine HC.out.mono ?_
        rintro e w1 ⟨rfl, rfl⟩
        go_wp2
        go_round
        case rel =>
          have h3 := H2.out
          have h4 := HN.out
          have h5 := H1.out
          refine ⟨n + 1, m + 1, by omega, by omega, by go_num, ?_, ?_⟩
          · rw [show min (m + 1) 64 = m + 1 by omega, h3]; simp
          · rw [show m + 1 - 64 = 0 by omega, HZ.out]
        case measure => have := HN.out; have := H1.out; simp [intOf]; omega
      · rw [hb] at hc hy2
        have HC := Lib.hid hc; clear hc hb
        have H2 := Lib.hid hy2; clear hy2
        go_wp2_with fail
        refine HC.out.mono ?_
        rintro e w1 ⟨rfl, rfl⟩
        go_wp2
        go_round
        case rel =>
          have h3 := H2.out
          have h4 := HN.out
          have h5 := H1.out
          refine ⟨n + 1, m + 1, by omega, by omega, by go_num, ?_, ?_⟩
          · rw [show min (m + 1) 64 = m + 1 by omega, h3]; simp [HZ1.out]
          · rw [show m + 1 - 64 = 0 by omega, HZ.out]
        case measure => have := HN.out; have := H1.out; simp [intOf]; omega
    by_cases h2 : m < 128
    · have e1 : min m 64 = 64 := by omega
      obtain ⟨y, hy, hy1, hy2⟩ := acc_step p 64 (m - 64) (by omega)
      rw [e1, hy]
      have hc := HP.out n
      rw [show 64 + (m - 64) + 1 = n by omega] at hy2
      have hw : IntKind.u64.wrap ((y : Int) * 2) = ((y * 2 : Nat) : Int) := by rw [IntKind.wrap_u64]; omega
      have hw2 : IntKind.u64.wrap (((y * 2 : Nat) : Int) + 1) = ((y * 2 + 1 : Nat) : Int) := by rw [IntKind.wrap_u64]; omega
      have hn1 : 65 ≤ n := by omega
      have hn2 : n ≤ 128 := by omega
      have HN := Lib.hid hn
      have H1 := Lib.hid h1
      have H9 := Lib.hid h2; clear h2
      generalize hz0 : accN p 0 64 = z0
      have HZ := Lib.hid hz0
      clear hy hn hm h1 hy1 hz0 e1
      generalize y * 2 = z at *
      generalize hz1 : z + 1 = z1 at *
      have HZ1 := Lib.hid hz1; clear hz1
      cases hb : p n
      · rw [hb] at hc hy2
        have HC := Lib.hid hc; clear hc hb
        have H2 := Lib.hid hy2; clear hy2
        go_wp2_with fail
        refine HC.out.mono ?_
        rintro e w1 ⟨rfl, rfl⟩
        go_wp2
        go_round
        case rel =>
          have h3 := H2.out
          have h4 := HN.out
          have h5 := H1.out; have := H9.out
          refine ⟨n + 1, m + 1, by omega, by omega, by go_num, ?_, ?_⟩
          · rw [show min (m + 1) 64 = 64 by omega, HZ.out]
          · rw [show m + 1 - 64 = m - 64 + 1 by omega, h3]; simp
        case measure => have := HN.out; have := H1.out; have := H9.out; simp [intOf]; omega
      · rw [hb] at hc hy2
        have HC := Lib.hid hc; clear hc hb
        have H2 := Lib.hid hy2; clear hy2
        go_wp2_with fail
        refine HC.out.mono ?_
        rintro e w1 ⟨rfl, rfl⟩
        go_wp2
        go_round
        case rel =>
          have h3 := H2.out
          have h4 := HN.out
          have h5 := H1.out
          have h6 := H9.out
          refine ⟨n + 1, m + 1, by omega, by omega, by go_num, ?_, ?_⟩
          · rw [show min (m + 1) 64 = 64 by omega, HZ.out]
          · rw [show m + 1 - 64 = m - 64 + 1 by omega, h3]; simp [HZ1.out]
        case measure => have := HN.out; have := H1.out; have := H9.out; simp [intOf]; omega
    · have hm2 : m = 128 := by omega
      subst hm2
      obtain rfl : n = 129 := by omega
      have hO := HO.out
      rw [show min 128 64 = 64 from rfl, show 128 - 64 = 64 from rfl, hO.1, hO.2]
      go_wp2
      go_ret2
      exact ⟨rfl, rfl⟩

end Go.Proofs.YthcdolkpdbbnkaaDoor

/-
  What Of answers: for every list of numbers, in every world.
-/
namespace Go.Proofs.YthcdolkpdbbnkaaDoor
open Go.RowKit

theorem ints_two (w : World) (a b : Int) (t : TypeId) : Ints (w.alloc (.cells #[.int .i64 a, .int .i64 b] t)) (some ⟨w.heap.size, 0, none⟩) [a, b] := by
  intro i hi
  refine ⟨_, rfl, ?_⟩
  rw [show (⟨w.heap.size, 0, none⟩ : Addr).add i = ⟨w.heap.size, i, none⟩ from by rw [Addr.add_lit, Nat.zero_add], cell_of_row _ _ i _ t _ (heap_alloc_new w _)]
  match i, hi with
  | 0, _ => rfl
  | 1, _ => rfl
theorem ints_one (w : World) (a : Int) (t : TypeId) : Ints (w.alloc (.cells #[.int .i64 a] t)) (some ⟨w.heap.size, 0, none⟩) [a] := by
  intro i hi
  refine ⟨_, rfl, ?_⟩
  rw [show (⟨w.heap.size, 0, none⟩ : Addr).add i = ⟨w.heap.size, i, none⟩ from by rw [Addr.add_lit, Nat.zero_add], cell_of_row _ _ i _ t _ (heap_alloc_new w _)]
  match i, hi with
  | 0, _ => rfl

theorem of_take (zs : List Int) (k : Nat) (hk : k < zs.length) : ofH (zs.take (k + 1)) = ofH (zs.take k) ||| aH (zs.getD k 0) ∧ ofL (zs.take (k + 1)) = ofL (zs.take k) ||| aL (zs.getD k 0) := by
  rw [List.take_succ_eq_append_getElem hk, getD_get zs k hk]
  exact of_snoc _ _

set_option maxRecDepth 100000 in
set_option maxHeartbeats 1600000 in
theorem of_any (A : Option Addr) (cap : Nat) (zs : List Int) (w : World) (hI : Ints w A zs) (hz : zs.length ≤ 1000) :
    Calls Tryd.prog 26 #[.slice A zs.length cap] w fun e w' => e = .returned (setV (ofH zs) (ofL zs)) ∧ Below w.heap.size w w' := by
  have HI := Lib.hid hI; clear hI
  have HW := Lib.hid (fun (k : Nat) (n : Int) W => with_any (ofH (zs.take k)) (ofL (zs.take k)) n W (of_lt _).1 (of_lt _).2)
  unfold setV at HW
  go_enter Tryd.func26, Tryd.ntmps26
  go_wp2
  go_loopw [5, 8] (fun _ i wr => ∃ k : Nat, k ≤ zs.length ∧ i = .int .i64 (k : Int) ∧ wr.heap[w.heap.size + 1]? = some (setO (ofH (zs.take k)) (ofL (zs.take k))) ∧ wr.heap[w.heap.size]? = some (setO 0 0) ∧ Below w.heap.size w wr) (fun _ i _ => zs.length - (intOf i).toNat)
  case atStart => exact ⟨0, Nat.zero_le _, rfl, heap_alloc2_new _ _ _, heap_alloc2_old _ _ _, hbt (below_al _ _) (below_al _ _)⟩
  case round =>
    obtain ⟨k, hk, rfl, h1, h0, hb⟩ := hrel
    by_cases hlt : k < zs.length
    · obtain ⟨a, rfl, hc⟩ := HI.out.below hb k hlt
      have ho := of_take zs k hlt
      generalize zs.getD k 0 = v at *
      have hw := HW.out k v
      generalize ofH (zs.take k) = x at *
      generalize ofL (zs.take k) = y at *
      generalize x ||| aH v = x' at *
      generalize y ||| aL v = y' at *
      have HO := Lib.hid ho
      have HV := Lib.hid hw
      have H1 := Lib.hid h1
      have H0 := Lib.hid h0
      obtain ⟨c0, c1, _, _⟩ := obj_cells h1
      clear ho hw h1 h0
      go_wp2_with fail
      refine (HV.out _).mono ?_
      rintro e w1 ⟨rfl, hb1⟩
      have hs1 := obj_below H1.out hb1
      have H3 := Lib.hid hs1
      have H2 := Lib.hid (obj_below H0.out hb1)
      have HB := Lib.hid (hbt hb hb1)
      obtain ⟨c2, c3, f2, f3⟩ := obj_cells hs1
      clear hs1 hb1 c0 c1
      go_wp2
      go_roundw
      case rel =>
        refine ⟨k + 1, by omega, by go_num, ?_, ?_, ?_⟩
        · rw [HO.out.1, HO.out.2]; exact obj_set2 H3.out _ _
        · rw [heap_setCell_other _ _ _ _ (by simp), heap_setCell_other _ _ _ _ (by simp)]; exact H2.out
        · exact (HB.out.setCell (p := ⟨w.heap.size + 1, 0, none⟩) (by simp) _).setCell (p := ⟨w.heap.size + 1, 1, none⟩) (by simp) _
      case measure => simp [intOf]; omega
    · have hk2 : k = zs.length := by omega
      have he : zs.take k = zs := by rw [hk2]; exact List.take_of_length_le (Nat.le_refl _)
      rw [he] at h1
      have HE := Lib.hid he
      obtain ⟨c0, c1, _, _⟩ := obj_cells h1
      obtain ⟨c2, c3, f2, f3⟩ := obj_cells h0
      have H0 := Lib.hid h0
      clear h1 h0 he hk2
      generalize hx : ofH zs = x at *
      generalize hy : ofL zs = y at *
      have HX := Lib.hid hx
      have HY := Lib.hid hy
      clear hx hy
      go_wp2
      refine bodyPost_ret (results_cell_row rfl _ _ w.heap.size _ _ _ _ rfl (obj_set2 H0.out _ _) Tryd.underlying46 rfl (by kernel_rfl)) rfl ?_
      exact ⟨by rw [HX.out, HY.out]; rfl, (hb.setCell (p := ⟨w.heap.size, 0, none⟩) (by simp) _).setCell (p := ⟨w.heap.size, 1, none⟩) (by simp) _⟩

end Go.Proofs.YthcdolkpdbbnkaaDoor
