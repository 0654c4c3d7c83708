/-
  What With, Without and Has answer: for every set and number, in every world.
-/
import Derived.Test.YtbclaiaadeecfaaDoorFldSmall
import Derived.Test.YtbclaiaadeecfaaDoorRegHeld
namespace Go.Proofs.YtbclaiaadeecfaaDoor
open Go.RowKit Go.Lib

/-- A set in one block, room for another in a second: what a region keeps. -/
def Two (w : World) (g h l g' : Nat) (u : World) : Prop := Below w.heap.size w u ∧ u.heap[g]? = some (setO h l) ∧ ∃ a b, u.heap[g']? = some (.cells #[a, b] 41)
theorem Two.below {w u u' : World} {g h l g' : Nat} (t : Two w g h l g' u) (hb : Below u.heap.size u u') : Two w g h l g' u' := by
  obtain ⟨h1, h2, a, b, h3⟩ := t
  exact ⟨hbt h1 hb, obj_below h2 hb, a, b, obj_below h3 hb⟩

theorem Two.drew {w u : World} {g h l g' : Nat} (t : Two w g h l g' u) : Two w g h l g' u.drew := ⟨t.1.drew, t.2.1, t.2.2⟩
theorem Two.store {w u : World} {g h l g' : Nat} (t : Two w g h l g' u) (hg : g ≠ g') (hw : w.heap.size ≤ g') (c d : Value) : Two w g h l g' ((u.setCell ⟨g', 0, none⟩ c).setCell ⟨g', 1, none⟩ d) := by
  obtain ⟨h1, h2, a, b, h3⟩ := t
  refine ⟨(h1.setCell (p := ⟨g', 0, none⟩) hw c).setCell (p := ⟨g', 1, none⟩) hw d, ?_, c, d, obj_set2 h3 c d⟩
  rw [heap_setCell_other _ _ _ _ hg, heap_setCell_other _ _ _ _ hg]
  exact h2
theorem two_start (w : World) (h l : Nat) : Two w w.heap.size h l (w.heap.size + 1) ((w.alloc (.cells #[.int .u64 (h : Int), .int .u64 (l : Int)] 41)).alloc (.cells #[.int .u64 0, .int .u64 0] 41)) :=
  ⟨hbt (below_al _ _) (below_al _ _), heap_alloc2_old _ _ _, _, _, heap_alloc2_new _ _ _⟩

set_option maxHeartbeats 800000 in
theorem with_any (h l : Nat) (n : Int) (w : World) (b1 : h < M64) (b2 : l < M64) :
    Calls Tryd.prog 28 #[setV h l, .int .i64 n] w fun e w' => e = .returned (setV (h ||| aH n) (l ||| aL n)) ∧ Below w.heap.size w w' := by
  have HA := Lib.hid (alone_any n)
  have HE := Lib.hid (fun W => either_any h l (aH n) (aL n) W b1 b2 (aH_lt n) (aL_lt n))
  clear b1 b2
  unfold setV at *
  generalize aH n = x at *
  generalize aL n = y at *
  generalize h ||| x = p at *
  generalize l ||| y = q at *
  go_enter Tryd.func28, Tryd.ntmps28
  go_wp2_with fail
  refine wp_region_noPanic ?_
  refine wp_region_held_drew (S := (Two w w.heap.size h l (w.heap.size + 1))) (by kernel_rfl) ((two_start w h l).drew) (fun hS => ?_)
  refine give_val (i := 0) (v := ?_) rfl (by kernel_rfl) (by kernel_rfl) (by kernel_rfl) (fun _ _ _ h => h) (by rfl) (fun u hu => ?_) hS ?_
  rotate_left
  · ((obtain ⟨_, hu2, _⟩ := hu; obtain ⟨c0, c1, _, _⟩ := obj_cells hu2; clear hu2); go_simp; try (with_reducible rfl))
  try simp only [Act.put, List.setIfInBounds_toArray, List.set_cons_zero, List.set_cons_succ]
  refine give_val (i := 1) (v := ?_) rfl (by kernel_rfl) (by kernel_rfl) (by kernel_rfl) (fun _ _ _ h => h) (by rfl) (fun u hu => ?_) hS ?_
  rotate_left
  · ((obtain ⟨_, hu2, _⟩ := hu; obtain ⟨c0, c1, _, _⟩ := obj_cells hu2; clear hu2); go_simp; try (with_reducible rfl))
  try simp only [Act.put, List.setIfInBounds_toArray, List.set_cons_zero, List.set_cons_succ]
  refine only_call (i := 2) 29 #[.int .i64 n] rfl (by kernel_rfl) (by rfl) ((HA.out _).mono fun e w' he => ⟨he.1, hS.below he.2⟩) ?_ ?_
  · (go_simp; try (with_reducible rfl))
  clear hS
  intro w2 hS
  try simp only [Act.put, List.setIfInBounds_toArray, List.set_cons_zero, List.set_cons_succ]
  refine only_call (i := 3) 31 #[.agg #[.int .u64 (h : Int), .int .u64 (l : Int)], .agg #[.int .u64 (x : Int), .int .u64 (y : Int)]] rfl (by kernel_rfl) (by rfl) ((HE.out _).mono fun e w' he => ⟨he.1, hS.below he.2⟩) ?_ ?_
  · (go_simp; try (with_reducible rfl))
  clear hS
  intro w3 hS
  try simp only [Act.put, List.setIfInBounds_toArray, List.set_cons_zero, List.set_cons_succ]
  refine only (i := 4) rfl (by kernel_rfl) (by rfl) (fun K hK => ?_)
  obtain ⟨hS1, hS2, a, b, hS3⟩ := id hS
  obtain ⟨c0, c1, f0, f1⟩ := obj_cells hS3
  go_simp
  refine hK.out _ _ (hS.store (by omega) (by omega) _ _) ?_
  clear hK
  try simp only [Act.put, List.setIfInBounds_toArray, List.set_cons_zero, List.set_cons_succ]
  refine wpAnyH_done (by kernel_rfl) (NoPanic.normal ?_) _
  have hr := obj_set2 hS3 (.int .u64 (p : Int)) (.int .u64 (q : Int))
  have hb := (hS.store (by omega) (by omega) (.int .u64 (p : Int)) (.int .u64 (q : Int))).1
  clear c0 c1 f0 f1 hS1 hS2 hS3 hS
  generalize ((w3.setCell _ _).setCell _ _) = w4 at *
  go_wp2
  refine bodyPost_ret (results_cell_row rfl _ _ (w.heap.size + 1) _ _ _ _ rfl hr Tryd.underlying41 rfl (by kernel_rfl)) rfl ?_
  exact ⟨rfl, hb⟩

set_option maxHeartbeats 800000 in
theorem without_any (h l : Nat) (n : Int) (w : World) (b1 : h < M64) (b2 : l < M64) :
    Calls Tryd.prog 24 #[setV h l, .int .i64 n] w fun e w' => e = .returned (setV (h &&& (fullN - aH n)) (l &&& (fullN - aL n))) ∧ Below w.heap.size w w' := by
  have HA := Lib.hid (alone_any n)
  have e1 : bits .andNot .u64 (h : Int) (aH n : Int) = ((h &&& (fullN - aH n) : Nat) : Int) := u64_andNot_nat h (aH n) b1 (aH_lt n)
  have e2 : bits .andNot .u64 (l : Int) (aL n : Int) = ((l &&& (fullN - aL n) : Nat) : Int) := u64_andNot_nat l (aL n) b2 (aL_lt n)
  clear b1 b2
  unfold setV at *
  generalize h &&& (fullN - aH n) = p at *
  generalize l &&& (fullN - aL n) = q at *
  generalize aH n = x at *
  generalize aL n = y at *
  go_enter Tryd.func24, Tryd.ntmps24
  go_wp2_with fail
  refine (HA.out _).mono ?_
  rintro e w1 ⟨rfl, hb⟩
  obtain ⟨hS1, hS2, a, b, hS3⟩ := (two_start w h l).below hb
  obtain ⟨c0, c1, _, _⟩ := obj_cells hS2
  obtain ⟨c2, c3, f2, f3⟩ := obj_cells hS3
  have k1 := obj_lt hS2
  have k2 := obj_lt hS3
  have H1 := Lib.hid hS1; have H3 := Lib.hid hS3
  clear hS1 hS2 hS3 hb
  go_wp2
  refine bodyPost_ret (results_cell_row rfl _ _ (w.heap.size + 1) _ _ _ _ rfl ((heap_alloc_old' _ _ _ (by simp; omega)).trans (obj_set2 H3.out _ _)) Tryd.underlying41 rfl (by kernel_rfl)) rfl ?_
  exact ⟨rfl, ((H1.out.setCell (p := ⟨w.heap.size + 1, 0, none⟩) (by simp) _).setCell (p := ⟨w.heap.size + 1, 1, none⟩) (by simp) _).alloc (by simp; omega) _⟩

set_option maxHeartbeats 800000 in
theorem has_any (h l : Nat) (n : Int) (w : World) (b1 : h < M64) (b2 : l < M64) :
    Calls Tryd.prog 16 #[setV h l, .int .i64 n] w fun e w' => e = .returned (.bool (hasN h l n)) ∧ Below w.heap.size w w' := by
  have HA := Lib.hid (fun W => without_any h l n W b1 b2)
  have hv := has_iff b1 b2 n
  clear b1 b2
  unfold setV at *
  generalize h &&& (fullN - aH n) = p at *
  generalize l &&& (fullN - aL n) = q at *
  generalize hasN h l n = r at *
  go_enter Tryd.func16, Tryd.ntmps16
  go_wp2_with fail
  refine wp_region_noPanic ?_
  refine wp_region_held_drew (S := (fun u => Below w.heap.size w u ∧ u.heap[w.heap.size]? = some (setO h l))) (by kernel_rfl) (⟨(below_al _ _).drew, heap_alloc_new _ _⟩) (fun hS => ?_)
  refine give_val (i := 0) (v := ?_) rfl (by kernel_rfl) (by kernel_rfl) (by kernel_rfl) (fun _ _ _ h => h) (by rfl) (fun u hu => ?_) hS ?_
  rotate_left
  · ((obtain ⟨_, hu2⟩ := hu; obtain ⟨c0, c1, _, _⟩ := obj_cells hu2; clear hu2); go_simp; try (with_reducible rfl))
  try simp only [Act.put, List.setIfInBounds_toArray, List.set_cons_zero, List.set_cons_succ]
  refine give_val (i := 1) (v := ?_) rfl (by kernel_rfl) (by kernel_rfl) (by kernel_rfl) (fun _ _ _ h => h) (by rfl) (fun u hu => ?_) hS ?_
  rotate_left
  · ((obtain ⟨_, hu2⟩ := hu; obtain ⟨c0, c1, _, _⟩ := obj_cells hu2; clear hu2); go_simp; try (with_reducible rfl))
  try simp only [Act.put, List.setIfInBounds_toArray, List.set_cons_zero, List.set_cons_succ]
  refine give_val (i := 3) (v := ?_) rfl (by kernel_rfl) (by kernel_rfl) (by kernel_rfl) (fun _ _ _ h => h) (by rfl) (fun u hu => ?_) hS ?_
  rotate_left
  · ((obtain ⟨_, hu2⟩ := hu; obtain ⟨c0, c1, _, _⟩ := obj_cells hu2; clear hu2); go_simp; try (with_reducible rfl))
  try simp only [Act.put, List.setIfInBounds_toArray, List.set_cons_zero, List.set_cons_succ]
  refine only_call (i := 2) 24 #[.agg #[.int .u64 (h : Int), .int .u64 (l : Int)], .int .i64 n] rfl (by kernel_rfl) (by rfl) ((HA.out _).mono fun e w' he => ⟨he.1, hbt hS.1 he.2, obj_below hS.2 he.2⟩) ?_ ?_
  · (go_simp; try (with_reducible rfl))
  clear hS
  intro w2 hS
  try simp only [Act.put, List.setIfInBounds_toArray, List.set_cons_zero, List.set_cons_succ]
  refine give_val (i := 4) (v := (.bool r)) rfl (by kernel_rfl) (by kernel_rfl) (by kernel_rfl) (fun _ _ _ h => h) (by rfl) (fun u hu => ?_) hS ?_
  · ((obtain ⟨_, hu2⟩ := hu; obtain ⟨c0, c1, _, _⟩ := obj_cells hu2; clear hu2); go_simp; (cases r <;> by_cases h1 : p = h <;> by_cases h2 : q = l <;> simp_all <;> (intros; omega)))
  try simp only [Act.put, List.setIfInBounds_toArray, List.set_cons_zero, List.set_cons_succ]
  refine give_val (i := 5) (v := ?_) rfl (by kernel_rfl) (by kernel_rfl) (by kernel_rfl) (fun _ _ _ h => h) (by rfl) (fun u hu => ?_) hS ?_
  rotate_left
  · ((obtain ⟨_, hu2⟩ := hu; obtain ⟨c0, c1, _, _⟩ := obj_cells hu2; clear hu2); go_simp; try (with_reducible rfl))
  try simp only [Act.put, List.setIfInBounds_toArray, List.set_cons_zero, List.set_cons_succ]
  refine wpAnyH_done (by kernel_rfl) (NoPanic.normal ?_) _
  go_wp2
  go_ret
  exact ⟨rfl, hS.1⟩

end Go.Proofs.YtbclaiaadeecfaaDoor
