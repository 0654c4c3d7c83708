/-
  FieldsOrder: with and without one more number a set is just that, and no set is changed by it: for every input, in every world.
-/
import Derived.Test.YtlclmhninhdfnaaFldAwake
import Derived.Deep.DeepCutAuto
namespace Go.Proofs.Ytlclmhninhdfnaa
open Go.RowKit

/-- Three sets in three blocks: what a region keeps. -/
def Three (w : World) (g h l p x y q x' y' : Nat) (u : World) : Prop := Below w.heap.size w u ∧ u.heap[g]? = some (setO h l) ∧ u.heap[p]? = some (setO x y) ∧ u.heap[q]? = some (setO x' y')
theorem Three.below {w u u' : World} {g h l p x y q x' y' : Nat} (t : Three w g h l p x y q x' y' u) (hb : Below u.heap.size u u') : Three w g h l p x y q x' y' u' :=
  ⟨hbt t.1 hb, obj_below t.2.1 hb, obj_below t.2.2.1 hb, obj_below t.2.2.2 hb⟩
theorem Three.drew {w u : World} {g h l p x y q x' y' : Nat} (t : Three w g h l p x y q x' y' u) : Three w g h l p x y q x' y' u.drew := ⟨t.1.drew, t.2⟩

theorem with_self (h l : Nat) (n : Int) : hasN (h ||| aH n) (l ||| aL n) n = decide (1 ≤ n ∧ n ≤ 128) := by
  rw [has_with]
  by_cases hn : 1 ≤ n ∧ n ≤ 128
  · simp [hn]
  · rw [has_out h l n (by omega)]
    simp [hn]
theorem with_other (h l : Nat) (n m : Int) (e : ¬ m = n) : hasN (h ||| aH n) (l ||| aL n) m = hasN h l m := by
  rw [has_with]
  simp [e]
theorem without_self (h l : Nat) (n : Int) : hasN (h &&& (fullN - aH n)) (l &&& (fullN - aL n)) n = false := by
  rw [has_without]
  simp
theorem without_other (h l : Nat) (n m : Int) (e : ¬ m = n) : hasN (h &&& (fullN - aH n)) (l &&& (fullN - aL n)) m = hasN h l m := by
  rw [has_without]
  simp [e]

set_option maxHeartbeats 6400000 in
theorem order_law (h l : Nat) (n m : Int) (w : World) (b1 : h < M64) (b2 : l < M64) :
    Calls Try.prog 5 #[.agg #[.int .u64 (h : Int), .int .u64 (l : Int)], .int .i64 n, .int .i64 m] w fun e w' => e = .returned (.bool true) ∧ Below w.heap.size w w' := by
  have C1 := Lib.hid (fun W => bits_any h l W)
  have C2 := Lib.hid (fun W => with_any h l n W b1 b2)
  have C3 := Lib.hid (fun W => without_any h l n W b1 b2)
  have b3 : h ||| aH n < M64 := or_lt b1 (aH_lt n)
  have b4 : l ||| aL n < M64 := or_lt b2 (aL_lt n)
  have b5 : h &&& (fullN - aH n) < M64 := and_lt b1
  have b6 : l &&& (fullN - aL n) < M64 := and_lt b2
  have C4 := Lib.hid (fun W => by have := has_any _ _ n W b3 b4; rw [with_self] at this; exact this)
  have C5 := Lib.hid (fun W => by have := has_any _ _ n W b5 b6; rw [without_self] at this; exact this)
  have C6 := Lib.hid (fun (e : ¬ m = n) W => by have := has_any _ _ m W b3 b4; rw [with_other h l n m e] at this; exact this)
  have C7 := Lib.hid (fun (e : ¬ m = n) W => by have := has_any _ _ m W b5 b6; rw [without_other h l n m e] at this; exact this)
  have C8 := Lib.hid (fun W => has_any h l m W b1 b2)
  clear b1 b2 b3 b4 b5 b6
  unfold setV at *
  generalize h ||| aH n = x at *
  generalize l ||| aL n = y at *
  generalize h &&& (fullN - aH n) = x' at *
  generalize l &&& (fullN - aL n) = y' at *
  generalize hasN h l m = rm at *
  generalize hr : decide (1 ≤ n ∧ n ≤ 128) = r at *
  have HR := Lib.hid hr
  clear hr
  go_enter Try.func5, Try.ntmps5
  go_wp2_with fail
  go_quiet (fail)
  go_wp2_with fail
  refine (C1.out _).mono ?_
  rintro e w1 ⟨rfl, hb1⟩
  have HB0 := Lib.hid (hbt (hbt (below_drewN (below_al w _) nq) hb1) (below_al w1 (setO h l)))
  have HO0 := Lib.hid (heap_alloc_new w1 (setO h l))
  have hw1 : w.heap.size < w1.heap.size := Nat.lt_of_lt_of_le (by simp) hb1.size
  clear hb1
  go_upto_region 3 with fail
  go_cut [10, 11] (fun s10 s11 wx => ∃ p q : Nat, s10 = .pointer (some ⟨p, 0, none⟩) ∧ s11 = .pointer (some ⟨q, 0, none⟩) ∧ Three w w1.heap.size h l p x y q x' y' wx)
  case first =>
    refine wp_region_noPanic ?_
    refine wp_region_held_drew (S := (fun u => Below w.heap.size w u ∧ u.heap[w1.heap.size]? = some (setO h l))) (by kernel_rfl) (⟨HB0.out.drew, HO0.out⟩) (fun hS => ?_)
    refine give_val (i := 0) (v := ?_) rfl (by kernel_rfl) (by kernel_rfl) (by kernel_rfl) (fun _ _ _ h => h) (by rfl) (fun u hu => ?_) hS ?_
    rotate_left
    · ((obtain ⟨_, hu2⟩ := hu; obtain ⟨c0, c1, _, _⟩ := obj_cells hu2; clear hu2); go_simp; try (with_reducible rfl))
    try simp only [Act.put, List.setIfInBounds_toArray, List.set_cons_zero, List.set_cons_succ]
    refine give_val (i := 1) (v := ?_) rfl (by kernel_rfl) (by kernel_rfl) (by kernel_rfl) (fun _ _ _ h => h) (by rfl) (fun u hu => ?_) hS ?_
    rotate_left
    · ((obtain ⟨_, hu2⟩ := hu; obtain ⟨c0, c1, _, _⟩ := obj_cells hu2; clear hu2); go_simp; try (with_reducible rfl))
    try simp only [Act.put, List.setIfInBounds_toArray, List.set_cons_zero, List.set_cons_succ]
    refine give_val (i := 3) (v := ?_) rfl (by kernel_rfl) (by kernel_rfl) (by kernel_rfl) (fun _ _ _ h => h) (by rfl) (fun u hu => ?_) hS ?_
    rotate_left
    · ((obtain ⟨_, hu2⟩ := hu; obtain ⟨c0, c1, _, _⟩ := obj_cells hu2; clear hu2); go_simp; try (with_reducible rfl))
    try simp only [Act.put, List.setIfInBounds_toArray, List.set_cons_zero, List.set_cons_succ]
    refine give_val (i := 4) (v := ?_) rfl (by kernel_rfl) (by kernel_rfl) (by kernel_rfl) (fun _ _ _ h => h) (by rfl) (fun u hu => ?_) hS ?_
    rotate_left
    · ((obtain ⟨_, hu2⟩ := hu; obtain ⟨c0, c1, _, _⟩ := obj_cells hu2; clear hu2); go_simp; try (with_reducible rfl))
    try simp only [Act.put, List.setIfInBounds_toArray, List.set_cons_zero, List.set_cons_succ]
    refine wpAnyH_ready (rs := [2, 6, 7]) (by kernel_rfl) (by simp) (arm_call (i := 2) 21 #[.agg #[.int .u64 (h : Int), .int .u64 (l : Int)], .int .i64 n] rfl (by rfl) (C2.out _) ?_ ?_ (arm_alloc (i := 6) (.cells #[.int .u64 0, .int .u64 0] 24) rfl (by rfl) ?_ ?_ (arm_alloc (i := 7) (.cells #[.int .u64 0, .int .u64 0] 24) rfl (by rfl) ?_ ?_ AllReadyH.nil)))
    · (go_simp; try (with_reducible rfl))
    · intro u' hb
      have hS' : (fun u => Below w.heap.size w u ∧ u.heap[w1.heap.size]? = some (setO h l)) u' := ⟨hbt hS.1 hb, obj_below hS.2 hb⟩
      refine ⟨hS', ?_⟩
      clear hS hb
      have hS := hS'; clear hS'
      rename World => u
      try simp only [Act.put, List.setIfInBounds_toArray, List.set_cons_zero, List.set_cons_succ]
      refine wpAnyH_ready (rs := [5, 6, 7]) (by kernel_rfl) (by simp) (arm_call (i := 5) 22 #[.agg #[.int .u64 (h : Int), .int .u64 (l : Int)], .int .i64 n] rfl (by rfl) (C3.out _) ?_ ?_ (arm_alloc (i := 6) (.cells #[.int .u64 0, .int .u64 0] 24) rfl (by rfl) ?_ ?_ (arm_alloc (i := 7) (.cells #[.int .u64 0, .int .u64 0] 24) rfl (by rfl) ?_ ?_ AllReadyH.nil)))
      · (go_simp; try (with_reducible rfl))
      · intro u' hb
        have hS' : (fun u => Below w.heap.size w u ∧ u.heap[w1.heap.size]? = some (setO h l)) u' := ⟨hbt hS.1 hb, obj_below hS.2 hb⟩
        refine ⟨hS', ?_⟩
        clear hS hb
        have hS := hS'; clear hS'
        rename World => u
        try simp only [Act.put, List.setIfInBounds_toArray, List.set_cons_zero, List.set_cons_succ]
        refine wpAnyH_ready (rs := [6, 7]) (by kernel_rfl) (by simp) (arm_alloc (i := 6) (.cells #[.int .u64 0, .int .u64 0] 24) rfl (by rfl) ?_ ?_ (arm_alloc (i := 7) (.cells #[.int .u64 0, .int .u64 0] 24) rfl (by rfl) ?_ ?_ AllReadyH.nil))
        · (go_simp; try (with_reducible rfl))
        · intro p6 u' hb ho6 hp6
          replace hp6 := Nat.le_trans (obj_lt hS.2) hp6
          have hS' : (fun u => Below w.heap.size w u ∧ u.heap[w1.heap.size]? = some (setO h l)) u' := ⟨hbt hS.1 hb, obj_below hS.2 hb⟩
          refine ⟨hS', ?_⟩
          clear hS hb
          have hS := hS'; clear hS'
          rename World => u
          try simp only [Act.put, List.setIfInBounds_toArray, List.set_cons_zero, List.set_cons_succ]
          refine wpAnyH_ready (rs := [7]) (by kernel_rfl) (by simp) (arm_alloc (i := 7) (.cells #[.int .u64 0, .int .u64 0] 24) rfl (by rfl) ?_ ?_ AllReadyH.nil)
          · (go_simp; try (with_reducible rfl))
          · intro p7 u' hb ho7 hp7
            have ne6_7 : p6 ≠ p7 := by have := obj_lt ho6; omega
            replace hp7 := Nat.le_trans (obj_lt hS.2) hp7
            have hS' : (fun u => Below w.heap.size w u ∧ u.heap[w1.heap.size]? = some (setO h l)) u' := ⟨hbt hS.1 hb, obj_below hS.2 hb⟩
            refine ⟨hS', ?_⟩
            replace ho6 := obj_below ho6 hb
            clear hS hb
            have hS := hS'; clear hS'
            rename World => u
            try simp only [Act.put, List.setIfInBounds_toArray, List.set_cons_zero, List.set_cons_succ]
            have hb0 := Nat.le_trans (Nat.le_of_lt hw1) (Nat.le_of_lt hp6)
            have hb7 := Nat.le_trans (Nat.le_of_lt hw1) (Nat.le_of_lt hp7)
            obtain ⟨c0, c1, f0, f1⟩ := obj_cells ho6
            have hr8 := obj_set2 ho6 (.int .u64 (x : Int)) (.int .u64 (y : Int))
            have ho8 := obj_set_other ho7 (Ne.symm ne6_7) (.int .u64 (x : Int)) (.int .u64 (y : Int))
            have hS8 : Below w.heap.size w _ ∧ _ = some (setO h l) := ⟨below_set2 hS.1 hb0 (.int .u64 (x : Int)) (.int .u64 (y : Int)), obj_set_other hS.2 (Nat.ne_of_lt hp6) (.int .u64 (x : Int)) (.int .u64 (y : Int))⟩
            refine only (i := 8) rfl (by kernel_rfl) (by rfl) (fun K hK => ?_)
            go_simp
            refine hK.out _ _ hS8 ?_
            clear hK
            try simp only [Act.put, List.setIfInBounds_toArray, List.set_cons_zero, List.set_cons_succ]
            clear c0 c1 f0 f1 hS ho6 ho7
            generalize ((u.setCell _ _).setCell _ _) = u8 at *
            obtain ⟨c0, c1, f0, f1⟩ := obj_cells ho8
            have hr9 := obj_set2 ho8 (.int .u64 (x' : Int)) (.int .u64 (y' : Int))
            have hr8' := obj_set_other hr8 ne6_7 (.int .u64 (x' : Int)) (.int .u64 (y' : Int))
            have hS9 : Below w.heap.size w _ ∧ _ = some (setO h l) := ⟨below_set2 hS8.1 hb7 (.int .u64 (x' : Int)) (.int .u64 (y' : Int)), obj_set_other hS8.2 (Nat.ne_of_lt hp7) (.int .u64 (x' : Int)) (.int .u64 (y' : Int))⟩
            refine only (i := 9) rfl (by kernel_rfl) (by rfl) (fun K hK => ?_)
            go_simp
            refine hK.out _ _ hS9 ?_
            clear hK
            try simp only [Act.put, List.setIfInBounds_toArray, List.set_cons_zero, List.set_cons_succ]
            refine wpAnyH_done (by kernel_rfl) (NoPanic.normal ?_) _
            go_wp2_with fail
            go_meet
            exact ⟨p6, p7, rfl, rfl, hS9.1, hS9.2, hr8', hr9⟩
        · (go_simp; try (with_reducible rfl))
        · intro p7 u' hb ho7 hp7
          replace hp7 := Nat.le_trans (obj_lt hS.2) hp7
          have hS' : (fun u => Below w.heap.size w u ∧ u.heap[w1.heap.size]? = some (setO h l)) u' := ⟨hbt hS.1 hb, obj_below hS.2 hb⟩
          refine ⟨hS', ?_⟩
          clear hS hb
          have hS := hS'; clear hS'
          rename World => u
          try simp only [Act.put, List.setIfInBounds_toArray, List.set_cons_zero, List.set_cons_succ]
          refine wpAnyH_ready (rs := [6]) (by kernel_rfl) (by simp) (arm_alloc (i := 6) (.cells #[.int .u64 0, .int .u64 0] 24) rfl (by rfl) ?_ ?_ AllReadyH.nil)
          · (go_simp; try (with_reducible rfl))
          · intro p6 u' hb ho6 hp6
            have ne6_7 : p6 ≠ p7 := by have := obj_lt ho7; omega
            replace hp6 := Nat.le_trans (obj_lt hS.2) hp6
            have hS' : (fun u => Below w.heap.size w u ∧ u.heap[w1.heap.size]? = some (setO h l)) u' := ⟨hbt hS.1 hb, obj_below hS.2 hb⟩
            refine ⟨hS', ?_⟩
            replace ho7 := obj_below ho7 hb
            clear hS hb
            have hS := hS'; clear hS'
            rename World => u
            try simp only [Act.put, List.setIfInBounds_toArray, List.set_cons_zero, List.set_cons_succ]
            have hb0 := Nat.le_trans (Nat.le_of_lt hw1) (Nat.le_of_lt hp6)
            have hb7 := Nat.le_trans (Nat.le_of_lt hw1) (Nat.le_of_lt hp7)
            obtain ⟨c0, c1, f0, f1⟩ := obj_cells ho6
            have hr8 := obj_set2 ho6 (.int .u64 (x : Int)) (.int .u64 (y : Int))
            have ho8 := obj_set_other ho7 (Ne.symm ne6_7) (.int .u64 (x : Int)) (.int .u64 (y : Int))
            have hS8 : Below w.heap.size w _ ∧ _ = some (setO h l) := ⟨below_set2 hS.1 hb0 (.int .u64 (x : Int)) (.int .u64 (y : Int)), obj_set_other hS.2 (Nat.ne_of_lt hp6) (.int .u64 (x : Int)) (.int .u64 (y : Int))⟩
            refine only (i := 8) rfl (by kernel_rfl) (by rfl) (fun K hK => ?_)
            go_simp
            refine hK.out _ _ hS8 ?_
            clear hK
            try simp only [Act.put, List.setIfInBounds_toArray, List.set_cons_zero, List.set_cons_succ]
            clear c0 c1 f0 f1 hS ho6 ho7
            generalize ((u.setCell _ _).setCell _ _) = u8 at *
            obtain ⟨c0, c1, f0, f1⟩ := obj_cells ho8
            have hr9 := obj_set2 ho8 (.int .u64 (x' : Int)) (.int .u64 (y' : Int))
            have hr8' := obj_set_other hr8 ne6_7 (.int .u64 (x' : Int)) (.int .u64 (y' : Int))
            have hS9 : Below w.heap.size w _ ∧ _ = some (setO h l) := ⟨below_set2 hS8.1 hb7 (.int .u64 (x' : Int)) (.int .u64 (y' : Int)), obj_set_other hS8.2 (Nat.ne_of_lt hp7) (.int .u64 (x' : Int)) (.int .u64 (y' : Int))⟩
            refine only (i := 9) rfl (by kernel_rfl) (by rfl) (fun K hK => ?_)
            go_simp
            refine hK.out _ _ hS9 ?_
            clear hK
            try simp only [Act.put, List.setIfInBounds_toArray, List.set_cons_zero, List.set_cons_succ]
            refine wpAnyH_done (by kernel_rfl) (NoPanic.normal ?_) _
            go_wp2_with fail
            go_meet
            exact ⟨p6, p7, rfl, rfl, hS9.1, hS9.2, hr8', hr9⟩
      · (go_simp; try (with_reducible rfl))
      · intro p6 u' hb ho6 hp6
        replace hp6 := Nat.le_trans (obj_lt hS.2) hp6
        have hS' : (fun u => Below w.heap.size w u ∧ u.heap[w1.heap.size]? = some (setO h l)) u' := ⟨hbt hS.1 hb, obj_below hS.2 hb⟩
        refine ⟨hS', ?_⟩
        clear hS hb
        have hS := hS'; clear hS'
        rename World => u
        try simp only [Act.put, List.setIfInBounds_toArray, List.set_cons_zero, List.set_cons_succ]
        refine wpAnyH_ready (rs := [5, 7]) (by kernel_rfl) (by simp) (arm_call (i := 5) 22 #[.agg #[.int .u64 (h : Int), .int .u64 (l : Int)], .int .i64 n] rfl (by rfl) (C3.out _) ?_ ?_ (arm_alloc (i := 7) (.cells #[.int .u64 0, .int .u64 0] 24) rfl (by rfl) ?_ ?_ AllReadyH.nil))
        · (go_simp; try (with_reducible rfl))
        · intro u' hb
          have hS' : (fun u => Below w.heap.size w u ∧ u.heap[w1.heap.size]? = some (setO h l)) u' := ⟨hbt hS.1 hb, obj_below hS.2 hb⟩
          refine ⟨hS', ?_⟩
          replace ho6 := obj_below ho6 hb
          clear hS hb
          have hS := hS'; clear hS'
          rename World => u
          try simp only [Act.put, List.setIfInBounds_toArray, List.set_cons_zero, List.set_cons_succ]
          refine wpAnyH_ready (rs := [7]) (by kernel_rfl) (by simp) (arm_alloc (i := 7) (.cells #[.int .u64 0, .int .u64 0] 24) rfl (by rfl) ?_ ?_ AllReadyH.nil)
          · (go_simp; try (with_reducible rfl))
          · intro p7 u' hb ho7 hp7
            have ne6_7 : p6 ≠ p7 := by have := obj_lt ho6; omega
            replace hp7 := Nat.le_trans (obj_lt hS.2) hp7
            have hS' : (fun u => Below w.heap.size w u ∧ u.heap[w1.heap.size]? = some (setO h l)) u' := ⟨hbt hS.1 hb, obj_below hS.2 hb⟩
            refine ⟨hS', ?_⟩
            replace ho6 := obj_below ho6 hb
            clear hS hb
            have hS := hS'; clear hS'
            rename World => u
            try simp only [Act.put, List.setIfInBounds_toArray, List.set_cons_zero, List.set_cons_succ]
            have hb0 := Nat.le_trans (Nat.le_of_lt hw1) (Nat.le_of_lt hp6)
            have hb7 := Nat.le_trans (Nat.le_of_lt hw1) (Nat.le_of_lt hp7)
            obtain ⟨c0, c1, f0, f1⟩ := obj_cells ho6
            have hr8 := obj_set2 ho6 (.int .u64 (x : Int)) (.int .u64 (y : Int))
            have ho8 := obj_set_other ho7 (Ne.symm ne6_7) (.int .u64 (x : Int)) (.int .u64 (y : Int))
            have hS8 : Below w.heap.size w _ ∧ _ = some (setO h l) := ⟨below_set2 hS.1 hb0 (.int .u64 (x : Int)) (.int .u64 (y : Int)), obj_set_other hS.2 (Nat.ne_of_lt hp6) (.int .u64 (x : Int)) (.int .u64 (y : Int))⟩
            refine only (i := 8) rfl (by kernel_rfl) (by rfl) (fun K hK => ?_)
            go_simp
            refine hK.out _ _ hS8 ?_
            clear hK
            try simp only [Act.put, List.setIfInBounds_toArray, List.set_cons_zero, List.set_cons_succ]
            clear c0 c1 f0 f1 hS ho6 ho7
            generalize ((u.setCell _ _).setCell _ _) = u8 at *
            obtain ⟨c0, c1, f0, f1⟩ := obj_cells ho8
            have hr9 := obj_set2 ho8 (.int .u64 (x' : Int)) (.int .u64 (y' : Int))
            have hr8' := obj_set_other hr8 ne6_7 (.int .u64 (x' : Int)) (.int .u64 (y' : Int))
            have hS9 : Below w.heap.size w _ ∧ _ = some (setO h l) := ⟨below_set2 hS8.1 hb7 (.int .u64 (x' : Int)) (.int .u64 (y' : Int)), obj_set_other hS8.2 (Nat.ne_of_lt hp7) (.int .u64 (x' : Int)) (.int .u64 (y' : Int))⟩
            refine only (i := 9) rfl (by kernel_rfl) (by rfl) (fun K hK => ?_)
            go_simp
            refine hK.out _ _ hS9 ?_
            clear hK
            try simp only [Act.put, List.setIfInBounds_toArray, List.set_cons_zero, List.set_cons_succ]
            refine wpAnyH_done (by kernel_rfl) (NoPanic.normal ?_) _
            go_wp2_with fail
            go_meet
            exact ⟨p6, p7, rfl, rfl, hS9.1, hS9.2, hr8', hr9⟩
        · (go_simp; try (with_reducible rfl))
        · intro p7 u' hb ho7 hp7
          have ne6_7 : p6 ≠ p7 := by have := obj_lt ho6; omega
          replace hp7 := Nat.le_trans (obj_lt hS.2) hp7
          have hS' : (fun u => Below w.heap.size w u ∧ u.heap[w1.heap.size]? = some (setO h l)) u' := ⟨hbt hS.1 hb, obj_below hS.2 hb⟩
          refine ⟨hS', ?_⟩
          replace ho6 := obj_below ho6 hb
          clear hS hb
          have hS := hS'; clear hS'
          rename World => u
          try simp only [Act.put, List.setIfInBounds_toArray, List.set_cons_zero, List.set_cons_succ]
          refine wpAnyH_ready (rs := [5]) (by kernel_rfl) (by simp) (arm_call (i := 5) 22 #[.agg #[.int .u64 (h : Int), .int .u64 (l : Int)], .int .i64 n] rfl (by rfl) (C3.out _) ?_ ?_ AllReadyH.nil)
          · (go_simp; try (with_reducible rfl))
          · intro u' hb
            have hS' : (fun u => Below w.heap.size w u ∧ u.heap[w1.heap.size]? = some (setO h l)) u' := ⟨hbt hS.1 hb, obj_below hS.2 hb⟩
            refine ⟨hS', ?_⟩
            replace ho6 := obj_below ho6 hb
            replace ho7 := obj_below ho7 hb
            clear hS hb
            have hS := hS'; clear hS'
            rename World => u
            try simp only [Act.put, List.setIfInBounds_toArray, List.set_cons_zero, List.set_cons_succ]
            have hb0 := Nat.le_trans (Nat.le_of_lt hw1) (Nat.le_of_lt hp6)
            have hb7 := Nat.le_trans (Nat.le_of_lt hw1) (Nat.le_of_lt hp7)
            obtain ⟨c0, c1, f0, f1⟩ := obj_cells ho6
            have hr8 := obj_set2 ho6 (.int .u64 (x : Int)) (.int .u64 (y : Int))
            have ho8 := obj_set_other ho7 (Ne.symm ne6_7) (.int .u64 (x : Int)) (.int .u64 (y : Int))
            have hS8 : Below w.heap.size w _ ∧ _ = some (setO h l) := ⟨below_set2 hS.1 hb0 (.int .u64 (x : Int)) (.int .u64 (y : Int)), obj_set_other hS.2 (Nat.ne_of_lt hp6) (.int .u64 (x : Int)) (.int .u64 (y : Int))⟩
            refine only (i := 8) rfl (by kernel_rfl) (by rfl) (fun K hK => ?_)
            go_simp
            refine hK.out _ _ hS8 ?_
            clear hK
            try simp only [Act.put, List.setIfInBounds_toArray, List.set_cons_zero, List.set_cons_succ]
            clear c0 c1 f0 f1 hS ho6 ho7
            generalize ((u.setCell _ _).setCell _ _) = u8 at *
            obtain ⟨c0, c1, f0, f1⟩ := obj_cells ho8
            have hr9 := obj_set2 ho8 (.int .u64 (x' : Int)) (.int .u64 (y' : Int))
            have hr8' := obj_set_other hr8 ne6_7 (.int .u64 (x' : Int)) (.int .u64 (y' : Int))
            have hS9 : Below w.heap.size w _ ∧ _ = some (setO h l) := ⟨below_set2 hS8.1 hb7 (.int .u64 (x' : Int)) (.int .u64 (y' : Int)), obj_set_other hS8.2 (Nat.ne_of_lt hp7) (.int .u64 (x' : Int)) (.int .u64 (y' : Int))⟩
            refine only (i := 9) rfl (by kernel_rfl) (by rfl) (fun K hK => ?_)
            go_simp
            refine hK.out _ _ hS9 ?_
            clear hK
            try simp only [Act.put, List.setIfInBounds_toArray, List.set_cons_zero, List.set_cons_succ]
            refine wpAnyH_done (by kernel_rfl) (NoPanic.normal ?_) _
            go_wp2_with fail
            go_meet
            exact ⟨p6, p7, rfl, rfl, hS9.1, hS9.2, hr8', hr9⟩
      · (go_simp; try (with_reducible rfl))
      · intro p7 u' hb ho7 hp7
        replace hp7 := Nat.le_trans (obj_lt hS.2) hp7
        have hS' : (fun u => Below w.heap.size w u ∧ u.heap[w1.heap.size]? = some (setO h l)) u' := ⟨hbt hS.1 hb, obj_below hS.2 hb⟩
        refine ⟨hS', ?_⟩
        clear hS hb
        have hS := hS'; clear hS'
        rename World => u
        try simp only [Act.put, List.setIfInBounds_toArray, List.set_cons_zero, List.set_cons_succ]
        refine wpAnyH_ready (rs := [5, 6]) (by kernel_rfl) (by simp) (arm_call (i := 5) 22 #[.agg #[.int .u64 (h : Int), .int .u64 (l : Int)], .int .i64 n] rfl (by rfl) (C3.out _) ?_ ?_ (arm_alloc (i := 6) (.cells #[.int .u64 0, .int .u64 0] 24) rfl (by rfl) ?_ ?_ AllReadyH.nil))
        · (go_simp; try (with_reducible rfl))
        · intro u' hb
          have hS' : (fun u => Below w.heap.size w u ∧ u.heap[w1.heap.size]? = some (setO h l)) u' := ⟨hbt hS.1 hb, obj_below hS.2 hb⟩
          refine ⟨hS', ?_⟩
          replace ho7 := obj_below ho7 hb
          clear hS hb
          have hS := hS'; clear hS'
          rename World => u
          try simp only [Act.put, List.setIfInBounds_toArray, List.set_cons_zero, List.set_cons_succ]
          refine wpAnyH_ready (rs := [6]) (by kernel_rfl) (by simp) (arm_alloc (i := 6) (.cells #[.int .u64 0, .int .u64 0] 24) rfl (by rfl) ?_ ?_ AllReadyH.nil)
          · (go_simp; try (with_reducible rfl))
          · intro p6 u' hb ho6 hp6
            have ne6_7 : p6 ≠ p7 := by have := obj_lt ho7; omega
            replace hp6 := Nat.le_trans (obj_lt hS.2) hp6
            have hS' : (fun u => Below w.heap.size w u ∧ u.heap[w1.heap.size]? = some (setO h l)) u' := ⟨hbt hS.1 hb, obj_below hS.2 hb⟩
            refine ⟨hS', ?_⟩
            replace ho7 := obj_below ho7 hb
            clear hS hb
            have hS := hS'; clear hS'
            rename World => u
            try simp only [Act.put, List.setIfInBounds_toArray, List.set_cons_zero, List.set_cons_succ]
            have hb0 := Nat.le_trans (Nat.le_of_lt hw1) (Nat.le_of_lt hp6)
            have hb7 := Nat.le_trans (Nat.le_of_lt hw1) (Nat.le_of_lt hp7)
            obtain ⟨c0, c1, f0, f1⟩ := obj_cells ho6
            have hr8 := obj_set2 ho6 (.int .u64 (x : Int)) (.int .u64 (y : Int))
            have ho8 := obj_set_other ho7 (Ne.symm ne6_7) (.int .u64 (x : Int)) (.int .u64 (y : Int))
            have hS8 : Below w.heap.size w _ ∧ _ = some (setO h l) := ⟨below_set2 hS.1 hb0 (.int .u64 (x : Int)) (.int .u64 (y : Int)), obj_set_other hS.2 (Nat.ne_of_lt hp6) (.int .u64 (x : Int)) (.int .u64 (y : Int))⟩
            refine only (i := 8) rfl (by kernel_rfl) (by rfl) (fun K hK => ?_)
            go_simp
            refine hK.out _ _ hS8 ?_
            clear hK
            try simp only [Act.put, List.setIfInBounds_toArray, List.set_cons_zero, List.set_cons_succ]
            clear c0 c1 f0 f1 hS ho6 ho7
            generalize ((u.setCell _ _).setCell _ _) = u8 at *
            obtain ⟨c0, c1, f0, f1⟩ := obj_cells ho8
            have hr9 := obj_set2 ho8 (.int .u64 (x' : Int)) (.int .u64 (y' : Int))
            have hr8' := obj_set_other hr8 ne6_7 (.int .u64 (x' : Int)) (.int .u64 (y' : Int))
            have hS9 : Below w.heap.size w _ ∧ _ = some (setO h l) := ⟨below_set2 hS8.1 hb7 (.int .u64 (x' : Int)) (.int .u64 (y' : Int)), obj_set_other hS8.2 (Nat.ne_of_lt hp7) (.int .u64 (x' : Int)) (.int .u64 (y' : Int))⟩
            refine only (i := 9) rfl (by kernel_rfl) (by rfl) (fun K hK => ?_)
            go_simp
            refine hK.out _ _ hS9 ?_
            clear hK
            try simp only [Act.put, List.setIfInBounds_toArray, List.set_cons_zero, List.set_cons_succ]
            refine wpAnyH_done (by kernel_rfl) (NoPanic.normal ?_) _
            go_wp2_with fail
            go_meet
            exact ⟨p6, p7, rfl, rfl, hS9.1, hS9.2, hr8', hr9⟩
        · (go_simp; try (with_reducible rfl))
        · intro p6 u' hb ho6 hp6
          have ne6_7 : p6 ≠ p7 := by have := obj_lt ho7; omega
          replace hp6 := Nat.le_trans (obj_lt hS.2) hp6
          have hS' : (fun u => Below w.heap.size w u ∧ u.heap[w1.heap.size]? = some (setO h l)) u' := ⟨hbt hS.1 hb, obj_below hS.2 hb⟩
          refine ⟨hS', ?_⟩
          replace ho7 := obj_below ho7 hb
          clear hS hb
          have hS := hS'; clear hS'
          rename World => u
          try simp only [Act.put, List.setIfInBounds_toArray, List.set_cons_zero, List.set_cons_succ]
          refine wpAnyH_ready (rs := [5]) (by kernel_rfl) (by simp) (arm_call (i := 5) 22 #[.agg #[.int .u64 (h : Int), .int .u64 (l : Int)], .int .i64 n] rfl (by rfl) (C3.out _) ?_ ?_ AllReadyH.nil)
          · (go_simp; try (with_reducible rfl))
          · intro u' hb
            have hS' : (fun u => Below w.heap.size w u ∧ u.heap[w1.heap.size]? = some (setO h l)) u' := ⟨hbt hS.1 hb, obj_below hS.2 hb⟩
            refine ⟨hS', ?_⟩
            replace ho7 := obj_below ho7 hb
            replace ho6 := obj_below ho6 hb
            clear hS hb
            have hS := hS'; clear hS'
            rename World => u
            try simp only [Act.put, List.setIfInBounds_toArray, List.set_cons_zero, List.set_cons_succ]
            have hb0 := Nat.le_trans (Nat.le_of_lt hw1) (Nat.le_of_lt hp6)
            have hb7 := Nat.le_trans (Nat.le_of_lt hw1) (Nat.le_of_lt hp7)
            obtain ⟨c0, c1, f0, f1⟩ := obj_cells ho6
            have hr8 := obj_set2 ho6 (.int .u64 (x : Int)) (.int .u64 (y : Int))
            have ho8 := obj_set_other ho7 (Ne.symm ne6_7) (.int .u64 (x : Int)) (.int .u64 (y : Int))
            have hS8 : Below w.heap.size w _ ∧ _ = some (setO h l) := ⟨below_set2 hS.1 hb0 (.int .u64 (x : Int)) (.int .u64 (y : Int)), obj_set_other hS.2 (Nat.ne_of_lt hp6) (.int .u64 (x : Int)) (.int .u64 (y : Int))⟩
            refine only (i := 8) rfl (by kernel_rfl) (by rfl) (fun K hK => ?_)
            go_simp
            refine hK.out _ _ hS8 ?_
            clear hK
            try simp only [Act.put, List.setIfInBounds_toArray, List.set_cons_zero, List.set_cons_succ]
            clear c0 c1 f0 f1 hS ho6 ho7
            generalize ((u.setCell _ _).setCell _ _) = u8 at *
            obtain ⟨c0, c1, f0, f1⟩ := obj_cells ho8
            have hr9 := obj_set2 ho8 (.int .u64 (x' : Int)) (.int .u64 (y' : Int))
            have hr8' := obj_set_other hr8 ne6_7 (.int .u64 (x' : Int)) (.int .u64 (y' : Int))
            have hS9 : Below w.heap.size w _ ∧ _ = some (setO h l) := ⟨below_set2 hS8.1 hb7 (.int .u64 (x' : Int)) (.int .u64 (y' : Int)), obj_set_other hS8.2 (Nat.ne_of_lt hp7) (.int .u64 (x' : Int)) (.int .u64 (y' : Int))⟩
            refine only (i := 9) rfl (by kernel_rfl) (by rfl) (fun K hK => ?_)
            go_simp
            refine hK.out _ _ hS9 ?_
            clear hK
            try simp only [Act.put, List.setIfInBounds_toArray, List.set_cons_zero, List.set_cons_succ]
            refine wpAnyH_done (by kernel_rfl) (NoPanic.normal ?_) _
            go_wp2_with fail
            go_meet
            exact ⟨p6, p7, rfl, rfl, hS9.1, hS9.2, hr8', hr9⟩
    · (go_simp; try (with_reducible rfl))
    · intro p6 u' hb ho6 hp6
      replace hp6 := Nat.le_trans (obj_lt hS.2) hp6
      have hS' : (fun u => Below w.heap.size w u ∧ u.heap[w1.heap.size]? = some (setO h l)) u' := ⟨hbt hS.1 hb, obj_below hS.2 hb⟩
      refine ⟨hS', ?_⟩
      clear hS hb
      have hS := hS'; clear hS'
      rename World => u
      try simp only [Act.put, List.setIfInBounds_toArray, List.set_cons_zero, List.set_cons_succ]
      refine wpAnyH_ready (rs := [2, 7]) (by kernel_rfl) (by simp) (arm_call (i := 2) 21 #[.agg #[.int .u64 (h : Int), .int .u64 (l : Int)], .int .i64 n] rfl (by rfl) (C2.out _) ?_ ?_ (arm_alloc (i := 7) (.cells #[.int .u64 0, .int .u64 0] 24) rfl (by rfl) ?_ ?_ AllReadyH.nil))
      · (go_simp; try (with_reducible rfl))
      · intro u' hb
        have hS' : (fun u => Below w.heap.size w u ∧ u.heap[w1.heap.size]? = some (setO h l)) u' := ⟨hbt hS.1 hb, obj_below hS.2 hb⟩
        refine ⟨hS', ?_⟩
        replace ho6 := obj_below ho6 hb
        clear hS hb
        have hS := hS'; clear hS'
        rename World => u
        try simp only [Act.put, List.setIfInBounds_toArray, List.set_cons_zero, List.set_cons_succ]
        refine wpAnyH_ready (rs := [5, 7]) (by kernel_rfl) (by simp) (arm_call (i := 5) 22 #[.agg #[.int .u64 (h : Int), .int .u64 (l : Int)], .int .i64 n] rfl (by rfl) (C3.out _) ?_ ?_ (arm_alloc (i := 7) (.cells #[.int .u64 0, .int .u64 0] 24) rfl (by rfl) ?_ ?_ AllReadyH.nil))
        · (go_simp; try (with_reducible rfl))
        · intro u' hb
          have hS' : (fun u => Below w.heap.size w u ∧ u.heap[w1.heap.size]? = some (setO h l)) u' := ⟨hbt hS.1 hb, obj_below hS.2 hb⟩
          refine ⟨hS', ?_⟩
          replace ho6 := obj_below ho6 hb
          clear hS hb
          have hS := hS'; clear hS'
          rename World => u
          try simp only [Act.put, List.setIfInBounds_toArray, List.set_cons_zero, List.set_cons_succ]
          refine wpAnyH_ready (rs := [7]) (by kernel_rfl) (by simp) (arm_alloc (i := 7) (.cells #[.int .u64 0, .int .u64 0] 24) rfl (by rfl) ?_ ?_ AllReadyH.nil)
          · (go_simp; try (with_reducible rfl))
          · intro p7 u' hb ho7 hp7
            have ne6_7 : p6 ≠ p7 := by have := obj_lt ho6; omega
            replace hp7 := Nat.le_trans (obj_lt hS.2) hp7
            have hS' : (fun u => Below w.heap.size w u ∧ u.heap[w1.heap.size]? = some (setO h l)) u' := ⟨hbt hS.1 hb, obj_below hS.2 hb⟩
            refine ⟨hS', ?_⟩
            replace ho6 := obj_below ho6 hb
            clear hS hb
            have hS := hS'; clear hS'
            rename World => u
            try simp only [Act.put, List.setIfInBounds_toArray, List.set_cons_zero, List.set_cons_succ]
            have hb0 := Nat.le_trans (Nat.le_of_lt hw1) (Nat.le_of_lt hp6)
            have hb7 := Nat.le_trans (Nat.le_of_lt hw1) (Nat.le_of_lt hp7)
            obtain ⟨c0, c1, f0, f1⟩ := obj_cells ho6
            have hr8 := obj_set2 ho6 (.int .u64 (x : Int)) (.int .u64 (y : Int))
            have ho8 := obj_set_other ho7 (Ne.symm ne6_7) (.int .u64 (x : Int)) (.int .u64 (y : Int))
            have hS8 : Below w.heap.size w _ ∧ _ = some (setO h l) := ⟨below_set2 hS.1 hb0 (.int .u64 (x : Int)) (.int .u64 (y : Int)), obj_set_other hS.2 (Nat.ne_of_lt hp6) (.int .u64 (x : Int)) (.int .u64 (y : Int))⟩
            refine only (i := 8) rfl (by kernel_rfl) (by rfl) (fun K hK => ?_)
            go_simp
            refine hK.out _ _ hS8 ?_
            clear hK
            try simp only [Act.put, List.setIfInBounds_toArray, List.set_cons_zero, List.set_cons_succ]
            clear c0 c1 f0 f1 hS ho6 ho7
            generalize ((u.setCell _ _).setCell _ _) = u8 at *
            obtain ⟨c0, c1, f0, f1⟩ := obj_cells ho8
            have hr9 := obj_set2 ho8 (.int .u64 (x' : Int)) (.int .u64 (y' : Int))
            have hr8' := obj_set_other hr8 ne6_7 (.int .u64 (x' : Int)) (.int .u64 (y' : Int))
            have hS9 : Below w.heap.size w _ ∧ _ = some (setO h l) := ⟨below_set2 hS8.1 hb7 (.int .u64 (x' : Int)) (.int .u64 (y' : Int)), obj_set_other hS8.2 (Nat.ne_of_lt hp7) (.int .u64 (x' : Int)) (.int .u64 (y' : Int))⟩
            refine only (i := 9) rfl (by kernel_rfl) (by rfl) (fun K hK => ?_)
            go_simp
            refine hK.out _ _ hS9 ?_
            clear hK
            try simp only [Act.put, List.setIfInBounds_toArray, List.set_cons_zero, List.set_cons_succ]
            refine wpAnyH_done (by kernel_rfl) (NoPanic.normal ?_) _
            go_wp2_with fail
            go_meet
            exact ⟨p6, p7, rfl, rfl, hS9.1, hS9.2, hr8', hr9⟩
        · (go_simp; try (with_reducible rfl))
        · intro p7 u' hb ho7 hp7
          have ne6_7 : p6 ≠ p7 := by have := obj_lt ho6; omega
          replace hp7 := Nat.le_trans (obj_lt hS.2) hp7
          have hS' : (fun u => Below w.heap.size w u ∧ u.heap[w1.heap.size]? = some (setO h l)) u' := ⟨hbt hS.1 hb, obj_below hS.2 hb⟩
          refine ⟨hS', ?_⟩
          replace ho6 := obj_below ho6 hb
          clear hS hb
          have hS := hS'; clear hS'
          rename World => u
          try simp only [Act.put, List.setIfInBounds_toArray, List.set_cons_zero, List.set_cons_succ]
          refine wpAnyH_ready (rs := [5]) (by kernel_rfl) (by simp) (arm_call (i := 5) 22 #[.agg #[.int .u64 (h : Int), .int .u64 (l : Int)], .int .i64 n] rfl (by rfl) (C3.out _) ?_ ?_ AllReadyH.nil)
          · (go_simp; try (with_reducible rfl))
          · intro u' hb
            have hS' : (fun u => Below w.heap.size w u ∧ u.heap[w1.heap.size]? = some (setO h l)) u' := ⟨hbt hS.1 hb, obj_below hS.2 hb⟩
            refine ⟨hS', ?_⟩
            replace ho6 := obj_below ho6 hb
            replace ho7 := obj_below ho7 hb
            clear hS hb
            have hS := hS'; clear hS'
            rename World => u
            try simp only [Act.put, List.setIfInBounds_toArray, List.set_cons_zero, List.set_cons_succ]
            have hb0 := Nat.le_trans (Nat.le_of_lt hw1) (Nat.le_of_lt hp6)
            have hb7 := Nat.le_trans (Nat.le_of_lt hw1) (Nat.le_of_lt hp7)
            obtain ⟨c0, c1, f0, f1⟩ := obj_cells ho6
            have hr8 := obj_set2 ho6 (.int .u64 (x : Int)) (.int .u64 (y : Int))
            have ho8 := obj_set_other ho7 (Ne.symm ne6_7) (.int .u64 (x : Int)) (.int .u64 (y : Int))
            have hS8 : Below w.heap.size w _ ∧ _ = some (setO h l) := ⟨below_set2 hS.1 hb0 (.int .u64 (x : Int)) (.int .u64 (y : Int)), obj_set_other hS.2 (Nat.ne_of_lt hp6) (.int .u64 (x : Int)) (.int .u64 (y : Int))⟩
            refine only (i := 8) rfl (by kernel_rfl) (by rfl) (fun K hK => ?_)
            go_simp
            refine hK.out _ _ hS8 ?_
            clear hK
            try simp only [Act.put, List.setIfInBounds_toArray, List.set_cons_zero, List.set_cons_succ]
            clear c0 c1 f0 f1 hS ho6 ho7
            generalize ((u.setCell _ _).setCell _ _) = u8 at *
            obtain ⟨c0, c1, f0, f1⟩ := obj_cells ho8
            have hr9 := obj_set2 ho8 (.int .u64 (x' : Int)) (.int .u64 (y' : Int))
            have hr8' := obj_set_other hr8 ne6_7 (.int .u64 (x' : Int)) (.int .u64 (y' : Int))
            have hS9 : Below w.heap.size w _ ∧ _ = some (setO h l) := ⟨below_set2 hS8.1 hb7 (.int .u64 (x' : Int)) (.int .u64 (y' : Int)), obj_set_other hS8.2 (Nat.ne_of_lt hp7) (.int .u64 (x' : Int)) (.int .u64 (y' : Int))⟩
            refine only (i := 9) rfl (by kernel_rfl) (by rfl) (fun K hK => ?_)
            go_simp
            refine hK.out _ _ hS9 ?_
            clear hK
            try simp only [Act.put, List.setIfInBounds_toArray, List.set_cons_zero, List.set_cons_succ]
            refine wpAnyH_done (by kernel_rfl) (NoPanic.normal ?_) _
            go_wp2_with fail
            go_meet
            exact ⟨p6, p7, rfl, rfl, hS9.1, hS9.2, hr8', hr9⟩
      · (go_simp; try (with_reducible rfl))
      · intro p7 u' hb ho7 hp7
        have ne6_7 : p6 ≠ p7 := by have := obj_lt ho6; omega
        replace hp7 := Nat.le_trans (obj_lt hS.2) hp7
        have hS' : (fun u => Below w.heap.size w u ∧ u.heap[w1.heap.size]? = some (setO h l)) u' := ⟨hbt hS.1 hb, obj_below hS.2 hb⟩
        refine ⟨hS', ?_⟩
        replace ho6 := obj_below ho6 hb
        clear hS hb
        have hS := hS'; clear hS'
        rename World => u
        try simp only [Act.put, List.setIfInBounds_toArray, List.set_cons_zero, List.set_cons_succ]
        refine wpAnyH_ready (rs := [2]) (by kernel_rfl) (by simp) (arm_call (i := 2) 21 #[.agg #[.int .u64 (h : Int), .int .u64 (l : Int)], .int .i64 n] rfl (by rfl) (C2.out _) ?_ ?_ AllReadyH.nil)
        · (go_simp; try (with_reducible rfl))
        · intro u' hb
          have hS' : (fun u => Below w.heap.size w u ∧ u.heap[w1.heap.size]? = some (setO h l)) u' := ⟨hbt hS.1 hb, obj_below hS.2 hb⟩
          refine ⟨hS', ?_⟩
          replace ho6 := obj_below ho6 hb
          replace ho7 := obj_below ho7 hb
          clear hS hb
          have hS := hS'; clear hS'
          rename World => u
          try simp only [Act.put, List.setIfInBounds_toArray, List.set_cons_zero, List.set_cons_succ]
          refine wpAnyH_ready (rs := [5]) (by kernel_rfl) (by simp) (arm_call (i := 5) 22 #[.agg #[.int .u64 (h : Int), .int .u64 (l : Int)], .int .i64 n] rfl (by rfl) (C3.out _) ?_ ?_ AllReadyH.nil)
          · (go_simp; try (with_reducible rfl))
          · intro u' hb
            have hS' : (fun u => Below w.heap.size w u ∧ u.heap[w1.heap.size]? = some (setO h l)) u' := ⟨hbt hS.1 hb, obj_below hS.2 hb⟩
            refine ⟨hS', ?_⟩
            replace ho6 := obj_below ho6 hb
            replace ho7 := obj_below ho7 hb
            clear hS hb
            have hS := hS'; clear hS'
            rename World => u
            try simp only [Act.put, List.setIfInBounds_toArray, List.set_cons_zero, List.set_cons_succ]
            have hb0 := Nat.le_trans (Nat.le_of_lt hw1) (Nat.le_of_lt hp6)
            have hb7 := Nat.le_trans (Nat.le_of_lt hw1) (Nat.le_of_lt hp7)
            obtain ⟨c0, c1, f0, f1⟩ := obj_cells ho6
            have hr8 := obj_set2 ho6 (.int .u64 (x : Int)) (.int .u64 (y : Int))
            have ho8 := obj_set_other ho7 (Ne.symm ne6_7) (.int .u64 (x : Int)) (.int .u64 (y : Int))
            have hS8 : Below w.heap.size w _ ∧ _ = some (setO h l) := ⟨below_set2 hS.1 hb0 (.int .u64 (x : Int)) (.int .u64 (y : Int)), obj_set_other hS.2 (Nat.ne_of_lt hp6) (.int .u64 (x : Int)) (.int .u64 (y : Int))⟩
            refine only (i := 8) rfl (by kernel_rfl) (by rfl) (fun K hK => ?_)
            go_simp
            refine hK.out _ _ hS8 ?_
            clear hK
            try simp only [Act.put, List.setIfInBounds_toArray, List.set_cons_zero, List.set_cons_succ]
            clear c0 c1 f0 f1 hS ho6 ho7
            generalize ((u.setCell _ _).setCell _ _) = u8 at *
            obtain ⟨c0, c1, f0, f1⟩ := obj_cells ho8
            have hr9 := obj_set2 ho8 (.int .u64 (x' : Int)) (.int .u64 (y' : Int))
            have hr8' := obj_set_other hr8 ne6_7 (.int .u64 (x' : Int)) (.int .u64 (y' : Int))
            have hS9 : Below w.heap.size w _ ∧ _ = some (setO h l) := ⟨below_set2 hS8.1 hb7 (.int .u64 (x' : Int)) (.int .u64 (y' : Int)), obj_set_other hS8.2 (Nat.ne_of_lt hp7) (.int .u64 (x' : Int)) (.int .u64 (y' : Int))⟩
            refine only (i := 9) rfl (by kernel_rfl) (by rfl) (fun K hK => ?_)
            go_simp
            refine hK.out _ _ hS9 ?_
            clear hK
            try simp only [Act.put, List.setIfInBounds_toArray, List.set_cons_zero, List.set_cons_succ]
            refine wpAnyH_done (by kernel_rfl) (NoPanic.normal ?_) _
            go_wp2_with fail
            go_meet
            exact ⟨p6, p7, rfl, rfl, hS9.1, hS9.2, hr8', hr9⟩
    · (go_simp; try (with_reducible rfl))
    · intro p7 u' hb ho7 hp7
      replace hp7 := Nat.le_trans (obj_lt hS.2) hp7
      have hS' : (fun u => Below w.heap.size w u ∧ u.heap[w1.heap.size]? = some (setO h l)) u' := ⟨hbt hS.1 hb, obj_below hS.2 hb⟩
      refine ⟨hS', ?_⟩
      clear hS hb
      have hS := hS'; clear hS'
      rename World => u
      try simp only [Act.put, List.setIfInBounds_toArray, List.set_cons_zero, List.set_cons_succ]
      refine wpAnyH_ready (rs := [2, 6]) (by kernel_rfl) (by simp) (arm_call (i := 2) 21 #[.agg #[.int .u64 (h : Int), .int .u64 (l : Int)], .int .i64 n] rfl (by rfl) (C2.out _) ?_ ?_ (arm_alloc (i := 6) (.cells #[.int .u64 0, .int .u64 0] 24) rfl (by rfl) ?_ ?_ AllReadyH.nil))
      · (go_simp; try (with_reducible rfl))
      · intro u' hb
        have hS' : (fun u => Below w.heap.size w u ∧ u.heap[w1.heap.size]? = some (setO h l)) u' := ⟨hbt hS.1 hb, obj_below hS.2 hb⟩
        refine ⟨hS', ?_⟩
        replace ho7 := obj_below ho7 hb
        clear hS hb
        have hS := hS'; clear hS'
        rename World => u
        try simp only [Act.put, List.setIfInBounds_toArray, List.set_cons_zero, List.set_cons_succ]
        refine wpAnyH_ready (rs := [5, 6]) (by kernel_rfl) (by simp) (arm_call (i := 5) 22 #[.agg #[.int .u64 (h : Int), .int .u64 (l : Int)], .int .i64 n] rfl (by rfl) (C3.out _) ?_ ?_ (arm_alloc (i := 6) (.cells #[.int .u64 0, .int .u64 0] 24) rfl (by rfl) ?_ ?_ AllReadyH.nil))
        · (go_simp; try (with_reducible rfl))
        · intro u' hb
          have hS' : (fun u => Below w.heap.size w u ∧ u.heap[w1.heap.size]? = some (setO h l)) u' := ⟨hbt hS.1 hb, obj_below hS.2 hb⟩
          refine ⟨hS', ?_⟩
          replace ho7 := obj_below ho7 hb
          clear hS hb
          have hS := hS'; clear hS'
          rename World => u
          try simp only [Act.put, List.setIfInBounds_toArray, List.set_cons_zero, List.set_cons_succ]
          refine wpAnyH_ready (rs := [6]) (by kernel_rfl) (by simp) (arm_alloc (i := 6) (.cells #[.int .u64 0, .int .u64 0] 24) rfl (by rfl) ?_ ?_ AllReadyH.nil)
          · (go_simp; try (with_reducible rfl))
          · intro p6 u' hb ho6 hp6
            have ne6_7 : p6 ≠ p7 := by have := obj_lt ho7; omega
            replace hp6 := Nat.le_trans (obj_lt hS.2) hp6
            have hS' : (fun u => Below w.heap.size w u ∧ u.heap[w1.heap.size]? = some (setO h l)) u' := ⟨hbt hS.1 hb, obj_below hS.2 hb⟩
            refine ⟨hS', ?_⟩
            replace ho7 := obj_below ho7 hb
            clear hS hb
            have hS := hS'; clear hS'
            rename World => u
            try simp only [Act.put, List.setIfInBounds_toArray, List.set_cons_zero, List.set_cons_succ]
            have hb0 := Nat.le_trans (Nat.le_of_lt hw1) (Nat.le_of_lt hp6)
            have hb7 := Nat.le_trans (Nat.le_of_lt hw1) (Nat.le_of_lt hp7)
            obtain ⟨c0, c1, f0, f1⟩ := obj_cells ho6
            have hr8 := obj_set2 ho6 (.int .u64 (x : Int)) (.int .u64 (y : Int))
            have ho8 := obj_set_other ho7 (Ne.symm ne6_7) (.int .u64 (x : Int)) (.int .u64 (y : Int))
            have hS8 : Below w.heap.size w _ ∧ _ = some (setO h l) := ⟨below_set2 hS.1 hb0 (.int .u64 (x : Int)) (.int .u64 (y : Int)), obj_set_other hS.2 (Nat.ne_of_lt hp6) (.int .u64 (x : Int)) (.int .u64 (y : Int))⟩
            refine only (i := 8) rfl (by kernel_rfl) (by rfl) (fun K hK => ?_)
            go_simp
            refine hK.out _ _ hS8 ?_
            clear hK
            try simp only [Act.put, List.setIfInBounds_toArray, List.set_cons_zero, List.set_cons_succ]
            clear c0 c1 f0 f1 hS ho6 ho7
            generalize ((u.setCell _ _).setCell _ _) = u8 at *
            obtain ⟨c0, c1, f0, f1⟩ := obj_cells ho8
            have hr9 := obj_set2 ho8 (.int .u64 (x' : Int)) (.int .u64 (y' : Int))
            have hr8' := obj_set_other hr8 ne6_7 (.int .u64 (x' : Int)) (.int .u64 (y' : Int))
            have hS9 : Below w.heap.size w _ ∧ _ = some (setO h l) := ⟨below_set2 hS8.1 hb7 (.int .u64 (x' : Int)) (.int .u64 (y' : Int)), obj_set_other hS8.2 (Nat.ne_of_lt hp7) (.int .u64 (x' : Int)) (.int .u64 (y' : Int))⟩
            refine only (i := 9) rfl (by kernel_rfl) (by rfl) (fun K hK => ?_)
            go_simp
            refine hK.out _ _ hS9 ?_
            clear hK
            try simp only [Act.put, List.setIfInBounds_toArray, List.set_cons_zero, List.set_cons_succ]
            refine wpAnyH_done (by kernel_rfl) (NoPanic.normal ?_) _
            go_wp2_with fail
            go_meet
            exact ⟨p6, p7, rfl, rfl, hS9.1, hS9.2, hr8', hr9⟩
        · (go_simp; try (with_reducible rfl))
        · intro p6 u' hb ho6 hp6
          have ne6_7 : p6 ≠ p7 := by have := obj_lt ho7; omega
          replace hp6 := Nat.le_trans (obj_lt hS.2) hp6
          have hS' : (fun u => Below w.heap.size w u ∧ u.heap[w1.heap.size]? = some (setO h l)) u' := ⟨hbt hS.1 hb, obj_below hS.2 hb⟩
          refine ⟨hS', ?_⟩
          replace ho7 := obj_below ho7 hb
          clear hS hb
          have hS := hS'; clear hS'
          rename World => u
          try simp only [Act.put, List.setIfInBounds_toArray, List.set_cons_zero, List.set_cons_succ]
          refine wpAnyH_ready (rs := [5]) (by kernel_rfl) (by simp) (arm_call (i := 5) 22 #[.agg #[.int .u64 (h : Int), .int .u64 (l : Int)], .int .i64 n] rfl (by rfl) (C3.out _) ?_ ?_ AllReadyH.nil)
          · (go_simp; try (with_reducible rfl))
          · intro u' hb
            have hS' : (fun u => Below w.heap.size w u ∧ u.heap[w1.heap.size]? = some (setO h l)) u' := ⟨hbt hS.1 hb, obj_below hS.2 hb⟩
            refine ⟨hS', ?_⟩
            replace ho7 := obj_below ho7 hb
            replace ho6 := obj_below ho6 hb
            clear hS hb
            have hS := hS'; clear hS'
            rename World => u
            try simp only [Act.put, List.setIfInBounds_toArray, List.set_cons_zero, List.set_cons_succ]
            have hb0 := Nat.le_trans (Nat.le_of_lt hw1) (Nat.le_of_lt hp6)
            have hb7 := Nat.le_trans (Nat.le_of_lt hw1) (Nat.le_of_lt hp7)
            obtain ⟨c0, c1, f0, f1⟩ := obj_cells ho6
            have hr8 := obj_set2 ho6 (.int .u64 (x : Int)) (.int .u64 (y : Int))
            have ho8 := obj_set_other ho7 (Ne.symm ne6_7) (.int .u64 (x : Int)) (.int .u64 (y : Int))
            have hS8 : Below w.heap.size w _ ∧ _ = some (setO h l) := ⟨below_set2 hS.1 hb0 (.int .u64 (x : Int)) (.int .u64 (y : Int)), obj_set_other hS.2 (Nat.ne_of_lt hp6) (.int .u64 (x : Int)) (.int .u64 (y : Int))⟩
            refine only (i := 8) rfl (by kernel_rfl) (by rfl) (fun K hK => ?_)
            go_simp
            refine hK.out _ _ hS8 ?_
            clear hK
            try simp only [Act.put, List.setIfInBounds_toArray, List.set_cons_zero, List.set_cons_succ]
            clear c0 c1 f0 f1 hS ho6 ho7
            generalize ((u.setCell _ _).setCell _ _) = u8 at *
            obtain ⟨c0, c1, f0, f1⟩ := obj_cells ho8
            have hr9 := obj_set2 ho8 (.int .u64 (x' : Int)) (.int .u64 (y' : Int))
            have hr8' := obj_set_other hr8 ne6_7 (.int .u64 (x' : Int)) (.int .u64 (y' : Int))
            have hS9 : Below w.heap.size w _ ∧ _ = some (setO h l) := ⟨below_set2 hS8.1 hb7 (.int .u64 (x' : Int)) (.int .u64 (y' : Int)), obj_set_other hS8.2 (Nat.ne_of_lt hp7) (.int .u64 (x' : Int)) (.int .u64 (y' : Int))⟩
            refine only (i := 9) rfl (by kernel_rfl) (by rfl) (fun K hK => ?_)
            go_simp
            refine hK.out _ _ hS9 ?_
            clear hK
            try simp only [Act.put, List.setIfInBounds_toArray, List.set_cons_zero, List.set_cons_succ]
            refine wpAnyH_done (by kernel_rfl) (NoPanic.normal ?_) _
            go_wp2_with fail
            go_meet
            exact ⟨p6, p7, rfl, rfl, hS9.1, hS9.2, hr8', hr9⟩
      · (go_simp; try (with_reducible rfl))
      · intro p6 u' hb ho6 hp6
        have ne6_7 : p6 ≠ p7 := by have := obj_lt ho7; omega
        replace hp6 := Nat.le_trans (obj_lt hS.2) hp6
        have hS' : (fun u => Below w.heap.size w u ∧ u.heap[w1.heap.size]? = some (setO h l)) u' := ⟨hbt hS.1 hb, obj_below hS.2 hb⟩
        refine ⟨hS', ?_⟩
        replace ho7 := obj_below ho7 hb
        clear hS hb
        have hS := hS'; clear hS'
        rename World => u
        try simp only [Act.put, List.setIfInBounds_toArray, List.set_cons_zero, List.set_cons_succ]
        refine wpAnyH_ready (rs := [2]) (by kernel_rfl) (by simp) (arm_call (i := 2) 21 #[.agg #[.int .u64 (h : Int), .int .u64 (l : Int)], .int .i64 n] rfl (by rfl) (C2.out _) ?_ ?_ AllReadyH.nil)
        · (go_simp; try (with_reducible rfl))
        · intro u' hb
          have hS' : (fun u => Below w.heap.size w u ∧ u.heap[w1.heap.size]? = some (setO h l)) u' := ⟨hbt hS.1 hb, obj_below hS.2 hb⟩
          refine ⟨hS', ?_⟩
          replace ho7 := obj_below ho7 hb
          replace ho6 := obj_below ho6 hb
          clear hS hb
          have hS := hS'; clear hS'
          rename World => u
          try simp only [Act.put, List.setIfInBounds_toArray, List.set_cons_zero, List.set_cons_succ]
          refine wpAnyH_ready (rs := [5]) (by kernel_rfl) (by simp) (arm_call (i := 5) 22 #[.agg #[.int .u64 (h : Int), .int .u64 (l : Int)], .int .i64 n] rfl (by rfl) (C3.out _) ?_ ?_ AllReadyH.nil)
          · (go_simp; try (with_reducible rfl))
          · intro u' hb
            have hS' : (fun u => Below w.heap.size w u ∧ u.heap[w1.heap.size]? = some (setO h l)) u' := ⟨hbt hS.1 hb, obj_below hS.2 hb⟩
            refine ⟨hS', ?_⟩
            replace ho7 := obj_below ho7 hb
            replace ho6 := obj_below ho6 hb
            clear hS hb
            have hS := hS'; clear hS'
            rename World => u
            try simp only [Act.put, List.setIfInBounds_toArray, List.set_cons_zero, List.set_cons_succ]
            have hb0 := Nat.le_trans (Nat.le_of_lt hw1) (Nat.le_of_lt hp6)
            have hb7 := Nat.le_trans (Nat.le_of_lt hw1) (Nat.le_of_lt hp7)
            obtain ⟨c0, c1, f0, f1⟩ := obj_cells ho6
            have hr8 := obj_set2 ho6 (.int .u64 (x : Int)) (.int .u64 (y : Int))
            have ho8 := obj_set_other ho7 (Ne.symm ne6_7) (.int .u64 (x : Int)) (.int .u64 (y : Int))
            have hS8 : Below w.heap.size w _ ∧ _ = some (setO h l) := ⟨below_set2 hS.1 hb0 (.int .u64 (x : Int)) (.int .u64 (y : Int)), obj_set_other hS.2 (Nat.ne_of_lt hp6) (.int .u64 (x : Int)) (.int .u64 (y : Int))⟩
            refine only (i := 8) rfl (by kernel_rfl) (by rfl) (fun K hK => ?_)
            go_simp
            refine hK.out _ _ hS8 ?_
            clear hK
            try simp only [Act.put, List.setIfInBounds_toArray, List.set_cons_zero, List.set_cons_succ]
            clear c0 c1 f0 f1 hS ho6 ho7
            generalize ((u.setCell _ _).setCell _ _) = u8 at *
            obtain ⟨c0, c1, f0, f1⟩ := obj_cells ho8
            have hr9 := obj_set2 ho8 (.int .u64 (x' : Int)) (.int .u64 (y' : Int))
            have hr8' := obj_set_other hr8 ne6_7 (.int .u64 (x' : Int)) (.int .u64 (y' : Int))
            have hS9 : Below w.heap.size w _ ∧ _ = some (setO h l) := ⟨below_set2 hS8.1 hb7 (.int .u64 (x' : Int)) (.int .u64 (y' : Int)), obj_set_other hS8.2 (Nat.ne_of_lt hp7) (.int .u64 (x' : Int)) (.int .u64 (y' : Int))⟩
            refine only (i := 9) rfl (by kernel_rfl) (by rfl) (fun K hK => ?_)
            go_simp
            refine hK.out _ _ hS9 ?_
            clear hK
            try simp only [Act.put, List.setIfInBounds_toArray, List.set_cons_zero, List.set_cons_succ]
            refine wpAnyH_done (by kernel_rfl) (NoPanic.normal ?_) _
            go_wp2_with fail
            go_meet
            exact ⟨p6, p7, rfl, rfl, hS9.1, hS9.2, hr8', hr9⟩
  case rest =>
    obtain ⟨p, q, rfl, rfl, hT⟩ := hcut
    have HT := Lib.hid hT
    clear hT HB0 HO0
    generalize w1.heap.size = g at *
    go_upto_region 4 with fail
    go_cut [12] (fun s12 wx => s12 = .bool r ∧ wx = wc)
    case first =>
      by_cases h1 : 1 ≤ n
      · by_cases h2 : n ≤ 128
        · go_wp2_with fail
          go_meet
          exact ⟨by rw [← HR.out, decide_eq_true ⟨h1, h2⟩], rfl⟩
        · go_wp2_with fail
          go_meet
          exact ⟨by rw [← HR.out, decide_eq_false (by omega)], rfl⟩
      · go_wp2_with fail
        go_meet
        exact ⟨by rw [← HR.out, decide_eq_false (by omega)], rfl⟩
    case rest =>
      obtain ⟨rfl, rfl⟩ := hcut
      clear HR
      go_wp2_with fail
      refine wp_region_noPanic ?_
      refine wp_region_held_drew (S := (Three w g h l p x y q x' y')) (by kernel_rfl) (HT.out.drew) (fun hS => ?_)
      refine only_call (i := 0) 12 #[] rfl (by kernel_rfl) (by rfl) ((awake_any _).mono fun e w' he => ⟨he.1, hS.below he.2⟩) ?_ ?_
      · (go_simp; try (with_reducible rfl))
      clear hS
      intro w0 hS
      try simp only [Act.put, List.setIfInBounds_toArray, List.set_cons_zero, List.set_cons_succ]
      refine give_val (i := 1) (v := ?_) rfl (by kernel_rfl) (by kernel_rfl) (by kernel_rfl) (fun _ _ _ h => h) (by rfl) (fun u hu => ?_) hS ?_
      rotate_left
      · ((obtain ⟨_, hu1, hu2, hu3⟩ := hu; obtain ⟨c0, c1, _, _⟩ := obj_cells hu1; obtain ⟨c2, c3, _, _⟩ := obj_cells hu2; obtain ⟨c4, c5, _, _⟩ := obj_cells hu3; clear hu1 hu2 hu3); go_simp; try (with_reducible rfl))
      try simp only [Act.put, List.setIfInBounds_toArray, List.set_cons_zero, List.set_cons_succ]
      refine give_val (i := 2) (v := ?_) rfl (by kernel_rfl) (by kernel_rfl) (by kernel_rfl) (fun _ _ _ h => h) (by rfl) (fun u hu => ?_) hS ?_
      rotate_left
      · ((obtain ⟨_, hu1, hu2, hu3⟩ := hu; obtain ⟨c0, c1, _, _⟩ := obj_cells hu1; obtain ⟨c2, c3, _, _⟩ := obj_cells hu2; obtain ⟨c4, c5, _, _⟩ := obj_cells hu3; clear hu1 hu2 hu3); go_simp; try (with_reducible rfl))
      try simp only [Act.put, List.setIfInBounds_toArray, List.set_cons_zero, List.set_cons_succ]
      refine give_val (i := 3) (v := ?_) rfl (by kernel_rfl) (by kernel_rfl) (by kernel_rfl) (fun _ _ _ h => h) (by rfl) (fun u hu => ?_) hS ?_
      rotate_left
      · ((obtain ⟨_, hu1, hu2, hu3⟩ := hu; obtain ⟨c0, c1, _, _⟩ := obj_cells hu1; obtain ⟨c2, c3, _, _⟩ := obj_cells hu2; obtain ⟨c4, c5, _, _⟩ := obj_cells hu3; clear hu1 hu2 hu3); go_simp; try (with_reducible rfl))
      try simp only [Act.put, List.setIfInBounds_toArray, List.set_cons_zero, List.set_cons_succ]
      refine give_val (i := 4) (v := ?_) rfl (by kernel_rfl) (by kernel_rfl) (by kernel_rfl) (fun _ _ _ h => h) (by rfl) (fun u hu => ?_) hS ?_
      rotate_left
      · ((obtain ⟨_, hu1, hu2, hu3⟩ := hu; obtain ⟨c0, c1, _, _⟩ := obj_cells hu1; obtain ⟨c2, c3, _, _⟩ := obj_cells hu2; obtain ⟨c4, c5, _, _⟩ := obj_cells hu3; clear hu1 hu2 hu3); go_simp; try (with_reducible rfl))
      try simp only [Act.put, List.setIfInBounds_toArray, List.set_cons_zero, List.set_cons_succ]
      refine give_val (i := 5) (v := ?_) rfl (by kernel_rfl) (by kernel_rfl) (by kernel_rfl) (fun _ _ _ h => h) (by rfl) (fun u hu => ?_) hS ?_
      rotate_left
      · ((obtain ⟨_, hu1, hu2, hu3⟩ := hu; obtain ⟨c0, c1, _, _⟩ := obj_cells hu1; obtain ⟨c2, c3, _, _⟩ := obj_cells hu2; obtain ⟨c4, c5, _, _⟩ := obj_cells hu3; clear hu1 hu2 hu3); go_simp; try (with_reducible rfl))
      try simp only [Act.put, List.setIfInBounds_toArray, List.set_cons_zero, List.set_cons_succ]
      refine only_call (i := 6) 8 #[.int .u64 (h : Int), .int .u64 (l : Int)] rfl (by kernel_rfl) (by rfl) ((C1.out _).mono fun e w' he => ⟨he.1, hS.below he.2⟩) ?_ ?_
      · (go_simp; try (with_reducible rfl))
      clear hS
      intro w6 hS
      try simp only [Act.put, List.setIfInBounds_toArray, List.set_cons_zero, List.set_cons_succ]
      refine give_val (i := 7) (v := (.bool false)) rfl (by kernel_rfl) (by kernel_rfl) (by kernel_rfl) (fun _ _ _ h => h) (by rfl) (fun u hu => ?_) hS ?_
      · ((obtain ⟨_, hu1, hu2, hu3⟩ := hu; obtain ⟨c0, c1, _, _⟩ := obj_cells hu1; obtain ⟨c2, c3, _, _⟩ := obj_cells hu2; obtain ⟨c4, c5, _, _⟩ := obj_cells hu3; clear hu1 hu2 hu3); go_simp; try simp)
      try simp only [Act.put, List.setIfInBounds_toArray, List.set_cons_zero, List.set_cons_succ]
      refine give_val (i := 8) (v := ?_) rfl (by kernel_rfl) (by kernel_rfl) (by kernel_rfl) (fun _ _ _ h => h) (by rfl) (fun u hu => ?_) hS ?_
      rotate_left
      · ((obtain ⟨_, hu1, hu2, hu3⟩ := hu; obtain ⟨c0, c1, _, _⟩ := obj_cells hu1; obtain ⟨c2, c3, _, _⟩ := obj_cells hu2; obtain ⟨c4, c5, _, _⟩ := obj_cells hu3; clear hu1 hu2 hu3); go_simp; try (with_reducible rfl))
      try simp only [Act.put, List.setIfInBounds_toArray, List.set_cons_zero, List.set_cons_succ]
      refine give_val (i := 9) (v := ?_) rfl (by kernel_rfl) (by kernel_rfl) (by kernel_rfl) (fun _ _ _ h => h) (by rfl) (fun u hu => ?_) hS ?_
      rotate_left
      · ((obtain ⟨_, hu1, hu2, hu3⟩ := hu; obtain ⟨c0, c1, _, _⟩ := obj_cells hu1; obtain ⟨c2, c3, _, _⟩ := obj_cells hu2; obtain ⟨c4, c5, _, _⟩ := obj_cells hu3; clear hu1 hu2 hu3); go_simp; try (with_reducible rfl))
      try simp only [Act.put, List.setIfInBounds_toArray, List.set_cons_zero, List.set_cons_succ]
      refine give_val (i := 10) (v := ?_) rfl (by kernel_rfl) (by kernel_rfl) (by kernel_rfl) (fun _ _ _ h => h) (by rfl) (fun u hu => ?_) hS ?_
      rotate_left
      · ((obtain ⟨_, hu1, hu2, hu3⟩ := hu; obtain ⟨c0, c1, _, _⟩ := obj_cells hu1; obtain ⟨c2, c3, _, _⟩ := obj_cells hu2; obtain ⟨c4, c5, _, _⟩ := obj_cells hu3; clear hu1 hu2 hu3); go_simp; try (with_reducible rfl))
      try simp only [Act.put, List.setIfInBounds_toArray, List.set_cons_zero, List.set_cons_succ]
      refine give_val (i := 11) (v := ?_) rfl (by kernel_rfl) (by kernel_rfl) (by kernel_rfl) (fun _ _ _ h => h) (by rfl) (fun u hu => ?_) hS ?_
      rotate_left
      · ((obtain ⟨_, hu1, hu2, hu3⟩ := hu; obtain ⟨c0, c1, _, _⟩ := obj_cells hu1; obtain ⟨c2, c3, _, _⟩ := obj_cells hu2; obtain ⟨c4, c5, _, _⟩ := obj_cells hu3; clear hu1 hu2 hu3); go_simp; try (with_reducible rfl))
      try simp only [Act.put, List.setIfInBounds_toArray, List.set_cons_zero, List.set_cons_succ]
      refine give_val (i := 13) (v := ?_) rfl (by kernel_rfl) (by kernel_rfl) (by kernel_rfl) (fun _ _ _ h => h) (by rfl) (fun u hu => ?_) hS ?_
      rotate_left
      · ((obtain ⟨_, hu1, hu2, hu3⟩ := hu; obtain ⟨c0, c1, _, _⟩ := obj_cells hu1; obtain ⟨c2, c3, _, _⟩ := obj_cells hu2; obtain ⟨c4, c5, _, _⟩ := obj_cells hu3; clear hu1 hu2 hu3); go_simp; try (with_reducible rfl))
      try simp only [Act.put, List.setIfInBounds_toArray, List.set_cons_zero, List.set_cons_succ]
      refine only_call (i := 12) 13 #[.agg #[.int .u64 (x : Int), .int .u64 (y : Int)], .int .i64 n] rfl (by kernel_rfl) (by rfl) ((C4.out _).mono fun e w' he => ⟨he.1, hS.below he.2⟩) ?_ ?_
      · (go_simp; try (with_reducible rfl))
      clear hS
      intro w12 hS
      try simp only [Act.put, List.setIfInBounds_toArray, List.set_cons_zero, List.set_cons_succ]
      refine give_val (i := 14) (v := (.bool false)) rfl (by kernel_rfl) (by kernel_rfl) (by kernel_rfl) (fun _ _ _ h => h) (by rfl) (fun u hu => ?_) hS ?_
      · ((obtain ⟨_, hu1, hu2, hu3⟩ := hu; obtain ⟨c0, c1, _, _⟩ := obj_cells hu1; obtain ⟨c2, c3, _, _⟩ := obj_cells hu2; obtain ⟨c4, c5, _, _⟩ := obj_cells hu3; clear hu1 hu2 hu3); go_simp; try simp)
      try simp only [Act.put, List.setIfInBounds_toArray, List.set_cons_zero, List.set_cons_succ]
      refine give_val (i := 15) (v := ?_) rfl (by kernel_rfl) (by kernel_rfl) (by kernel_rfl) (fun _ _ _ h => h) (by rfl) (fun u hu => ?_) hS ?_
      rotate_left
      · ((obtain ⟨_, hu1, hu2, hu3⟩ := hu; obtain ⟨c0, c1, _, _⟩ := obj_cells hu1; obtain ⟨c2, c3, _, _⟩ := obj_cells hu2; obtain ⟨c4, c5, _, _⟩ := obj_cells hu3; clear hu1 hu2 hu3); go_simp; try (with_reducible rfl))
      try simp only [Act.put, List.setIfInBounds_toArray, List.set_cons_zero, List.set_cons_succ]
      refine give_val (i := 16) (v := ?_) rfl (by kernel_rfl) (by kernel_rfl) (by kernel_rfl) (fun _ _ _ h => h) (by rfl) (fun u hu => ?_) hS ?_
      rotate_left
      · ((obtain ⟨_, hu1, hu2, hu3⟩ := hu; obtain ⟨c0, c1, _, _⟩ := obj_cells hu1; obtain ⟨c2, c3, _, _⟩ := obj_cells hu2; obtain ⟨c4, c5, _, _⟩ := obj_cells hu3; clear hu1 hu2 hu3); go_simp; try (with_reducible rfl))
      try simp only [Act.put, List.setIfInBounds_toArray, List.set_cons_zero, List.set_cons_succ]
      refine give_val (i := 17) (v := ?_) rfl (by kernel_rfl) (by kernel_rfl) (by kernel_rfl) (fun _ _ _ h => h) (by rfl) (fun u hu => ?_) hS ?_
      rotate_left
      · ((obtain ⟨_, hu1, hu2, hu3⟩ := hu; obtain ⟨c0, c1, _, _⟩ := obj_cells hu1; obtain ⟨c2, c3, _, _⟩ := obj_cells hu2; obtain ⟨c4, c5, _, _⟩ := obj_cells hu3; clear hu1 hu2 hu3); go_simp; try (with_reducible rfl))
      try simp only [Act.put, List.setIfInBounds_toArray, List.set_cons_zero, List.set_cons_succ]
      refine give_val (i := 18) (v := ?_) rfl (by kernel_rfl) (by kernel_rfl) (by kernel_rfl) (fun _ _ _ h => h) (by rfl) (fun u hu => ?_) hS ?_
      rotate_left
      · ((obtain ⟨_, hu1, hu2, hu3⟩ := hu; obtain ⟨c0, c1, _, _⟩ := obj_cells hu1; obtain ⟨c2, c3, _, _⟩ := obj_cells hu2; obtain ⟨c4, c5, _, _⟩ := obj_cells hu3; clear hu1 hu2 hu3); go_simp; try (with_reducible rfl))
      try simp only [Act.put, List.setIfInBounds_toArray, List.set_cons_zero, List.set_cons_succ]
      refine only_call (i := 19) 13 #[.agg #[.int .u64 (x' : Int), .int .u64 (y' : Int)], .int .i64 n] rfl (by kernel_rfl) (by rfl) ((C5.out _).mono fun e w' he => ⟨he.1, hS.below he.2⟩) ?_ ?_
      · (go_simp; try (with_reducible rfl))
      clear hS
      intro w19 hS
      try simp only [Act.put, List.setIfInBounds_toArray, List.set_cons_zero, List.set_cons_succ]
      refine give_val (i := 20) (v := ?_) rfl (by kernel_rfl) (by kernel_rfl) (by kernel_rfl) (fun _ _ _ h => h) (by rfl) (fun u hu => ?_) hS ?_
      rotate_left
      · ((obtain ⟨_, hu1, hu2, hu3⟩ := hu; obtain ⟨c0, c1, _, _⟩ := obj_cells hu1; obtain ⟨c2, c3, _, _⟩ := obj_cells hu2; obtain ⟨c4, c5, _, _⟩ := obj_cells hu3; clear hu1 hu2 hu3); go_simp; try (with_reducible rfl))
      try simp only [Act.put, List.setIfInBounds_toArray, List.set_cons_zero, List.set_cons_succ]
      refine wpAnyH_done (by kernel_rfl) (NoPanic.normal ?_) _
      have HT2 := Lib.hid hS
      clear hS HT
      by_cases hmn : m = n
      · subst hmn
        go_wp2_with fail
        refine wp_region_noPanic ?_
        refine wp_region_held_drew (S := (Three w g h l p x y q x' y')) (by kernel_rfl) (HT2.out.drew) (fun hS => ?_)
        refine give_val (i := 0) (v := ?_) rfl (by kernel_rfl) (by kernel_rfl) (by kernel_rfl) (fun _ _ _ h => h) (by rfl) (fun u hu => ?_) hS ?_
        rotate_left
        · ((obtain ⟨_, hu1, hu2, hu3⟩ := hu; obtain ⟨c0, c1, _, _⟩ := obj_cells hu1; obtain ⟨c2, c3, _, _⟩ := obj_cells hu2; obtain ⟨c4, c5, _, _⟩ := obj_cells hu3; clear hu1 hu2 hu3); go_simp; try (with_reducible rfl))
        try simp only [Act.put, List.setIfInBounds_toArray, List.set_cons_zero, List.set_cons_succ]
        refine give_val (i := 1) (v := ?_) rfl (by kernel_rfl) (by kernel_rfl) (by kernel_rfl) (fun _ _ _ h => h) (by rfl) (fun u hu => ?_) hS ?_
        rotate_left
        · ((obtain ⟨_, hu1, hu2, hu3⟩ := hu; obtain ⟨c0, c1, _, _⟩ := obj_cells hu1; obtain ⟨c2, c3, _, _⟩ := obj_cells hu2; obtain ⟨c4, c5, _, _⟩ := obj_cells hu3; clear hu1 hu2 hu3); go_simp; try (with_reducible rfl))
        try simp only [Act.put, List.setIfInBounds_toArray, List.set_cons_zero, List.set_cons_succ]
        refine give_val (i := 2) (v := ?_) rfl (by kernel_rfl) (by kernel_rfl) (by kernel_rfl) (fun _ _ _ h => h) (by rfl) (fun u hu => ?_) hS ?_
        rotate_left
        · ((obtain ⟨_, hu1, hu2, hu3⟩ := hu; obtain ⟨c0, c1, _, _⟩ := obj_cells hu1; obtain ⟨c2, c3, _, _⟩ := obj_cells hu2; obtain ⟨c4, c5, _, _⟩ := obj_cells hu3; clear hu1 hu2 hu3); go_simp; try (with_reducible rfl))
        try simp only [Act.put, List.setIfInBounds_toArray, List.set_cons_zero, List.set_cons_succ]
        refine give_val (i := 3) (v := ?_) rfl (by kernel_rfl) (by kernel_rfl) (by kernel_rfl) (fun _ _ _ h => h) (by rfl) (fun u hu => ?_) hS ?_
        rotate_left
        · ((obtain ⟨_, hu1, hu2, hu3⟩ := hu; obtain ⟨c0, c1, _, _⟩ := obj_cells hu1; obtain ⟨c2, c3, _, _⟩ := obj_cells hu2; obtain ⟨c4, c5, _, _⟩ := obj_cells hu3; clear hu1 hu2 hu3); go_simp; try (with_reducible rfl))
        try simp only [Act.put, List.setIfInBounds_toArray, List.set_cons_zero, List.set_cons_succ]
        refine give_skip (i := 4) rfl (by kernel_rfl) (by kernel_rfl) (by kernel_rfl) (fun _ _ _ h => h) (by rfl) hS ?_
        try simp only [Act.put, List.setIfInBounds_toArray, List.set_cons_zero, List.set_cons_succ]
        refine give_skip (i := 5) rfl (by kernel_rfl) (by kernel_rfl) (by kernel_rfl) (fun _ _ _ h => h) (by rfl) hS ?_
        try simp only [Act.put, List.setIfInBounds_toArray, List.set_cons_zero, List.set_cons_succ]
        refine give_skip (i := 6) rfl (by kernel_rfl) (by kernel_rfl) (by kernel_rfl) (fun _ _ _ h => h) (by rfl) hS ?_
        try simp only [Act.put, List.setIfInBounds_toArray, List.set_cons_zero, List.set_cons_succ]
        refine give_skip (i := 7) rfl (by kernel_rfl) (by kernel_rfl) (by kernel_rfl) (fun _ _ _ h => h) (by rfl) hS ?_
        try simp only [Act.put, List.setIfInBounds_toArray, List.set_cons_zero, List.set_cons_succ]
        refine give_skip (i := 8) rfl (by kernel_rfl) (by kernel_rfl) (by kernel_rfl) (fun _ _ _ h => h) (by rfl) hS ?_
        try simp only [Act.put, List.setIfInBounds_toArray, List.set_cons_zero, List.set_cons_succ]
        refine give_skip (i := 9) rfl (by kernel_rfl) (by kernel_rfl) (by kernel_rfl) (fun _ _ _ h => h) (by rfl) hS ?_
        try simp only [Act.put, List.setIfInBounds_toArray, List.set_cons_zero, List.set_cons_succ]
        refine give_skip (i := 10) rfl (by kernel_rfl) (by kernel_rfl) (by kernel_rfl) (fun _ _ _ h => h) (by rfl) hS ?_
        try simp only [Act.put, List.setIfInBounds_toArray, List.set_cons_zero, List.set_cons_succ]
        refine give_skip (i := 11) rfl (by kernel_rfl) (by kernel_rfl) (by kernel_rfl) (fun _ _ _ h => h) (by rfl) hS ?_
        try simp only [Act.put, List.setIfInBounds_toArray, List.set_cons_zero, List.set_cons_succ]
        refine give_skip (i := 12) rfl (by kernel_rfl) (by kernel_rfl) (by kernel_rfl) (fun _ _ _ h => h) (by rfl) hS ?_
        try simp only [Act.put, List.setIfInBounds_toArray, List.set_cons_zero, List.set_cons_succ]
        refine give_skip (i := 13) rfl (by kernel_rfl) (by kernel_rfl) (by kernel_rfl) (fun _ _ _ h => h) (by rfl) hS ?_
        try simp only [Act.put, List.setIfInBounds_toArray, List.set_cons_zero, List.set_cons_succ]
        refine give_skip (i := 14) rfl (by kernel_rfl) (by kernel_rfl) (by kernel_rfl) (fun _ _ _ h => h) (by rfl) hS ?_
        try simp only [Act.put, List.setIfInBounds_toArray, List.set_cons_zero, List.set_cons_succ]
        refine give_skip (i := 15) rfl (by kernel_rfl) (by kernel_rfl) (by kernel_rfl) (fun _ _ _ h => h) (by rfl) hS ?_
        try simp only [Act.put, List.setIfInBounds_toArray, List.set_cons_zero, List.set_cons_succ]
        refine give_skip (i := 16) rfl (by kernel_rfl) (by kernel_rfl) (by kernel_rfl) (fun _ _ _ h => h) (by rfl) hS ?_
        try simp only [Act.put, List.setIfInBounds_toArray, List.set_cons_zero, List.set_cons_succ]
        refine give_skip (i := 17) rfl (by kernel_rfl) (by kernel_rfl) (by kernel_rfl) (fun _ _ _ h => h) (by rfl) hS ?_
        try simp only [Act.put, List.setIfInBounds_toArray, List.set_cons_zero, List.set_cons_succ]
        refine give_skip (i := 18) rfl (by kernel_rfl) (by kernel_rfl) (by kernel_rfl) (fun _ _ _ h => h) (by rfl) hS ?_
        try simp only [Act.put, List.setIfInBounds_toArray, List.set_cons_zero, List.set_cons_succ]
        refine give_skip (i := 19) rfl (by kernel_rfl) (by kernel_rfl) (by kernel_rfl) (fun _ _ _ h => h) (by rfl) hS ?_
        try simp only [Act.put, List.setIfInBounds_toArray, List.set_cons_zero, List.set_cons_succ]
        refine give_val (i := 20) (v := ?_) rfl (by kernel_rfl) (by kernel_rfl) (by kernel_rfl) (fun _ _ _ h => h) (by rfl) (fun u hu => ?_) hS ?_
        rotate_left
        · ((obtain ⟨_, hu1, hu2, hu3⟩ := hu; obtain ⟨c0, c1, _, _⟩ := obj_cells hu1; obtain ⟨c2, c3, _, _⟩ := obj_cells hu2; obtain ⟨c4, c5, _, _⟩ := obj_cells hu3; clear hu1 hu2 hu3); go_simp; try (with_reducible rfl))
        try simp only [Act.put, List.setIfInBounds_toArray, List.set_cons_zero, List.set_cons_succ]
        refine give_val (i := 21) (v := ?_) rfl (by kernel_rfl) (by kernel_rfl) (by kernel_rfl) (fun _ _ _ h => h) (by rfl) (fun u hu => ?_) hS ?_
        rotate_left
        · ((obtain ⟨_, hu1, hu2, hu3⟩ := hu; obtain ⟨c0, c1, _, _⟩ := obj_cells hu1; obtain ⟨c2, c3, _, _⟩ := obj_cells hu2; obtain ⟨c4, c5, _, _⟩ := obj_cells hu3; clear hu1 hu2 hu3); go_simp; try (with_reducible rfl))
        try simp only [Act.put, List.setIfInBounds_toArray, List.set_cons_zero, List.set_cons_succ]
        refine wpAnyH_done (by kernel_rfl) (NoPanic.normal ?_) _
        go_wp2
        go_ret
        exact ⟨rfl, hS.1⟩
      · go_wp2_with fail
        refine wp_region_noPanic ?_
        refine wp_region_held_drew (S := (Three w g h l p x y q x' y')) (by kernel_rfl) (HT2.out.drew) (fun hS => ?_)
        refine give_val (i := 0) (v := ?_) rfl (by kernel_rfl) (by kernel_rfl) (by kernel_rfl) (fun _ _ _ h => h) (by rfl) (fun u hu => ?_) hS ?_
        rotate_left
        · ((obtain ⟨_, hu1, hu2, hu3⟩ := hu; obtain ⟨c0, c1, _, _⟩ := obj_cells hu1; obtain ⟨c2, c3, _, _⟩ := obj_cells hu2; obtain ⟨c4, c5, _, _⟩ := obj_cells hu3; clear hu1 hu2 hu3); go_simp; try (with_reducible rfl))
        try simp only [Act.put, List.setIfInBounds_toArray, List.set_cons_zero, List.set_cons_succ]
        refine give_val (i := 1) (v := ?_) rfl (by kernel_rfl) (by kernel_rfl) (by kernel_rfl) (fun _ _ _ h => h) (by rfl) (fun u hu => ?_) hS ?_
        rotate_left
        · ((obtain ⟨_, hu1, hu2, hu3⟩ := hu; obtain ⟨c0, c1, _, _⟩ := obj_cells hu1; obtain ⟨c2, c3, _, _⟩ := obj_cells hu2; obtain ⟨c4, c5, _, _⟩ := obj_cells hu3; clear hu1 hu2 hu3); go_simp; try (with_reducible rfl))
        try simp only [Act.put, List.setIfInBounds_toArray, List.set_cons_zero, List.set_cons_succ]
        refine give_val (i := 2) (v := (.bool false)) rfl (by kernel_rfl) (by kernel_rfl) (by kernel_rfl) (fun _ _ _ h => h) (by rfl) (fun u hu => ?_) hS ?_
        · ((obtain ⟨_, hu1, hu2, hu3⟩ := hu; obtain ⟨c0, c1, _, _⟩ := obj_cells hu1; obtain ⟨c2, c3, _, _⟩ := obj_cells hu2; obtain ⟨c4, c5, _, _⟩ := obj_cells hu3; clear hu1 hu2 hu3); go_simp; try simp [hmn])
        try simp only [Act.put, List.setIfInBounds_toArray, List.set_cons_zero, List.set_cons_succ]
        refine give_val (i := 3) (v := ?_) rfl (by kernel_rfl) (by kernel_rfl) (by kernel_rfl) (fun _ _ _ h => h) (by rfl) (fun u hu => ?_) hS ?_
        rotate_left
        · ((obtain ⟨_, hu1, hu2, hu3⟩ := hu; obtain ⟨c0, c1, _, _⟩ := obj_cells hu1; obtain ⟨c2, c3, _, _⟩ := obj_cells hu2; obtain ⟨c4, c5, _, _⟩ := obj_cells hu3; clear hu1 hu2 hu3); go_simp; try (with_reducible rfl))
        try simp only [Act.put, List.setIfInBounds_toArray, List.set_cons_zero, List.set_cons_succ]
        refine give_val (i := 4) (v := ?_) rfl (by kernel_rfl) (by kernel_rfl) (by kernel_rfl) (fun _ _ _ h => h) (by rfl) (fun u hu => ?_) hS ?_
        rotate_left
        · ((obtain ⟨_, hu1, hu2, hu3⟩ := hu; obtain ⟨c0, c1, _, _⟩ := obj_cells hu1; obtain ⟨c2, c3, _, _⟩ := obj_cells hu2; obtain ⟨c4, c5, _, _⟩ := obj_cells hu3; clear hu1 hu2 hu3); go_simp; try (with_reducible rfl))
        try simp only [Act.put, List.setIfInBounds_toArray, List.set_cons_zero, List.set_cons_succ]
        refine give_val (i := 5) (v := ?_) rfl (by kernel_rfl) (by kernel_rfl) (by kernel_rfl) (fun _ _ _ h => h) (by rfl) (fun u hu => ?_) hS ?_
        rotate_left
        · ((obtain ⟨_, hu1, hu2, hu3⟩ := hu; obtain ⟨c0, c1, _, _⟩ := obj_cells hu1; obtain ⟨c2, c3, _, _⟩ := obj_cells hu2; obtain ⟨c4, c5, _, _⟩ := obj_cells hu3; clear hu1 hu2 hu3); go_simp; try (with_reducible rfl))
        try simp only [Act.put, List.setIfInBounds_toArray, List.set_cons_zero, List.set_cons_succ]
        refine give_val (i := 7) (v := ?_) rfl (by kernel_rfl) (by kernel_rfl) (by kernel_rfl) (fun _ _ _ h => h) (by rfl) (fun u hu => ?_) hS ?_
        rotate_left
        · ((obtain ⟨_, hu1, hu2, hu3⟩ := hu; obtain ⟨c0, c1, _, _⟩ := obj_cells hu1; obtain ⟨c2, c3, _, _⟩ := obj_cells hu2; obtain ⟨c4, c5, _, _⟩ := obj_cells hu3; clear hu1 hu2 hu3); go_simp; try (with_reducible rfl))
        try simp only [Act.put, List.setIfInBounds_toArray, List.set_cons_zero, List.set_cons_succ]
        refine give_val (i := 8) (v := ?_) rfl (by kernel_rfl) (by kernel_rfl) (by kernel_rfl) (fun _ _ _ h => h) (by rfl) (fun u hu => ?_) hS ?_
        rotate_left
        · ((obtain ⟨_, hu1, hu2, hu3⟩ := hu; obtain ⟨c0, c1, _, _⟩ := obj_cells hu1; obtain ⟨c2, c3, _, _⟩ := obj_cells hu2; obtain ⟨c4, c5, _, _⟩ := obj_cells hu3; clear hu1 hu2 hu3); go_simp; try (with_reducible rfl))
        try simp only [Act.put, List.setIfInBounds_toArray, List.set_cons_zero, List.set_cons_succ]
        refine only_call (i := 6) 13 #[.agg #[.int .u64 (x : Int), .int .u64 (y : Int)], .int .i64 m] rfl (by kernel_rfl) (by rfl) ((C6.out hmn _).mono fun e w' he => ⟨he.1, hS.below he.2⟩) ?_ ?_
        · (go_simp; try (with_reducible rfl))
        clear hS
        intro w6 hS
        try simp only [Act.put, List.setIfInBounds_toArray, List.set_cons_zero, List.set_cons_succ]
        refine only_call (i := 9) 13 #[.agg #[.int .u64 (h : Int), .int .u64 (l : Int)], .int .i64 m] rfl (by kernel_rfl) (by rfl) ((C8.out _).mono fun e w' he => ⟨he.1, hS.below he.2⟩) ?_ ?_
        · (go_simp; try (with_reducible rfl))
        clear hS
        intro w9 hS
        try simp only [Act.put, List.setIfInBounds_toArray, List.set_cons_zero, List.set_cons_succ]
        refine give_val (i := 10) (v := (.bool true)) rfl (by kernel_rfl) (by kernel_rfl) (by kernel_rfl) (fun _ _ _ h => h) (by rfl) (fun u hu => ?_) hS ?_
        · ((obtain ⟨_, hu1, hu2, hu3⟩ := hu; obtain ⟨c0, c1, _, _⟩ := obj_cells hu1; obtain ⟨c2, c3, _, _⟩ := obj_cells hu2; obtain ⟨c4, c5, _, _⟩ := obj_cells hu3; clear hu1 hu2 hu3); go_simp; try simp)
        try simp only [Act.put, List.setIfInBounds_toArray, List.set_cons_zero, List.set_cons_succ]
        refine give_val (i := 11) (v := ?_) rfl (by kernel_rfl) (by kernel_rfl) (by kernel_rfl) (fun _ _ _ h => h) (by rfl) (fun u hu => ?_) hS ?_
        rotate_left
        · ((obtain ⟨_, hu1, hu2, hu3⟩ := hu; obtain ⟨c0, c1, _, _⟩ := obj_cells hu1; obtain ⟨c2, c3, _, _⟩ := obj_cells hu2; obtain ⟨c4, c5, _, _⟩ := obj_cells hu3; clear hu1 hu2 hu3); go_simp; try (with_reducible rfl))
        try simp only [Act.put, List.setIfInBounds_toArray, List.set_cons_zero, List.set_cons_succ]
        refine give_val (i := 12) (v := ?_) rfl (by kernel_rfl) (by kernel_rfl) (by kernel_rfl) (fun _ _ _ h => h) (by rfl) (fun u hu => ?_) hS ?_
        rotate_left
        · ((obtain ⟨_, hu1, hu2, hu3⟩ := hu; obtain ⟨c0, c1, _, _⟩ := obj_cells hu1; obtain ⟨c2, c3, _, _⟩ := obj_cells hu2; obtain ⟨c4, c5, _, _⟩ := obj_cells hu3; clear hu1 hu2 hu3); go_simp; try (with_reducible rfl))
        try simp only [Act.put, List.setIfInBounds_toArray, List.set_cons_zero, List.set_cons_succ]
        refine give_val (i := 13) (v := ?_) rfl (by kernel_rfl) (by kernel_rfl) (by kernel_rfl) (fun _ _ _ h => h) (by rfl) (fun u hu => ?_) hS ?_
        rotate_left
        · ((obtain ⟨_, hu1, hu2, hu3⟩ := hu; obtain ⟨c0, c1, _, _⟩ := obj_cells hu1; obtain ⟨c2, c3, _, _⟩ := obj_cells hu2; obtain ⟨c4, c5, _, _⟩ := obj_cells hu3; clear hu1 hu2 hu3); go_simp; try (with_reducible rfl))
        try simp only [Act.put, List.setIfInBounds_toArray, List.set_cons_zero, List.set_cons_succ]
        refine give_val (i := 15) (v := ?_) rfl (by kernel_rfl) (by kernel_rfl) (by kernel_rfl) (fun _ _ _ h => h) (by rfl) (fun u hu => ?_) hS ?_
        rotate_left
        · ((obtain ⟨_, hu1, hu2, hu3⟩ := hu; obtain ⟨c0, c1, _, _⟩ := obj_cells hu1; obtain ⟨c2, c3, _, _⟩ := obj_cells hu2; obtain ⟨c4, c5, _, _⟩ := obj_cells hu3; clear hu1 hu2 hu3); go_simp; try (with_reducible rfl))
        try simp only [Act.put, List.setIfInBounds_toArray, List.set_cons_zero, List.set_cons_succ]
        refine give_val (i := 16) (v := ?_) rfl (by kernel_rfl) (by kernel_rfl) (by kernel_rfl) (fun _ _ _ h => h) (by rfl) (fun u hu => ?_) hS ?_
        rotate_left
        · ((obtain ⟨_, hu1, hu2, hu3⟩ := hu; obtain ⟨c0, c1, _, _⟩ := obj_cells hu1; obtain ⟨c2, c3, _, _⟩ := obj_cells hu2; obtain ⟨c4, c5, _, _⟩ := obj_cells hu3; clear hu1 hu2 hu3); go_simp; try (with_reducible rfl))
        try simp only [Act.put, List.setIfInBounds_toArray, List.set_cons_zero, List.set_cons_succ]
        refine only_call (i := 14) 13 #[.agg #[.int .u64 (x' : Int), .int .u64 (y' : Int)], .int .i64 m] rfl (by kernel_rfl) (by rfl) ((C7.out hmn _).mono fun e w' he => ⟨he.1, hS.below he.2⟩) ?_ ?_
        · (go_simp; try (with_reducible rfl))
        clear hS
        intro w14 hS
        try simp only [Act.put, List.setIfInBounds_toArray, List.set_cons_zero, List.set_cons_succ]
        refine only_call (i := 17) 13 #[.agg #[.int .u64 (h : Int), .int .u64 (l : Int)], .int .i64 m] rfl (by kernel_rfl) (by rfl) ((C8.out _).mono fun e w' he => ⟨he.1, hS.below he.2⟩) ?_ ?_
        · (go_simp; try (with_reducible rfl))
        clear hS
        intro w17 hS
        try simp only [Act.put, List.setIfInBounds_toArray, List.set_cons_zero, List.set_cons_succ]
        refine give_val (i := 18) (v := (.bool true)) rfl (by kernel_rfl) (by kernel_rfl) (by kernel_rfl) (fun _ _ _ h => h) (by rfl) (fun u hu => ?_) hS ?_
        · ((obtain ⟨_, hu1, hu2, hu3⟩ := hu; obtain ⟨c0, c1, _, _⟩ := obj_cells hu1; obtain ⟨c2, c3, _, _⟩ := obj_cells hu2; obtain ⟨c4, c5, _, _⟩ := obj_cells hu3; clear hu1 hu2 hu3); go_simp; try simp)
        try simp only [Act.put, List.setIfInBounds_toArray, List.set_cons_zero, List.set_cons_succ]
        refine give_val (i := 19) (v := ?_) rfl (by kernel_rfl) (by kernel_rfl) (by kernel_rfl) (fun _ _ _ h => h) (by rfl) (fun u hu => ?_) hS ?_
        rotate_left
        · ((obtain ⟨_, hu1, hu2, hu3⟩ := hu; obtain ⟨c0, c1, _, _⟩ := obj_cells hu1; obtain ⟨c2, c3, _, _⟩ := obj_cells hu2; obtain ⟨c4, c5, _, _⟩ := obj_cells hu3; clear hu1 hu2 hu3); go_simp; try (with_reducible rfl))
        try simp only [Act.put, List.setIfInBounds_toArray, List.set_cons_zero, List.set_cons_succ]
        refine give_val (i := 20) (v := ?_) rfl (by kernel_rfl) (by kernel_rfl) (by kernel_rfl) (fun _ _ _ h => h) (by rfl) (fun u hu => ?_) hS ?_
        rotate_left
        · ((obtain ⟨_, hu1, hu2, hu3⟩ := hu; obtain ⟨c0, c1, _, _⟩ := obj_cells hu1; obtain ⟨c2, c3, _, _⟩ := obj_cells hu2; obtain ⟨c4, c5, _, _⟩ := obj_cells hu3; clear hu1 hu2 hu3); go_simp; try (with_reducible rfl))
        try simp only [Act.put, List.setIfInBounds_toArray, List.set_cons_zero, List.set_cons_succ]
        refine give_val (i := 21) (v := ?_) rfl (by kernel_rfl) (by kernel_rfl) (by kernel_rfl) (fun _ _ _ h => h) (by rfl) (fun u hu => ?_) hS ?_
        rotate_left
        · ((obtain ⟨_, hu1, hu2, hu3⟩ := hu; obtain ⟨c0, c1, _, _⟩ := obj_cells hu1; obtain ⟨c2, c3, _, _⟩ := obj_cells hu2; obtain ⟨c4, c5, _, _⟩ := obj_cells hu3; clear hu1 hu2 hu3); go_simp; try (with_reducible rfl))
        try simp only [Act.put, List.setIfInBounds_toArray, List.set_cons_zero, List.set_cons_succ]
        refine wpAnyH_done (by kernel_rfl) (NoPanic.normal ?_) _
        go_wp2
        go_ret
        exact ⟨rfl, hS.1⟩

theorem fieldsOrder_walk (a b n m : Int) (w : World) (h1 : 0 ≤ a) (h2 : a ≤ 18446744073709551615) (h3 : 0 ≤ b) (h4 : b ≤ 18446744073709551615)
    (_h5 : -9223372036854775808 ≤ n) (_h6 : n ≤ 9223372036854775807) (_h7 : -9223372036854775808 ≤ m) (_h8 : m ≤ 9223372036854775807) :
    Calls Try.prog 5 #[.agg #[.int .u64 a, .int .u64 b], .int .i64 n, .int .i64 m] w fun e w' => e = .returned (.bool true) ∧ Below w.heap.size w w' := by
  obtain ⟨x, rfl⟩ := Int.eq_ofNat_of_zero_le h1
  obtain ⟨y, rfl⟩ := Int.eq_ofNat_of_zero_le h3
  exact order_law x y n m w (show x < 18446744073709551616 by omega) (show y < 18446744073709551616 by omega)

end Go.Proofs.Ytlclmhninhdfnaa
