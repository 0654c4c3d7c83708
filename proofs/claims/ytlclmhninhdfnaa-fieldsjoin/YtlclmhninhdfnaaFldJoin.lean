/-
  FieldsJoin: what is in both, and what is in one of both, is so number by number; the order of both plays no part: for every input, in every world.
-/
import Derived.Test.YtlclmhninhdfnaaFldAwake
import Derived.Deep.DeepCutAuto
import Derived.IntWalk
namespace Go.Proofs.Ytlclmhninhdfnaa
open Go.RowKit

/-- Two arguments in two blocks of their own. -/
def Boxes (w : World) (h l h' l' : Nat) (u : World) : Prop := Below w.heap.size w u ∧ u.heap[w.heap.size]? = some (.cells #[.int .u64 (h : Int), .int .u64 (l : Int)] 42) ∧ u.heap[w.heap.size + 1]? = some (.cells #[.int .u64 (h' : Int), .int .u64 (l' : Int)] 42)
theorem Boxes.below {w u u' : World} {h l h' l' : Nat} (t : Boxes w h l h' l' u) (hb : Below u.heap.size u u') : Boxes w h l h' l' u' := ⟨hbt t.1 hb, obj_below t.2.1 hb, obj_below t.2.2 hb⟩
theorem Boxes.set2 {w u : World} {h l h' l' p : Nat} (t : Boxes w h l h' l' u) (hp : w.heap.size + 2 ≤ p) (c d : Value) : Boxes w h l h' l' ((u.setCell ⟨p, 0, none⟩ c).setCell ⟨p, 1, none⟩ d) :=
  ⟨below_set2 t.1 (by omega) c d, obj_set_other t.2.1 (by omega) c d, obj_set_other t.2.2 (by omega) c d⟩
/-- Two sets in two blocks. -/
def Pair (w : World) (h l h' l' p q : Nat) (u : World) : Prop := (Below w.heap.size w u ∧ w.heap.size ≤ p ∧ w.heap.size ≤ q) ∧ u.heap[p]? = some (setO h l) ∧ u.heap[q]? = some (setO h' l')
theorem Pair.below {w u u' : World} {h l h' l' p q : Nat} (t : Pair w h l h' l' p q u) (hb : Below u.heap.size u u') : Pair w h l h' l' p q u' := ⟨⟨hbt t.1.1 hb, t.1.2⟩, obj_below t.2.1 hb, obj_below t.2.2 hb⟩
theorem Pair.drew {w u : World} {h l h' l' p q : Nat} (t : Pair w h l h' l' p q u) : Pair w h l h' l' p q u.drew := ⟨⟨t.1.1.drew, t.1.2⟩, t.2⟩
theorem Pair.set2 {w u : World} {h l h' l' p q r : Nat} (t : Pair w h l h' l' p q u) (hr : max p q + 1 ≤ r) (c d : Value) : Pair w h l h' l' p q ((u.setCell ⟨r, 0, none⟩ c).setCell ⟨r, 1, none⟩ d) :=
  ⟨⟨below_set2 t.1.1 (by have := t.1.2.1; omega) c d, t.1.2⟩, obj_set_other t.2.1 (by omega) c d, obj_set_other t.2.2 (by omega) c d⟩
theorem Pair.base {w u : World} {h l h' l' p q : Nat} (t : Pair w h l h' l' p q u) : max p q + 1 ≤ u.heap.size := by have := obj_lt t.2.1; have := obj_lt t.2.2; omega
theorem Boxes.base {w u : World} {h l h' l' : Nat} (t : Boxes w h l h' l' u) : w.heap.size + 2 ≤ u.heap.size := by have := obj_lt t.2.2; omega
/-- Four sets in four blocks. -/
def Four (w : World) (p h l q h' l' px x x' py y y' : Nat) (u : World) : Prop := Below w.heap.size w u ∧ u.heap[p]? = some (setO h l) ∧ u.heap[q]? = some (setO h' l') ∧ u.heap[px]? = some (setO x x') ∧ u.heap[py]? = some (setO y y')
theorem Four.below {w u u' : World} {p h l q h' l' px x x' py y y' : Nat} (t : Four w p h l q h' l' px x x' py y y' u) (hb : Below u.heap.size u u') : Four w p h l q h' l' px x x' py y y' u' :=
  ⟨hbt t.1 hb, obj_below t.2.1 hb, obj_below t.2.2.1 hb, obj_below t.2.2.2.1 hb, obj_below t.2.2.2.2 hb⟩
theorem Four.drew {w u : World} {p h l q h' l' px x x' py y y' : Nat} (t : Four w p h l q h' l' px x x' py y y' u) : Four w p h l q h' l' px x x' py y y' u.drew := ⟨t.1.drew, t.2⟩

set_option maxHeartbeats 6400000 in
theorem join_law (h l h' l' : Nat) (n : Int) (w : World) (b1 : h < M64) (b2 : l < M64) (b3 : h' < M64) (b4 : l' < M64) :
    Calls Try.prog 6 #[.agg #[.int .u64 (h : Int), .int .u64 (l : Int)], .agg #[.int .u64 (h' : Int), .int .u64 (l' : Int)], .int .i64 n] w fun e w' => e = .returned (.bool true) ∧ Below w.heap.size w w' := by
  have C1 := Lib.hid (fun W => bits_any h l W)
  have C1' := Lib.hid (fun W => bits_any h' l' W)
  have C2 := Lib.hid (fun W => both_any h l h' l' W b1 b2 b3 b4)
  have C3 := Lib.hid (fun W => either_any h l h' l' W b1 b2 b3 b4)
  have C4 := Lib.hid (fun W => by have := both_any h' l' h l W b3 b4 b1 b2; rw [Nat.and_comm h' h, Nat.and_comm l' l] at this; exact this)
  have C5 := Lib.hid (fun W => by have := either_any h' l' h l W b3 b4 b1 b2; rw [Nat.or_comm h' h, Nat.or_comm l' l] at this; exact this)
  have b5 : h &&& h' < M64 := and_lt b1
  have b6 : l &&& l' < M64 := and_lt b2
  have b7 : h ||| h' < M64 := or_lt b1 b3
  have b8 : l ||| l' < M64 := or_lt b2 b4
  have CX := Lib.hid (fun W => by have := has_any _ _ n W b5 b6; rw [has_both] at this; exact this)
  have CY := Lib.hid (fun W => by have := has_any _ _ n W b7 b8; rw [has_either] at this; exact this)
  have CS := Lib.hid (fun W => has_any h l n W b1 b2)
  have CT := Lib.hid (fun W => has_any h' l' n W b3 b4)
  have LX := Lib.hid (fun W => len_any _ _ W b5 b6)
  have LY := Lib.hid (fun W => len_any _ _ W b7 b8)
  have LS := Lib.hid (fun W => len_any h l W b1 b2)
  have LT := Lib.hid (fun W => len_any h' l' W b3 b4)
  have hj1 := popAux_join 64 h h'
  have hj2 := popAux_join 64 l l'
  have hsum : (Lib.onesCount (h &&& h') + Lib.onesCount (l &&& l')) + (Lib.onesCount (h ||| h') + Lib.onesCount (l ||| l')) = (Lib.onesCount h + Lib.onesCount l) + (Lib.onesCount h' + Lib.onesCount l') := by
    unfold Lib.onesCount
    omega
  have k1 : Lib.onesCount (h &&& h') + Lib.onesCount (l &&& l') ≤ 128 := by have := onesCount_le (h &&& h'); have := onesCount_le (l &&& l'); omega
  have k2 : Lib.onesCount (h ||| h') + Lib.onesCount (l ||| l') ≤ 128 := by have := onesCount_le (h ||| h'); have := onesCount_le (l ||| l'); omega
  have k3 : Lib.onesCount h + Lib.onesCount l ≤ 128 := by have := onesCount_le h; have := onesCount_le l; omega
  have k4 : Lib.onesCount h' + Lib.onesCount l' ≤ 128 := by have := onesCount_le h'; have := onesCount_le l'; omega
  clear b1 b2 b3 b4 b5 b6 b7 b8 hj1 hj2
  unfold setV at *
  generalize Lib.onesCount (h &&& h') + Lib.onesCount (l &&& l') = lx at *
  generalize Lib.onesCount (h ||| h') + Lib.onesCount (l ||| l') = ly at *
  generalize Lib.onesCount h + Lib.onesCount l = ls at *
  generalize Lib.onesCount h' + Lib.onesCount l' = lt at *
  generalize h &&& h' = x at *
  generalize l &&& l' = x' at *
  generalize h ||| h' = y at *
  generalize l ||| l' = y' at *
  generalize hasN h l n = rs at *
  generalize hasN h' l' n = rt at *
  have HSUM := Lib.hid hsum
  clear hsum
  go_enter Try.func6, Try.ntmps6
  go_upto_region 1 with fail
  go_cut [7, 8] (fun s7 s8 wx => ∃ p q : Nat, s7 = .pointer (some ⟨p, 0, none⟩) ∧ s8 = .pointer (some ⟨q, 0, none⟩) ∧ Pair w h l h' l' p q wx)
  case first =>
    refine wp_region_noPanic ?_
    refine wp_region_held_drew (S := (Boxes w h l h' l')) (by kernel_rfl) (⟨(hbt (below_al _ _) (below_al _ _)).drew, heap_alloc2_old _ _ _, heap_alloc2_new _ _ _⟩) (fun hS => ?_)
    refine give_val (i := 0) (v := ?_) rfl (by kernel_rfl) (by kernel_rfl) (by kernel_rfl) (fun _ _ _ h => h) (by rfl) (fun u hu => ?_) hS ?_
    rotate_left
    · ((obtain ⟨_, hu2, hu3⟩ := hu; obtain ⟨c0, c1, _, _⟩ := obj_cells hu2; obtain ⟨c2, c3, _, _⟩ := obj_cells hu3; clear hu2 hu3); go_simp; try (with_reducible rfl))
    try simp only [Act.put, List.setIfInBounds_toArray, List.set_cons_zero, List.set_cons_succ]
    refine give_val (i := 1) (v := ?_) rfl (by kernel_rfl) (by kernel_rfl) (by kernel_rfl) (fun _ _ _ h => h) (by rfl) (fun u hu => ?_) hS ?_
    rotate_left
    · ((obtain ⟨_, hu2, hu3⟩ := hu; obtain ⟨c0, c1, _, _⟩ := obj_cells hu2; obtain ⟨c2, c3, _, _⟩ := obj_cells hu3; clear hu2 hu3); go_simp; try (with_reducible rfl))
    try simp only [Act.put, List.setIfInBounds_toArray, List.set_cons_zero, List.set_cons_succ]
    refine give_val (i := 2) (v := ?_) rfl (by kernel_rfl) (by kernel_rfl) (by kernel_rfl) (fun _ _ _ h => h) (by rfl) (fun u hu => ?_) hS ?_
    rotate_left
    · ((obtain ⟨_, hu2, hu3⟩ := hu; obtain ⟨c0, c1, _, _⟩ := obj_cells hu2; obtain ⟨c2, c3, _, _⟩ := obj_cells hu3; clear hu2 hu3); go_simp; try (with_reducible rfl))
    try simp only [Act.put, List.setIfInBounds_toArray, List.set_cons_zero, List.set_cons_succ]
    refine give_val (i := 3) (v := ?_) rfl (by kernel_rfl) (by kernel_rfl) (by kernel_rfl) (fun _ _ _ h => h) (by rfl) (fun u hu => ?_) hS ?_
    rotate_left
    · ((obtain ⟨_, hu2, hu3⟩ := hu; obtain ⟨c0, c1, _, _⟩ := obj_cells hu2; obtain ⟨c2, c3, _, _⟩ := obj_cells hu3; clear hu2 hu3); go_simp; try (with_reducible rfl))
    try simp only [Act.put, List.setIfInBounds_toArray, List.set_cons_zero, List.set_cons_succ]
    refine give_val (i := 5) (v := ?_) rfl (by kernel_rfl) (by kernel_rfl) (by kernel_rfl) (fun _ _ _ h => h) (by rfl) (fun u hu => ?_) hS ?_
    rotate_left
    · ((obtain ⟨_, hu2, hu3⟩ := hu; obtain ⟨c0, c1, _, _⟩ := obj_cells hu2; obtain ⟨c2, c3, _, _⟩ := obj_cells hu3; clear hu2 hu3); go_simp; try (with_reducible rfl))
    try simp only [Act.put, List.setIfInBounds_toArray, List.set_cons_zero, List.set_cons_succ]
    refine give_val (i := 6) (v := ?_) rfl (by kernel_rfl) (by kernel_rfl) (by kernel_rfl) (fun _ _ _ h => h) (by rfl) (fun u hu => ?_) hS ?_
    rotate_left
    · ((obtain ⟨_, hu2, hu3⟩ := hu; obtain ⟨c0, c1, _, _⟩ := obj_cells hu2; obtain ⟨c2, c3, _, _⟩ := obj_cells hu3; clear hu2 hu3); go_simp; try (with_reducible rfl))
    try simp only [Act.put, List.setIfInBounds_toArray, List.set_cons_zero, List.set_cons_succ]
    refine give_val (i := 7) (v := ?_) rfl (by kernel_rfl) (by kernel_rfl) (by kernel_rfl) (fun _ _ _ h => h) (by rfl) (fun u hu => ?_) hS ?_
    rotate_left
    · ((obtain ⟨_, hu2, hu3⟩ := hu; obtain ⟨c0, c1, _, _⟩ := obj_cells hu2; obtain ⟨c2, c3, _, _⟩ := obj_cells hu3; clear hu2 hu3); go_simp; try (with_reducible rfl))
    try simp only [Act.put, List.setIfInBounds_toArray, List.set_cons_zero, List.set_cons_succ]
    refine give_val (i := 8) (v := ?_) rfl (by kernel_rfl) (by kernel_rfl) (by kernel_rfl) (fun _ _ _ h => h) (by rfl) (fun u hu => ?_) hS ?_
    rotate_left
    · ((obtain ⟨_, hu2, hu3⟩ := hu; obtain ⟨c0, c1, _, _⟩ := obj_cells hu2; obtain ⟨c2, c3, _, _⟩ := obj_cells hu3; clear hu2 hu3); go_simp; try (with_reducible rfl))
    try simp only [Act.put, List.setIfInBounds_toArray, List.set_cons_zero, List.set_cons_succ]
    refine wpAnyH_ready (rs := [4, 10, 11]) (by kernel_rfl) (by simp) (arm_call (i := 4) 8 #[.int .u64 (h : Int), .int .u64 (l : Int)] rfl (by rfl) (C1.out _) ?_ ?_ (arm_alloc (i := 10) (.cells #[.int .u64 0, .int .u64 0] 24) rfl (by rfl) ?_ ?_ (arm_alloc (i := 11) (.cells #[.int .u64 0, .int .u64 0] 24) rfl (by rfl) ?_ ?_ AllReadyH.nil)))
    · (go_simp; try (with_reducible rfl))
    · intro u' hb
      have hS' : (Boxes w h l h' l') u' := hS.below hb
      refine ⟨hS', ?_⟩
      clear hS hb
      have hS := hS'; clear hS'
      rename World => u
      try simp only [Act.put, List.setIfInBounds_toArray, List.set_cons_zero, List.set_cons_succ]
      refine wpAnyH_ready (rs := [9, 10, 11]) (by kernel_rfl) (by simp) (arm_call (i := 9) 8 #[.int .u64 (h' : Int), .int .u64 (l' : Int)] rfl (by rfl) (C1'.out _) ?_ ?_ (arm_alloc (i := 10) (.cells #[.int .u64 0, .int .u64 0] 24) rfl (by rfl) ?_ ?_ (arm_alloc (i := 11) (.cells #[.int .u64 0, .int .u64 0] 24) rfl (by rfl) ?_ ?_ AllReadyH.nil)))
      · (go_simp; try (with_reducible rfl))
      · intro u' hb
        have hS' : (Boxes w h l h' l') u' := hS.below hb
        refine ⟨hS', ?_⟩
        clear hS hb
        have hS := hS'; clear hS'
        rename World => u
        try simp only [Act.put, List.setIfInBounds_toArray, List.set_cons_zero, List.set_cons_succ]
        refine wpAnyH_ready (rs := [10, 11]) (by kernel_rfl) (by simp) (arm_alloc (i := 10) (.cells #[.int .u64 0, .int .u64 0] 24) rfl (by rfl) ?_ ?_ (arm_alloc (i := 11) (.cells #[.int .u64 0, .int .u64 0] 24) rfl (by rfl) ?_ ?_ AllReadyH.nil))
        · (go_simp; try (with_reducible rfl))
        · intro p10 u' hb ho10 hp10
          replace hp10 := Nat.le_trans (hS.base) hp10
          have hS' : (Boxes w h l h' l') u' := hS.below hb
          refine ⟨hS', ?_⟩
          clear hS hb
          have hS := hS'; clear hS'
          rename World => u
          try simp only [Act.put, List.setIfInBounds_toArray, List.set_cons_zero, List.set_cons_succ]
          refine wpAnyH_ready (rs := [11]) (by kernel_rfl) (by simp) (arm_alloc (i := 11) (.cells #[.int .u64 0, .int .u64 0] 24) rfl (by rfl) ?_ ?_ AllReadyH.nil)
          · (go_simp; try (with_reducible rfl))
          · intro p11 u' hb ho11 hp11
            have ne10_11 : p10 ≠ p11 := by have := obj_lt ho10; omega
            replace hp11 := Nat.le_trans (hS.base) hp11
            have hS' : (Boxes w h l h' l') u' := hS.below hb
            refine ⟨hS', ?_⟩
            replace ho10 := obj_below ho10 hb
            clear hS hb
            have hS := hS'; clear hS'
            rename World => u
            try simp only [Act.put, List.setIfInBounds_toArray, List.set_cons_zero, List.set_cons_succ]
            obtain ⟨c0, c1, f0, f1⟩ := obj_cells ho10
            have hr8 := obj_set2 ho10 (.int .u64 (h : Int)) (.int .u64 (l : Int))
            have ho8 := obj_set_other ho11 (Ne.symm ne10_11) (.int .u64 (h : Int)) (.int .u64 (l : Int))
            have hS8 : (Boxes w h l h' l') _ := Boxes.set2 hS hp10 (.int .u64 (h : Int)) (.int .u64 (l : Int))
            refine only (i := 12) rfl (by kernel_rfl) (by rfl) (fun K hK => ?_)
            go_simp
            refine hK.out _ _ hS8 ?_
            clear hK
            try simp only [Act.put, List.setIfInBounds_toArray, List.set_cons_zero, List.set_cons_succ]
            clear c0 c1 f0 f1 hS ho10 ho11
            generalize ((u.setCell _ _).setCell _ _) = u8 at *
            obtain ⟨c0, c1, f0, f1⟩ := obj_cells ho8
            have hr9 := obj_set2 ho8 (.int .u64 (h' : Int)) (.int .u64 (l' : Int))
            have hr8' := obj_set_other hr8 ne10_11 (.int .u64 (h' : Int)) (.int .u64 (l' : Int))
            have hS9 : (Boxes w h l h' l') _ := Boxes.set2 hS8 hp11 (.int .u64 (h' : Int)) (.int .u64 (l' : Int))
            refine only (i := 13) rfl (by kernel_rfl) (by rfl) (fun K hK => ?_)
            go_simp
            refine hK.out _ _ hS9 ?_
            clear hK
            try simp only [Act.put, List.setIfInBounds_toArray, List.set_cons_zero, List.set_cons_succ]
            refine wpAnyH_done (by kernel_rfl) (NoPanic.normal ?_) _
            go_wp2_with fail
            go_meet
            exact ⟨p10, p11, rfl, rfl, ⟨hS9.1, by omega, by omega⟩, hr8', hr9⟩
        · (go_simp; try (with_reducible rfl))
        · intro p11 u' hb ho11 hp11
          replace hp11 := Nat.le_trans (hS.base) hp11
          have hS' : (Boxes w h l h' l') u' := hS.below hb
          refine ⟨hS', ?_⟩
          clear hS hb
          have hS := hS'; clear hS'
          rename World => u
          try simp only [Act.put, List.setIfInBounds_toArray, List.set_cons_zero, List.set_cons_succ]
          refine wpAnyH_ready (rs := [10]) (by kernel_rfl) (by simp) (arm_alloc (i := 10) (.cells #[.int .u64 0, .int .u64 0] 24) rfl (by rfl) ?_ ?_ AllReadyH.nil)
          · (go_simp; try (with_reducible rfl))
          · intro p10 u' hb ho10 hp10
            have ne10_11 : p10 ≠ p11 := by have := obj_lt ho11; omega
            replace hp10 := Nat.le_trans (hS.base) hp10
            have hS' : (Boxes w h l h' l') u' := hS.below hb
            refine ⟨hS', ?_⟩
            replace ho11 := obj_below ho11 hb
            clear hS hb
            have hS := hS'; clear hS'
            rename World => u
            try simp only [Act.put, List.setIfInBounds_toArray, List.set_cons_zero, List.set_cons_succ]
            obtain ⟨c0, c1, f0, f1⟩ := obj_cells ho10
            have hr8 := obj_set2 ho10 (.int .u64 (h : Int)) (.int .u64 (l : Int))
            have ho8 := obj_set_other ho11 (Ne.symm ne10_11) (.int .u64 (h : Int)) (.int .u64 (l : Int))
            have hS8 : (Boxes w h l h' l') _ := Boxes.set2 hS hp10 (.int .u64 (h : Int)) (.int .u64 (l : Int))
            refine only (i := 12) rfl (by kernel_rfl) (by rfl) (fun K hK => ?_)
            go_simp
            refine hK.out _ _ hS8 ?_
            clear hK
            try simp only [Act.put, List.setIfInBounds_toArray, List.set_cons_zero, List.set_cons_succ]
            clear c0 c1 f0 f1 hS ho10 ho11
            generalize ((u.setCell _ _).setCell _ _) = u8 at *
            obtain ⟨c0, c1, f0, f1⟩ := obj_cells ho8
            have hr9 := obj_set2 ho8 (.int .u64 (h' : Int)) (.int .u64 (l' : Int))
            have hr8' := obj_set_other hr8 ne10_11 (.int .u64 (h' : Int)) (.int .u64 (l' : Int))
            have hS9 : (Boxes w h l h' l') _ := Boxes.set2 hS8 hp11 (.int .u64 (h' : Int)) (.int .u64 (l' : Int))
            refine only (i := 13) rfl (by kernel_rfl) (by rfl) (fun K hK => ?_)
            go_simp
            refine hK.out _ _ hS9 ?_
            clear hK
            try simp only [Act.put, List.setIfInBounds_toArray, List.set_cons_zero, List.set_cons_succ]
            refine wpAnyH_done (by kernel_rfl) (NoPanic.normal ?_) _
            go_wp2_with fail
            go_meet
            exact ⟨p10, p11, rfl, rfl, ⟨hS9.1, by omega, by omega⟩, hr8', hr9⟩
      · (go_simp; try (with_reducible rfl))
      · intro p10 u' hb ho10 hp10
        replace hp10 := Nat.le_trans (hS.base) hp10
        have hS' : (Boxes w h l h' l') u' := hS.below hb
        refine ⟨hS', ?_⟩
        clear hS hb
        have hS := hS'; clear hS'
        rename World => u
        try simp only [Act.put, List.setIfInBounds_toArray, List.set_cons_zero, List.set_cons_succ]
        refine wpAnyH_ready (rs := [9, 11]) (by kernel_rfl) (by simp) (arm_call (i := 9) 8 #[.int .u64 (h' : Int), .int .u64 (l' : Int)] rfl (by rfl) (C1'.out _) ?_ ?_ (arm_alloc (i := 11) (.cells #[.int .u64 0, .int .u64 0] 24) rfl (by rfl) ?_ ?_ AllReadyH.nil))
        · (go_simp; try (with_reducible rfl))
        · intro u' hb
          have hS' : (Boxes w h l h' l') u' := hS.below hb
          refine ⟨hS', ?_⟩
          replace ho10 := obj_below ho10 hb
          clear hS hb
          have hS := hS'; clear hS'
          rename World => u
          try simp only [Act.put, List.setIfInBounds_toArray, List.set_cons_zero, List.set_cons_succ]
          refine wpAnyH_ready (rs := [11]) (by kernel_rfl) (by simp) (arm_alloc (i := 11) (.cells #[.int .u64 0, .int .u64 0] 24) rfl (by rfl) ?_ ?_ AllReadyH.nil)
          · (go_simp; try (with_reducible rfl))
          · intro p11 u' hb ho11 hp11
            have ne10_11 : p10 ≠ p11 := by have := obj_lt ho10; omega
            replace hp11 := Nat.le_trans (hS.base) hp11
            have hS' : (Boxes w h l h' l') u' := hS.below hb
            refine ⟨hS', ?_⟩
            replace ho10 := obj_below ho10 hb
            clear hS hb
            have hS := hS'; clear hS'
            rename World => u
            try simp only [Act.put, List.setIfInBounds_toArray, List.set_cons_zero, List.set_cons_succ]
            obtain ⟨c0, c1, f0, f1⟩ := obj_cells ho10
            have hr8 := obj_set2 ho10 (.int .u64 (h : Int)) (.int .u64 (l : Int))
            have ho8 := obj_set_other ho11 (Ne.symm ne10_11) (.int .u64 (h : Int)) (.int .u64 (l : Int))
            have hS8 : (Boxes w h l h' l') _ := Boxes.set2 hS hp10 (.int .u64 (h : Int)) (.int .u64 (l : Int))
            refine only (i := 12) rfl (by kernel_rfl) (by rfl) (fun K hK => ?_)
            go_simp
            refine hK.out _ _ hS8 ?_
            clear hK
            try simp only [Act.put, List.setIfInBounds_toArray, List.set_cons_zero, List.set_cons_succ]
            clear c0 c1 f0 f1 hS ho10 ho11
            generalize ((u.setCell _ _).setCell _ _) = u8 at *
            obtain ⟨c0, c1, f0, f1⟩ := obj_cells ho8
            have hr9 := obj_set2 ho8 (.int .u64 (h' : Int)) (.int .u64 (l' : Int))
            have hr8' := obj_set_other hr8 ne10_11 (.int .u64 (h' : Int)) (.int .u64 (l' : Int))
            have hS9 : (Boxes w h l h' l') _ := Boxes.set2 hS8 hp11 (.int .u64 (h' : Int)) (.int .u64 (l' : Int))
            refine only (i := 13) rfl (by kernel_rfl) (by rfl) (fun K hK => ?_)
            go_simp
            refine hK.out _ _ hS9 ?_
            clear hK
            try simp only [Act.put, List.setIfInBounds_toArray, List.set_cons_zero, List.set_cons_succ]
            refine wpAnyH_done (by kernel_rfl) (NoPanic.normal ?_) _
            go_wp2_with fail
            go_meet
            exact ⟨p10, p11, rfl, rfl, ⟨hS9.1, by omega, by omega⟩, hr8', hr9⟩
        · (go_simp; try (with_reducible rfl))
        · intro p11 u' hb ho11 hp11
          have ne10_11 : p10 ≠ p11 := by have := obj_lt ho10; omega
          replace hp11 := Nat.le_trans (hS.base) hp11
          have hS' : (Boxes w h l h' l') u' := hS.below hb
          refine ⟨hS', ?_⟩
          replace ho10 := obj_below ho10 hb
          clear hS hb
          have hS := hS'; clear hS'
          rename World => u
          try simp only [Act.put, List.setIfInBounds_toArray, List.set_cons_zero, List.set_cons_succ]
          refine wpAnyH_ready (rs := [9]) (by kernel_rfl) (by simp) (arm_call (i := 9) 8 #[.int .u64 (h' : Int), .int .u64 (l' : Int)] rfl (by rfl) (C1'.out _) ?_ ?_ AllReadyH.nil)
          · (go_simp; try (with_reducible rfl))
          · intro u' hb
            have hS' : (Boxes w h l h' l') u' := hS.below hb
            refine ⟨hS', ?_⟩
            replace ho10 := obj_below ho10 hb
            replace ho11 := obj_below ho11 hb
            clear hS hb
            have hS := hS'; clear hS'
            rename World => u
            try simp only [Act.put, List.setIfInBounds_toArray, List.set_cons_zero, List.set_cons_succ]
            obtain ⟨c0, c1, f0, f1⟩ := obj_cells ho10
            have hr8 := obj_set2 ho10 (.int .u64 (h : Int)) (.int .u64 (l : Int))
            have ho8 := obj_set_other ho11 (Ne.symm ne10_11) (.int .u64 (h : Int)) (.int .u64 (l : Int))
            have hS8 : (Boxes w h l h' l') _ := Boxes.set2 hS hp10 (.int .u64 (h : Int)) (.int .u64 (l : Int))
            refine only (i := 12) rfl (by kernel_rfl) (by rfl) (fun K hK => ?_)
            go_simp
            refine hK.out _ _ hS8 ?_
            clear hK
            try simp only [Act.put, List.setIfInBounds_toArray, List.set_cons_zero, List.set_cons_succ]
            clear c0 c1 f0 f1 hS ho10 ho11
            generalize ((u.setCell _ _).setCell _ _) = u8 at *
            obtain ⟨c0, c1, f0, f1⟩ := obj_cells ho8
            have hr9 := obj_set2 ho8 (.int .u64 (h' : Int)) (.int .u64 (l' : Int))
            have hr8' := obj_set_other hr8 ne10_11 (.int .u64 (h' : Int)) (.int .u64 (l' : Int))
            have hS9 : (Boxes w h l h' l') _ := Boxes.set2 hS8 hp11 (.int .u64 (h' : Int)) (.int .u64 (l' : Int))
            refine only (i := 13) rfl (by kernel_rfl) (by rfl) (fun K hK => ?_)
            go_simp
            refine hK.out _ _ hS9 ?_
            clear hK
            try simp only [Act.put, List.setIfInBounds_toArray, List.set_cons_zero, List.set_cons_succ]
            refine wpAnyH_done (by kernel_rfl) (NoPanic.normal ?_) _
            go_wp2_with fail
            go_meet
            exact ⟨p10, p11, rfl, rfl, ⟨hS9.1, by omega, by omega⟩, hr8', hr9⟩
      · (go_simp; try (with_reducible rfl))
      · intro p11 u' hb ho11 hp11
        replace hp11 := Nat.le_trans (hS.base) hp11
        have hS' : (Boxes w h l h' l') u' := hS.below hb
        refine ⟨hS', ?_⟩
        clear hS hb
        have hS := hS'; clear hS'
        rename World => u
        try simp only [Act.put, List.setIfInBounds_toArray, List.set_cons_zero, List.set_cons_succ]
        refine wpAnyH_ready (rs := [9, 10]) (by kernel_rfl) (by simp) (arm_call (i := 9) 8 #[.int .u64 (h' : Int), .int .u64 (l' : Int)] rfl (by rfl) (C1'.out _) ?_ ?_ (arm_alloc (i := 10) (.cells #[.int .u64 0, .int .u64 0] 24) rfl (by rfl) ?_ ?_ AllReadyH.nil))
        · (go_simp; try (with_reducible rfl))
        · intro u' hb
          have hS' : (Boxes w h l h' l') u' := hS.below hb
          refine ⟨hS', ?_⟩
          replace ho11 := obj_below ho11 hb
          clear hS hb
          have hS := hS'; clear hS'
          rename World => u
          try simp only [Act.put, List.setIfInBounds_toArray, List.set_cons_zero, List.set_cons_succ]
          refine wpAnyH_ready (rs := [10]) (by kernel_rfl) (by simp) (arm_alloc (i := 10) (.cells #[.int .u64 0, .int .u64 0] 24) rfl (by rfl) ?_ ?_ AllReadyH.nil)
          · (go_simp; try (with_reducible rfl))
          · intro p10 u' hb ho10 hp10
            have ne10_11 : p10 ≠ p11 := by have := obj_lt ho11; omega
            replace hp10 := Nat.le_trans (hS.base) hp10
            have hS' : (Boxes w h l h' l') u' := hS.below hb
            refine ⟨hS', ?_⟩
            replace ho11 := obj_below ho11 hb
            clear hS hb
            have hS := hS'; clear hS'
            rename World => u
            try simp only [Act.put, List.setIfInBounds_toArray, List.set_cons_zero, List.set_cons_succ]
            obtain ⟨c0, c1, f0, f1⟩ := obj_cells ho10
            have hr8 := obj_set2 ho10 (.int .u64 (h : Int)) (.int .u64 (l : Int))
            have ho8 := obj_set_other ho11 (Ne.symm ne10_11) (.int .u64 (h : Int)) (.int .u64 (l : Int))
            have hS8 : (Boxes w h l h' l') _ := Boxes.set2 hS hp10 (.int .u64 (h : Int)) (.int .u64 (l : Int))
            refine only (i := 12) rfl (by kernel_rfl) (by rfl) (fun K hK => ?_)
            go_simp
            refine hK.out _ _ hS8 ?_
            clear hK
            try simp only [Act.put, List.setIfInBounds_toArray, List.set_cons_zero, List.set_cons_succ]
            clear c0 c1 f0 f1 hS ho10 ho11
            generalize ((u.setCell _ _).setCell _ _) = u8 at *
            obtain ⟨c0, c1, f0, f1⟩ := obj_cells ho8
            have hr9 := obj_set2 ho8 (.int .u64 (h' : Int)) (.int .u64 (l' : Int))
            have hr8' := obj_set_other hr8 ne10_11 (.int .u64 (h' : Int)) (.int .u64 (l' : Int))
            have hS9 : (Boxes w h l h' l') _ := Boxes.set2 hS8 hp11 (.int .u64 (h' : Int)) (.int .u64 (l' : Int))
            refine only (i := 13) rfl (by kernel_rfl) (by rfl) (fun K hK => ?_)
            go_simp
            refine hK.out _ _ hS9 ?_
            clear hK
            try simp only [Act.put, List.setIfInBounds_toArray, List.set_cons_zero, List.set_cons_succ]
            refine wpAnyH_done (by kernel_rfl) (NoPanic.normal ?_) _
            go_wp2_with fail
            go_meet
            exact ⟨p10, p11, rfl, rfl, ⟨hS9.1, by omega, by omega⟩, hr8', hr9⟩
        · (go_simp; try (with_reducible rfl))
        · intro p10 u' hb ho10 hp10
          have ne10_11 : p10 ≠ p11 := by have := obj_lt ho11; omega
          replace hp10 := Nat.le_trans (hS.base) hp10
          have hS' : (Boxes w h l h' l') u' := hS.below hb
          refine ⟨hS', ?_⟩
          replace ho11 := obj_below ho11 hb
          clear hS hb
          have hS := hS'; clear hS'
          rename World => u
          try simp only [Act.put, List.setIfInBounds_toArray, List.set_cons_zero, List.set_cons_succ]
          refine wpAnyH_ready (rs := [9]) (by kernel_rfl) (by simp) (arm_call (i := 9) 8 #[.int .u64 (h' : Int), .int .u64 (l' : Int)] rfl (by rfl) (C1'.out _) ?_ ?_ AllReadyH.nil)
          · (go_simp; try (with_reducible rfl))
          · intro u' hb
            have hS' : (Boxes w h l h' l') u' := hS.below hb
            refine ⟨hS', ?_⟩
            replace ho11 := obj_below ho11 hb
            replace ho10 := obj_below ho10 hb
            clear hS hb
            have hS := hS'; clear hS'
            rename World => u
            try simp only [Act.put, List.setIfInBounds_toArray, List.set_cons_zero, List.set_cons_succ]
            obtain ⟨c0, c1, f0, f1⟩ := obj_cells ho10
            have hr8 := obj_set2 ho10 (.int .u64 (h : Int)) (.int .u64 (l : Int))
            have ho8 := obj_set_other ho11 (Ne.symm ne10_11) (.int .u64 (h : Int)) (.int .u64 (l : Int))
            have hS8 : (Boxes w h l h' l') _ := Boxes.set2 hS hp10 (.int .u64 (h : Int)) (.int .u64 (l : Int))
            refine only (i := 12) rfl (by kernel_rfl) (by rfl) (fun K hK => ?_)
            go_simp
            refine hK.out _ _ hS8 ?_
            clear hK
            try simp only [Act.put, List.setIfInBounds_toArray, List.set_cons_zero, List.set_cons_succ]
            clear c0 c1 f0 f1 hS ho10 ho11
            generalize ((u.setCell _ _).setCell _ _) = u8 at *
            obtain ⟨c0, c1, f0, f1⟩ := obj_cells ho8
            have hr9 := obj_set2 ho8 (.int .u64 (h' : Int)) (.int .u64 (l' : Int))
            have hr8' := obj_set_other hr8 ne10_11 (.int .u64 (h' : Int)) (.int .u64 (l' : Int))
            have hS9 : (Boxes w h l h' l') _ := Boxes.set2 hS8 hp11 (.int .u64 (h' : Int)) (.int .u64 (l' : Int))
            refine only (i := 13) rfl (by kernel_rfl) (by rfl) (fun K hK => ?_)
            go_simp
            refine hK.out _ _ hS9 ?_
            clear hK
            try simp only [Act.put, List.setIfInBounds_toArray, List.set_cons_zero, List.set_cons_succ]
            refine wpAnyH_done (by kernel_rfl) (NoPanic.normal ?_) _
            go_wp2_with fail
            go_meet
            exact ⟨p10, p11, rfl, rfl, ⟨hS9.1, by omega, by omega⟩, hr8', hr9⟩
    · (go_simp; try (with_reducible rfl))
    · intro p10 u' hb ho10 hp10
      replace hp10 := Nat.le_trans (hS.base) hp10
      have hS' : (Boxes w h l h' l') u' := hS.below hb
      refine ⟨hS', ?_⟩
      clear hS hb
      have hS := hS'; clear hS'
      rename World => u
      try simp only [Act.put, List.setIfInBounds_toArray, List.set_cons_zero, List.set_cons_succ]
      refine wpAnyH_ready (rs := [4, 11]) (by kernel_rfl) (by simp) (arm_call (i := 4) 8 #[.int .u64 (h : Int), .int .u64 (l : Int)] rfl (by rfl) (C1.out _) ?_ ?_ (arm_alloc (i := 11) (.cells #[.int .u64 0, .int .u64 0] 24) rfl (by rfl) ?_ ?_ AllReadyH.nil))
      · (go_simp; try (with_reducible rfl))
      · intro u' hb
        have hS' : (Boxes w h l h' l') u' := hS.below hb
        refine ⟨hS', ?_⟩
        replace ho10 := obj_below ho10 hb
        clear hS hb
        have hS := hS'; clear hS'
        rename World => u
        try simp only [Act.put, List.setIfInBounds_toArray, List.set_cons_zero, List.set_cons_succ]
        refine wpAnyH_ready (rs := [9, 11]) (by kernel_rfl) (by simp) (arm_call (i := 9) 8 #[.int .u64 (h' : Int), .int .u64 (l' : Int)] rfl (by rfl) (C1'.out _) ?_ ?_ (arm_alloc (i := 11) (.cells #[.int .u64 0, .int .u64 0] 24) rfl (by rfl) ?_ ?_ AllReadyH.nil))
        · (go_simp; try (with_reducible rfl))
        · intro u' hb
          have hS' : (Boxes w h l h' l') u' := hS.below hb
          refine ⟨hS', ?_⟩
          replace ho10 := obj_below ho10 hb
          clear hS hb
          have hS := hS'; clear hS'
          rename World => u
          try simp only [Act.put, List.setIfInBounds_toArray, List.set_cons_zero, List.set_cons_succ]
          refine wpAnyH_ready (rs := [11]) (by kernel_rfl) (by simp) (arm_alloc (i := 11) (.cells #[.int .u64 0, .int .u64 0] 24) rfl (by rfl) ?_ ?_ AllReadyH.nil)
          · (go_simp; try (with_reducible rfl))
          · intro p11 u' hb ho11 hp11
            have ne10_11 : p10 ≠ p11 := by have := obj_lt ho10; omega
            replace hp11 := Nat.le_trans (hS.base) hp11
            have hS' : (Boxes w h l h' l') u' := hS.below hb
            refine ⟨hS', ?_⟩
            replace ho10 := obj_below ho10 hb
            clear hS hb
            have hS := hS'; clear hS'
            rename World => u
            try simp only [Act.put, List.setIfInBounds_toArray, List.set_cons_zero, List.set_cons_succ]
            obtain ⟨c0, c1, f0, f1⟩ := obj_cells ho10
            have hr8 := obj_set2 ho10 (.int .u64 (h : Int)) (.int .u64 (l : Int))
            have ho8 := obj_set_other ho11 (Ne.symm ne10_11) (.int .u64 (h : Int)) (.int .u64 (l : Int))
            have hS8 : (Boxes w h l h' l') _ := Boxes.set2 hS hp10 (.int .u64 (h : Int)) (.int .u64 (l : Int))
            refine only (i := 12) rfl (by kernel_rfl) (by rfl) (fun K hK => ?_)
            go_simp
            refine hK.out _ _ hS8 ?_
            clear hK
            try simp only [Act.put, List.setIfInBounds_toArray, List.set_cons_zero, List.set_cons_succ]
            clear c0 c1 f0 f1 hS ho10 ho11
            generalize ((u.setCell _ _).setCell _ _) = u8 at *
            obtain ⟨c0, c1, f0, f1⟩ := obj_cells ho8
            have hr9 := obj_set2 ho8 (.int .u64 (h' : Int)) (.int .u64 (l' : Int))
            have hr8' := obj_set_other hr8 ne10_11 (.int .u64 (h' : Int)) (.int .u64 (l' : Int))
            have hS9 : (Boxes w h l h' l') _ := Boxes.set2 hS8 hp11 (.int .u64 (h' : Int)) (.int .u64 (l' : Int))
            refine only (i := 13) rfl (by kernel_rfl) (by rfl) (fun K hK => ?_)
            go_simp
            refine hK.out _ _ hS9 ?_
            clear hK
            try simp only [Act.put, List.setIfInBounds_toArray, List.set_cons_zero, List.set_cons_succ]
            refine wpAnyH_done (by kernel_rfl) (NoPanic.normal ?_) _
            go_wp2_with fail
            go_meet
            exact ⟨p10, p11, rfl, rfl, ⟨hS9.1, by omega, by omega⟩, hr8', hr9⟩
        · (go_simp; try (with_reducible rfl))
        · intro p11 u' hb ho11 hp11
          have ne10_11 : p10 ≠ p11 := by have := obj_lt ho10; omega
          replace hp11 := Nat.le_trans (hS.base) hp11
          have hS' : (Boxes w h l h' l') u' := hS.below hb
          refine ⟨hS', ?_⟩
          replace ho10 := obj_below ho10 hb
          clear hS hb
          have hS := hS'; clear hS'
          rename World => u
          try simp only [Act.put, List.setIfInBounds_toArray, List.set_cons_zero, List.set_cons_succ]
          refine wpAnyH_ready (rs := [9]) (by kernel_rfl) (by simp) (arm_call (i := 9) 8 #[.int .u64 (h' : Int), .int .u64 (l' : Int)] rfl (by rfl) (C1'.out _) ?_ ?_ AllReadyH.nil)
          · (go_simp; try (with_reducible rfl))
          · intro u' hb
            have hS' : (Boxes w h l h' l') u' := hS.below hb
            refine ⟨hS', ?_⟩
            replace ho10 := obj_below ho10 hb
            replace ho11 := obj_below ho11 hb
            clear hS hb
            have hS := hS'; clear hS'
            rename World => u
            try simp only [Act.put, List.setIfInBounds_toArray, List.set_cons_zero, List.set_cons_succ]
            obtain ⟨c0, c1, f0, f1⟩ := obj_cells ho10
            have hr8 := obj_set2 ho10 (.int .u64 (h : Int)) (.int .u64 (l : Int))
            have ho8 := obj_set_other ho11 (Ne.symm ne10_11) (.int .u64 (h : Int)) (.int .u64 (l : Int))
            have hS8 : (Boxes w h l h' l') _ := Boxes.set2 hS hp10 (.int .u64 (h : Int)) (.int .u64 (l : Int))
            refine only (i := 12) rfl (by kernel_rfl) (by rfl) (fun K hK => ?_)
            go_simp
            refine hK.out _ _ hS8 ?_
            clear hK
            try simp only [Act.put, List.setIfInBounds_toArray, List.set_cons_zero, List.set_cons_succ]
            clear c0 c1 f0 f1 hS ho10 ho11
            generalize ((u.setCell _ _).setCell _ _) = u8 at *
            obtain ⟨c0, c1, f0, f1⟩ := obj_cells ho8
            have hr9 := obj_set2 ho8 (.int .u64 (h' : Int)) (.int .u64 (l' : Int))
            have hr8' := obj_set_other hr8 ne10_11 (.int .u64 (h' : Int)) (.int .u64 (l' : Int))
            have hS9 : (Boxes w h l h' l') _ := Boxes.set2 hS8 hp11 (.int .u64 (h' : Int)) (.int .u64 (l' : Int))
            refine only (i := 13) rfl (by kernel_rfl) (by rfl) (fun K hK => ?_)
            go_simp
            refine hK.out _ _ hS9 ?_
            clear hK
            try simp only [Act.put, List.setIfInBounds_toArray, List.set_cons_zero, List.set_cons_succ]
            refine wpAnyH_done (by kernel_rfl) (NoPanic.normal ?_) _
            go_wp2_with fail
            go_meet
            exact ⟨p10, p11, rfl, rfl, ⟨hS9.1, by omega, by omega⟩, hr8', hr9⟩
      · (go_simp; try (with_reducible rfl))
      · intro p11 u' hb ho11 hp11
        have ne10_11 : p10 ≠ p11 := by have := obj_lt ho10; omega
        replace hp11 := Nat.le_trans (hS.base) hp11
        have hS' : (Boxes w h l h' l') u' := hS.below hb
        refine ⟨hS', ?_⟩
        replace ho10 := obj_below ho10 hb
        clear hS hb
        have hS := hS'; clear hS'
        rename World => u
        try simp only [Act.put, List.setIfInBounds_toArray, List.set_cons_zero, List.set_cons_succ]
        refine wpAnyH_ready (rs := [4]) (by kernel_rfl) (by simp) (arm_call (i := 4) 8 #[.int .u64 (h : Int), .int .u64 (l : Int)] rfl (by rfl) (C1.out _) ?_ ?_ AllReadyH.nil)
        · (go_simp; try (with_reducible rfl))
        · intro u' hb
          have hS' : (Boxes w h l h' l') u' := hS.below hb
          refine ⟨hS', ?_⟩
          replace ho10 := obj_below ho10 hb
          replace ho11 := obj_below ho11 hb
          clear hS hb
          have hS := hS'; clear hS'
          rename World => u
          try simp only [Act.put, List.setIfInBounds_toArray, List.set_cons_zero, List.set_cons_succ]
          refine wpAnyH_ready (rs := [9]) (by kernel_rfl) (by simp) (arm_call (i := 9) 8 #[.int .u64 (h' : Int), .int .u64 (l' : Int)] rfl (by rfl) (C1'.out _) ?_ ?_ AllReadyH.nil)
          · (go_simp; try (with_reducible rfl))
          · intro u' hb
            have hS' : (Boxes w h l h' l') u' := hS.below hb
            refine ⟨hS', ?_⟩
            replace ho10 := obj_below ho10 hb
            replace ho11 := obj_below ho11 hb
            clear hS hb
            have hS := hS'; clear hS'
            rename World => u
            try simp only [Act.put, List.setIfInBounds_toArray, List.set_cons_zero, List.set_cons_succ]
            obtain ⟨c0, c1, f0, f1⟩ := obj_cells ho10
            have hr8 := obj_set2 ho10 (.int .u64 (h : Int)) (.int .u64 (l : Int))
            have ho8 := obj_set_other ho11 (Ne.symm ne10_11) (.int .u64 (h : Int)) (.int .u64 (l : Int))
            have hS8 : (Boxes w h l h' l') _ := Boxes.set2 hS hp10 (.int .u64 (h : Int)) (.int .u64 (l : Int))
            refine only (i := 12) rfl (by kernel_rfl) (by rfl) (fun K hK => ?_)
            go_simp
            refine hK.out _ _ hS8 ?_
            clear hK
            try simp only [Act.put, List.setIfInBounds_toArray, List.set_cons_zero, List.set_cons_succ]
            clear c0 c1 f0 f1 hS ho10 ho11
            generalize ((u.setCell _ _).setCell _ _) = u8 at *
            obtain ⟨c0, c1, f0, f1⟩ := obj_cells ho8
            have hr9 := obj_set2 ho8 (.int .u64 (h' : Int)) (.int .u64 (l' : Int))
            have hr8' := obj_set_other hr8 ne10_11 (.int .u64 (h' : Int)) (.int .u64 (l' : Int))
            have hS9 : (Boxes w h l h' l') _ := Boxes.set2 hS8 hp11 (.int .u64 (h' : Int)) (.int .u64 (l' : Int))
            refine only (i := 13) rfl (by kernel_rfl) (by rfl) (fun K hK => ?_)
            go_simp
            refine hK.out _ _ hS9 ?_
            clear hK
            try simp only [Act.put, List.setIfInBounds_toArray, List.set_cons_zero, List.set_cons_succ]
            refine wpAnyH_done (by kernel_rfl) (NoPanic.normal ?_) _
            go_wp2_with fail
            go_meet
            exact ⟨p10, p11, rfl, rfl, ⟨hS9.1, by omega, by omega⟩, hr8', hr9⟩
    · (go_simp; try (with_reducible rfl))
    · intro p11 u' hb ho11 hp11
      replace hp11 := Nat.le_trans (hS.base) hp11
      have hS' : (Boxes w h l h' l') u' := hS.below hb
      refine ⟨hS', ?_⟩
      clear hS hb
      have hS := hS'; clear hS'
      rename World => u
      try simp only [Act.put, List.setIfInBounds_toArray, List.set_cons_zero, List.set_cons_succ]
      refine wpAnyH_ready (rs := [4, 10]) (by kernel_rfl) (by simp) (arm_call (i := 4) 8 #[.int .u64 (h : Int), .int .u64 (l : Int)] rfl (by rfl) (C1.out _) ?_ ?_ (arm_alloc (i := 10) (.cells #[.int .u64 0, .int .u64 0] 24) rfl (by rfl) ?_ ?_ AllReadyH.nil))
      · (go_simp; try (with_reducible rfl))
      · intro u' hb
        have hS' : (Boxes w h l h' l') u' := hS.below hb
        refine ⟨hS', ?_⟩
        replace ho11 := obj_below ho11 hb
        clear hS hb
        have hS := hS'; clear hS'
        rename World => u
        try simp only [Act.put, List.setIfInBounds_toArray, List.set_cons_zero, List.set_cons_succ]
        refine wpAnyH_ready (rs := [9, 10]) (by kernel_rfl) (by simp) (arm_call (i := 9) 8 #[.int .u64 (h' : Int), .int .u64 (l' : Int)] rfl (by rfl) (C1'.out _) ?_ ?_ (arm_alloc (i := 10) (.cells #[.int .u64 0, .int .u64 0] 24) rfl (by rfl) ?_ ?_ AllReadyH.nil))
        · (go_simp; try (with_reducible rfl))
        · intro u' hb
          have hS' : (Boxes w h l h' l') u' := hS.below hb
          refine ⟨hS', ?_⟩
          replace ho11 := obj_below ho11 hb
          clear hS hb
          have hS := hS'; clear hS'
          rename World => u
          try simp only [Act.put, List.setIfInBounds_toArray, List.set_cons_zero, List.set_cons_succ]
          refine wpAnyH_ready (rs := [10]) (by kernel_rfl) (by simp) (arm_alloc (i := 10) (.cells #[.int .u64 0, .int .u64 0] 24) rfl (by rfl) ?_ ?_ AllReadyH.nil)
          · (go_simp; try (with_reducible rfl))
          · intro p10 u' hb ho10 hp10
            have ne10_11 : p10 ≠ p11 := by have := obj_lt ho11; omega
            replace hp10 := Nat.le_trans (hS.base) hp10
            have hS' : (Boxes w h l h' l') u' := hS.below hb
            refine ⟨hS', ?_⟩
            replace ho11 := obj_below ho11 hb
            clear hS hb
            have hS := hS'; clear hS'
            rename World => u
            try simp only [Act.put, List.setIfInBounds_toArray, List.set_cons_zero, List.set_cons_succ]
            obtain ⟨c0, c1, f0, f1⟩ := obj_cells ho10
            have hr8 := obj_set2 ho10 (.int .u64 (h : Int)) (.int .u64 (l : Int))
            have ho8 := obj_set_other ho11 (Ne.symm ne10_11) (.int .u64 (h : Int)) (.int .u64 (l : Int))
            have hS8 : (Boxes w h l h' l') _ := Boxes.set2 hS hp10 (.int .u64 (h : Int)) (.int .u64 (l : Int))
            refine only (i := 12) rfl (by kernel_rfl) (by rfl) (fun K hK => ?_)
            go_simp
            refine hK.out _ _ hS8 ?_
            clear hK
            try simp only [Act.put, List.setIfInBounds_toArray, List.set_cons_zero, List.set_cons_succ]
            clear c0 c1 f0 f1 hS ho10 ho11
            generalize ((u.setCell _ _).setCell _ _) = u8 at *
            obtain ⟨c0, c1, f0, f1⟩ := obj_cells ho8
            have hr9 := obj_set2 ho8 (.int .u64 (h' : Int)) (.int .u64 (l' : Int))
            have hr8' := obj_set_other hr8 ne10_11 (.int .u64 (h' : Int)) (.int .u64 (l' : Int))
            have hS9 : (Boxes w h l h' l') _ := Boxes.set2 hS8 hp11 (.int .u64 (h' : Int)) (.int .u64 (l' : Int))
            refine only (i := 13) rfl (by kernel_rfl) (by rfl) (fun K hK => ?_)
            go_simp
            refine hK.out _ _ hS9 ?_
            clear hK
            try simp only [Act.put, List.setIfInBounds_toArray, List.set_cons_zero, List.set_cons_succ]
            refine wpAnyH_done (by kernel_rfl) (NoPanic.normal ?_) _
            go_wp2_with fail
            go_meet
            exact ⟨p10, p11, rfl, rfl, ⟨hS9.1, by omega, by omega⟩, hr8', hr9⟩
        · (go_simp; try (with_reducible rfl))
        · intro p10 u' hb ho10 hp10
          have ne10_11 : p10 ≠ p11 := by have := obj_lt ho11; omega
          replace hp10 := Nat.le_trans (hS.base) hp10
          have hS' : (Boxes w h l h' l') u' := hS.below hb
          refine ⟨hS', ?_⟩
          replace ho11 := obj_below ho11 hb
          clear hS hb
          have hS := hS'; clear hS'
          rename World => u
          try simp only [Act.put, List.setIfInBounds_toArray, List.set_cons_zero, List.set_cons_succ]
          refine wpAnyH_ready (rs := [9]) (by kernel_rfl) (by simp) (arm_call (i := 9) 8 #[.int .u64 (h' : Int), .int .u64 (l' : Int)] rfl (by rfl) (C1'.out _) ?_ ?_ AllReadyH.nil)
          · (go_simp; try (with_reducible rfl))
          · intro u' hb
            have hS' : (Boxes w h l h' l') u' := hS.below hb
            refine ⟨hS', ?_⟩
            replace ho11 := obj_below ho11 hb
            replace ho10 := obj_below ho10 hb
            clear hS hb
            have hS := hS'; clear hS'
            rename World => u
            try simp only [Act.put, List.setIfInBounds_toArray, List.set_cons_zero, List.set_cons_succ]
            obtain ⟨c0, c1, f0, f1⟩ := obj_cells ho10
            have hr8 := obj_set2 ho10 (.int .u64 (h : Int)) (.int .u64 (l : Int))
            have ho8 := obj_set_other ho11 (Ne.symm ne10_11) (.int .u64 (h : Int)) (.int .u64 (l : Int))
            have hS8 : (Boxes w h l h' l') _ := Boxes.set2 hS hp10 (.int .u64 (h : Int)) (.int .u64 (l : Int))
            refine only (i := 12) rfl (by kernel_rfl) (by rfl) (fun K hK => ?_)
            go_simp
            refine hK.out _ _ hS8 ?_
            clear hK
            try simp only [Act.put, List.setIfInBounds_toArray, List.set_cons_zero, List.set_cons_succ]
            clear c0 c1 f0 f1 hS ho10 ho11
            generalize ((u.setCell _ _).setCell _ _) = u8 at *
            obtain ⟨c0, c1, f0, f1⟩ := obj_cells ho8
            have hr9 := obj_set2 ho8 (.int .u64 (h' : Int)) (.int .u64 (l' : Int))
            have hr8' := obj_set_other hr8 ne10_11 (.int .u64 (h' : Int)) (.int .u64 (l' : Int))
            have hS9 : (Boxes w h l h' l') _ := Boxes.set2 hS8 hp11 (.int .u64 (h' : Int)) (.int .u64 (l' : Int))
            refine only (i := 13) rfl (by kernel_rfl) (by rfl) (fun K hK => ?_)
            go_simp
            refine hK.out _ _ hS9 ?_
            clear hK
            try simp only [Act.put, List.setIfInBounds_toArray, List.set_cons_zero, List.set_cons_succ]
            refine wpAnyH_done (by kernel_rfl) (NoPanic.normal ?_) _
            go_wp2_with fail
            go_meet
            exact ⟨p10, p11, rfl, rfl, ⟨hS9.1, by omega, by omega⟩, hr8', hr9⟩
      · (go_simp; try (with_reducible rfl))
      · intro p10 u' hb ho10 hp10
        have ne10_11 : p10 ≠ p11 := by have := obj_lt ho11; omega
        replace hp10 := Nat.le_trans (hS.base) hp10
        have hS' : (Boxes w h l h' l') u' := hS.below hb
        refine ⟨hS', ?_⟩
        replace ho11 := obj_below ho11 hb
        clear hS hb
        have hS := hS'; clear hS'
        rename World => u
        try simp only [Act.put, List.setIfInBounds_toArray, List.set_cons_zero, List.set_cons_succ]
        refine wpAnyH_ready (rs := [4]) (by kernel_rfl) (by simp) (arm_call (i := 4) 8 #[.int .u64 (h : Int), .int .u64 (l : Int)] rfl (by rfl) (C1.out _) ?_ ?_ AllReadyH.nil)
        · (go_simp; try (with_reducible rfl))
        · intro u' hb
          have hS' : (Boxes w h l h' l') u' := hS.below hb
          refine ⟨hS', ?_⟩
          replace ho11 := obj_below ho11 hb
          replace ho10 := obj_below ho10 hb
          clear hS hb
          have hS := hS'; clear hS'
          rename World => u
          try simp only [Act.put, List.setIfInBounds_toArray, List.set_cons_zero, List.set_cons_succ]
          refine wpAnyH_ready (rs := [9]) (by kernel_rfl) (by simp) (arm_call (i := 9) 8 #[.int .u64 (h' : Int), .int .u64 (l' : Int)] rfl (by rfl) (C1'.out _) ?_ ?_ AllReadyH.nil)
          · (go_simp; try (with_reducible rfl))
          · intro u' hb
            have hS' : (Boxes w h l h' l') u' := hS.below hb
            refine ⟨hS', ?_⟩
            replace ho11 := obj_below ho11 hb
            replace ho10 := obj_below ho10 hb
            clear hS hb
            have hS := hS'; clear hS'
            rename World => u
            try simp only [Act.put, List.setIfInBounds_toArray, List.set_cons_zero, List.set_cons_succ]
            obtain ⟨c0, c1, f0, f1⟩ := obj_cells ho10
            have hr8 := obj_set2 ho10 (.int .u64 (h : Int)) (.int .u64 (l : Int))
            have ho8 := obj_set_other ho11 (Ne.symm ne10_11) (.int .u64 (h : Int)) (.int .u64 (l : Int))
            have hS8 : (Boxes w h l h' l') _ := Boxes.set2 hS hp10 (.int .u64 (h : Int)) (.int .u64 (l : Int))
            refine only (i := 12) rfl (by kernel_rfl) (by rfl) (fun K hK => ?_)
            go_simp
            refine hK.out _ _ hS8 ?_
            clear hK
            try simp only [Act.put, List.setIfInBounds_toArray, List.set_cons_zero, List.set_cons_succ]
            clear c0 c1 f0 f1 hS ho10 ho11
            generalize ((u.setCell _ _).setCell _ _) = u8 at *
            obtain ⟨c0, c1, f0, f1⟩ := obj_cells ho8
            have hr9 := obj_set2 ho8 (.int .u64 (h' : Int)) (.int .u64 (l' : Int))
            have hr8' := obj_set_other hr8 ne10_11 (.int .u64 (h' : Int)) (.int .u64 (l' : Int))
            have hS9 : (Boxes w h l h' l') _ := Boxes.set2 hS8 hp11 (.int .u64 (h' : Int)) (.int .u64 (l' : Int))
            refine only (i := 13) rfl (by kernel_rfl) (by rfl) (fun K hK => ?_)
            go_simp
            refine hK.out _ _ hS9 ?_
            clear hK
            try simp only [Act.put, List.setIfInBounds_toArray, List.set_cons_zero, List.set_cons_succ]
            refine wpAnyH_done (by kernel_rfl) (NoPanic.normal ?_) _
            go_wp2_with fail
            go_meet
            exact ⟨p10, p11, rfl, rfl, ⟨hS9.1, by omega, by omega⟩, hr8', hr9⟩
  case rest =>
    obtain ⟨p, q, rfl, rfl, hT⟩ := hcut
    have HT := Lib.hid hT
    clear hT
    go_upto_region 2 with fail
    go_cut [9, 10] (fun s9 s10 wx => ∃ px py : Nat, s9 = .pointer (some ⟨px, 0, none⟩) ∧ s10 = .pointer (some ⟨py, 0, none⟩) ∧ (Four w p h l q h' l' px x x' py y y') wx)
    case first =>
      refine wp_region_noPanic ?_
      refine wp_region_held_drew (S := (Pair w h l h' l' p q)) (by kernel_rfl) (HT.out.drew) (fun hS => ?_)
      refine give_val (i := 0) (v := ?_) rfl (by kernel_rfl) (by kernel_rfl) (by kernel_rfl) (fun _ _ _ h => h) (by rfl) (fun u hu => ?_) hS ?_
      rotate_left
      · ((obtain ⟨_, hu2, hu3⟩ := hu; obtain ⟨c0, c1, _, _⟩ := obj_cells hu2; obtain ⟨c2, c3, _, _⟩ := obj_cells hu3; clear hu2 hu3); go_simp; try (with_reducible rfl))
      try simp only [Act.put, List.setIfInBounds_toArray, List.set_cons_zero, List.set_cons_succ]
      refine give_val (i := 1) (v := ?_) rfl (by kernel_rfl) (by kernel_rfl) (by kernel_rfl) (fun _ _ _ h => h) (by rfl) (fun u hu => ?_) hS ?_
      rotate_left
      · ((obtain ⟨_, hu2, hu3⟩ := hu; obtain ⟨c0, c1, _, _⟩ := obj_cells hu2; obtain ⟨c2, c3, _, _⟩ := obj_cells hu3; clear hu2 hu3); go_simp; try (with_reducible rfl))
      try simp only [Act.put, List.setIfInBounds_toArray, List.set_cons_zero, List.set_cons_succ]
      refine give_val (i := 3) (v := ?_) rfl (by kernel_rfl) (by kernel_rfl) (by kernel_rfl) (fun _ _ _ h => h) (by rfl) (fun u hu => ?_) hS ?_
      rotate_left
      · ((obtain ⟨_, hu2, hu3⟩ := hu; obtain ⟨c0, c1, _, _⟩ := obj_cells hu2; obtain ⟨c2, c3, _, _⟩ := obj_cells hu3; clear hu2 hu3); go_simp; try (with_reducible rfl))
      try simp only [Act.put, List.setIfInBounds_toArray, List.set_cons_zero, List.set_cons_succ]
      refine give_val (i := 4) (v := ?_) rfl (by kernel_rfl) (by kernel_rfl) (by kernel_rfl) (fun _ _ _ h => h) (by rfl) (fun u hu => ?_) hS ?_
      rotate_left
      · ((obtain ⟨_, hu2, hu3⟩ := hu; obtain ⟨c0, c1, _, _⟩ := obj_cells hu2; obtain ⟨c2, c3, _, _⟩ := obj_cells hu3; clear hu2 hu3); go_simp; try (with_reducible rfl))
      try simp only [Act.put, List.setIfInBounds_toArray, List.set_cons_zero, List.set_cons_succ]
      refine wpAnyH_ready (rs := [2, 6, 7]) (by kernel_rfl) (by simp) (arm_call (i := 2) 23 #[.agg #[.int .u64 (h : Int), .int .u64 (l : Int)], .agg #[.int .u64 (h' : Int), .int .u64 (l' : Int)]] rfl (by rfl) (C2.out _) ?_ ?_ (arm_alloc (i := 6) (.cells #[.int .u64 0, .int .u64 0] 24) rfl (by rfl) ?_ ?_ (arm_alloc (i := 7) (.cells #[.int .u64 0, .int .u64 0] 24) rfl (by rfl) ?_ ?_ AllReadyH.nil)))
      · (go_simp; try (with_reducible rfl))
      · intro u' hb
        have hS' : (Pair w h l h' l' p q) u' := hS.below hb
        refine ⟨hS', ?_⟩
        clear hS hb
        have hS := hS'; clear hS'
        rename World => u
        try simp only [Act.put, List.setIfInBounds_toArray, List.set_cons_zero, List.set_cons_succ]
        refine wpAnyH_ready (rs := [5, 6, 7]) (by kernel_rfl) (by simp) (arm_call (i := 5) 24 #[.agg #[.int .u64 (h : Int), .int .u64 (l : Int)], .agg #[.int .u64 (h' : Int), .int .u64 (l' : Int)]] rfl (by rfl) (C3.out _) ?_ ?_ (arm_alloc (i := 6) (.cells #[.int .u64 0, .int .u64 0] 24) rfl (by rfl) ?_ ?_ (arm_alloc (i := 7) (.cells #[.int .u64 0, .int .u64 0] 24) rfl (by rfl) ?_ ?_ AllReadyH.nil)))
        · (go_simp; try (with_reducible rfl))
        · intro u' hb
          have hS' : (Pair w h l h' l' p q) u' := hS.below hb
          refine ⟨hS', ?_⟩
          clear hS hb
          have hS := hS'; clear hS'
          rename World => u
          try simp only [Act.put, List.setIfInBounds_toArray, List.set_cons_zero, List.set_cons_succ]
          refine wpAnyH_ready (rs := [6, 7]) (by kernel_rfl) (by simp) (arm_alloc (i := 6) (.cells #[.int .u64 0, .int .u64 0] 24) rfl (by rfl) ?_ ?_ (arm_alloc (i := 7) (.cells #[.int .u64 0, .int .u64 0] 24) rfl (by rfl) ?_ ?_ AllReadyH.nil))
          · (go_simp; try (with_reducible rfl))
          · intro p6 u' hb ho6 hp6
            replace hp6 := Nat.le_trans (hS.base) hp6
            have hS' : (Pair w h l h' l' p q) u' := hS.below hb
            refine ⟨hS', ?_⟩
            clear hS hb
            have hS := hS'; clear hS'
            rename World => u
            try simp only [Act.put, List.setIfInBounds_toArray, List.set_cons_zero, List.set_cons_succ]
            refine wpAnyH_ready (rs := [7]) (by kernel_rfl) (by simp) (arm_alloc (i := 7) (.cells #[.int .u64 0, .int .u64 0] 24) rfl (by rfl) ?_ ?_ AllReadyH.nil)
            · (go_simp; try (with_reducible rfl))
            · intro p7 u' hb ho7 hp7
              have ne6_7 : p6 ≠ p7 := by have := obj_lt ho6; omega
              replace hp7 := Nat.le_trans (hS.base) hp7
              have hS' : (Pair w h l h' l' p q) u' := hS.below hb
              refine ⟨hS', ?_⟩
              replace ho6 := obj_below ho6 hb
              clear hS hb
              have hS := hS'; clear hS'
              rename World => u
              try simp only [Act.put, List.setIfInBounds_toArray, List.set_cons_zero, List.set_cons_succ]
              obtain ⟨c0, c1, f0, f1⟩ := obj_cells ho6
              have hr8 := obj_set2 ho6 (.int .u64 (x : Int)) (.int .u64 (x' : Int))
              have ho8 := obj_set_other ho7 (Ne.symm ne6_7) (.int .u64 (x : Int)) (.int .u64 (x' : Int))
              have hS8 : (Pair w h l h' l' p q) _ := Pair.set2 hS hp6 (.int .u64 (x : Int)) (.int .u64 (x' : Int))
              refine only (i := 8) rfl (by kernel_rfl) (by rfl) (fun K hK => ?_)
              go_simp
              refine hK.out _ _ hS8 ?_
              clear hK
              try simp only [Act.put, List.setIfInBounds_toArray, List.set_cons_zero, List.set_cons_succ]
              clear c0 c1 f0 f1 hS ho6 ho7
              generalize ((u.setCell _ _).setCell _ _) = u8 at *
              obtain ⟨c0, c1, f0, f1⟩ := obj_cells ho8
              have hr9 := obj_set2 ho8 (.int .u64 (y : Int)) (.int .u64 (y' : Int))
              have hr8' := obj_set_other hr8 ne6_7 (.int .u64 (y : Int)) (.int .u64 (y' : Int))
              have hS9 : (Pair w h l h' l' p q) _ := Pair.set2 hS8 hp7 (.int .u64 (y : Int)) (.int .u64 (y' : Int))
              refine only (i := 9) rfl (by kernel_rfl) (by rfl) (fun K hK => ?_)
              go_simp
              refine hK.out _ _ hS9 ?_
              clear hK
              try simp only [Act.put, List.setIfInBounds_toArray, List.set_cons_zero, List.set_cons_succ]
              refine wpAnyH_done (by kernel_rfl) (NoPanic.normal ?_) _
              go_wp2_with fail
              go_meet
              exact ⟨p6, p7, rfl, rfl, hS9.1.1, hS9.2.1, hS9.2.2, hr8', hr9⟩
          · (go_simp; try (with_reducible rfl))
          · intro p7 u' hb ho7 hp7
            replace hp7 := Nat.le_trans (hS.base) hp7
            have hS' : (Pair w h l h' l' p q) u' := hS.below hb
            refine ⟨hS', ?_⟩
            clear hS hb
            have hS := hS'; clear hS'
            rename World => u
            try simp only [Act.put, List.setIfInBounds_toArray, List.set_cons_zero, List.set_cons_succ]
            refine wpAnyH_ready (rs := [6]) (by kernel_rfl) (by simp) (arm_alloc (i := 6) (.cells #[.int .u64 0, .int .u64 0] 24) rfl (by rfl) ?_ ?_ AllReadyH.nil)
            · (go_simp; try (with_reducible rfl))
            · intro p6 u' hb ho6 hp6
              have ne6_7 : p6 ≠ p7 := by have := obj_lt ho7; omega
              replace hp6 := Nat.le_trans (hS.base) hp6
              have hS' : (Pair w h l h' l' p q) u' := hS.below hb
              refine ⟨hS', ?_⟩
              replace ho7 := obj_below ho7 hb
              clear hS hb
              have hS := hS'; clear hS'
              rename World => u
              try simp only [Act.put, List.setIfInBounds_toArray, List.set_cons_zero, List.set_cons_succ]
              obtain ⟨c0, c1, f0, f1⟩ := obj_cells ho6
              have hr8 := obj_set2 ho6 (.int .u64 (x : Int)) (.int .u64 (x' : Int))
              have ho8 := obj_set_other ho7 (Ne.symm ne6_7) (.int .u64 (x : Int)) (.int .u64 (x' : Int))
              have hS8 : (Pair w h l h' l' p q) _ := Pair.set2 hS hp6 (.int .u64 (x : Int)) (.int .u64 (x' : Int))
              refine only (i := 8) rfl (by kernel_rfl) (by rfl) (fun K hK => ?_)
              go_simp
              refine hK.out _ _ hS8 ?_
              clear hK
              try simp only [Act.put, List.setIfInBounds_toArray, List.set_cons_zero, List.set_cons_succ]
              clear c0 c1 f0 f1 hS ho6 ho7
              generalize ((u.setCell _ _).setCell _ _) = u8 at *
              obtain ⟨c0, c1, f0, f1⟩ := obj_cells ho8
              have hr9 := obj_set2 ho8 (.int .u64 (y : Int)) (.int .u64 (y' : Int))
              have hr8' := obj_set_other hr8 ne6_7 (.int .u64 (y : Int)) (.int .u64 (y' : Int))
              have hS9 : (Pair w h l h' l' p q) _ := Pair.set2 hS8 hp7 (.int .u64 (y : Int)) (.int .u64 (y' : Int))
              refine only (i := 9) rfl (by kernel_rfl) (by rfl) (fun K hK => ?_)
              go_simp
              refine hK.out _ _ hS9 ?_
              clear hK
              try simp only [Act.put, List.setIfInBounds_toArray, List.set_cons_zero, List.set_cons_succ]
              refine wpAnyH_done (by kernel_rfl) (NoPanic.normal ?_) _
              go_wp2_with fail
              go_meet
              exact ⟨p6, p7, rfl, rfl, hS9.1.1, hS9.2.1, hS9.2.2, hr8', hr9⟩
        · (go_simp; try (with_reducible rfl))
        · intro p6 u' hb ho6 hp6
          replace hp6 := Nat.le_trans (hS.base) hp6
          have hS' : (Pair w h l h' l' p q) u' := hS.below hb
          refine ⟨hS', ?_⟩
          clear hS hb
          have hS := hS'; clear hS'
          rename World => u
          try simp only [Act.put, List.setIfInBounds_toArray, List.set_cons_zero, List.set_cons_succ]
          refine wpAnyH_ready (rs := [5, 7]) (by kernel_rfl) (by simp) (arm_call (i := 5) 24 #[.agg #[.int .u64 (h : Int), .int .u64 (l : Int)], .agg #[.int .u64 (h' : Int), .int .u64 (l' : Int)]] rfl (by rfl) (C3.out _) ?_ ?_ (arm_alloc (i := 7) (.cells #[.int .u64 0, .int .u64 0] 24) rfl (by rfl) ?_ ?_ AllReadyH.nil))
          · (go_simp; try (with_reducible rfl))
          · intro u' hb
            have hS' : (Pair w h l h' l' p q) u' := hS.below hb
            refine ⟨hS', ?_⟩
            replace ho6 := obj_below ho6 hb
            clear hS hb
            have hS := hS'; clear hS'
            rename World => u
            try simp only [Act.put, List.setIfInBounds_toArray, List.set_cons_zero, List.set_cons_succ]
            refine wpAnyH_ready (rs := [7]) (by kernel_rfl) (by simp) (arm_alloc (i := 7) (.cells #[.int .u64 0, .int .u64 0] 24) rfl (by rfl) ?_ ?_ AllReadyH.nil)
            · (go_simp; try (with_reducible rfl))
            · intro p7 u' hb ho7 hp7
              have ne6_7 : p6 ≠ p7 := by have := obj_lt ho6; omega
              replace hp7 := Nat.le_trans (hS.base) hp7
              have hS' : (Pair w h l h' l' p q) u' := hS.below hb
              refine ⟨hS', ?_⟩
              replace ho6 := obj_below ho6 hb
              clear hS hb
              have hS := hS'; clear hS'
              rename World => u
              try simp only [Act.put, List.setIfInBounds_toArray, List.set_cons_zero, List.set_cons_succ]
              obtain ⟨c0, c1, f0, f1⟩ := obj_cells ho6
              have hr8 := obj_set2 ho6 (.int .u64 (x : Int)) (.int .u64 (x' : Int))
              have ho8 := obj_set_other ho7 (Ne.symm ne6_7) (.int .u64 (x : Int)) (.int .u64 (x' : Int))
              have hS8 : (Pair w h l h' l' p q) _ := Pair.set2 hS hp6 (.int .u64 (x : Int)) (.int .u64 (x' : Int))
              refine only (i := 8) rfl (by kernel_rfl) (by rfl) (fun K hK => ?_)
              go_simp
              refine hK.out _ _ hS8 ?_
              clear hK
              try simp only [Act.put, List.setIfInBounds_toArray, List.set_cons_zero, List.set_cons_succ]
              clear c0 c1 f0 f1 hS ho6 ho7
              generalize ((u.setCell _ _).setCell _ _) = u8 at *
              obtain ⟨c0, c1, f0, f1⟩ := obj_cells ho8
              have hr9 := obj_set2 ho8 (.int .u64 (y : Int)) (.int .u64 (y' : Int))
              have hr8' := obj_set_other hr8 ne6_7 (.int .u64 (y : Int)) (.int .u64 (y' : Int))
              have hS9 : (Pair w h l h' l' p q) _ := Pair.set2 hS8 hp7 (.int .u64 (y : Int)) (.int .u64 (y' : Int))
              refine only (i := 9) rfl (by kernel_rfl) (by rfl) (fun K hK => ?_)
              go_simp
              refine hK.out _ _ hS9 ?_
              clear hK
              try simp only [Act.put, List.setIfInBounds_toArray, List.set_cons_zero, List.set_cons_succ]
              refine wpAnyH_done (by kernel_rfl) (NoPanic.normal ?_) _
              go_wp2_with fail
              go_meet
              exact ⟨p6, p7, rfl, rfl, hS9.1.1, hS9.2.1, hS9.2.2, hr8', hr9⟩
          · (go_simp; try (with_reducible rfl))
          · intro p7 u' hb ho7 hp7
            have ne6_7 : p6 ≠ p7 := by have := obj_lt ho6; omega
            replace hp7 := Nat.le_trans (hS.base) hp7
            have hS' : (Pair w h l h' l' p q) u' := hS.below hb
            refine ⟨hS', ?_⟩
            replace ho6 := obj_below ho6 hb
            clear hS hb
            have hS := hS'; clear hS'
            rename World => u
            try simp only [Act.put, List.setIfInBounds_toArray, List.set_cons_zero, List.set_cons_succ]
            refine wpAnyH_ready (rs := [5]) (by kernel_rfl) (by simp) (arm_call (i := 5) 24 #[.agg #[.int .u64 (h : Int), .int .u64 (l : Int)], .agg #[.int .u64 (h' : Int), .int .u64 (l' : Int)]] rfl (by rfl) (C3.out _) ?_ ?_ AllReadyH.nil)
            · (go_simp; try (with_reducible rfl))
            · intro u' hb
              have hS' : (Pair w h l h' l' p q) u' := hS.below hb
              refine ⟨hS', ?_⟩
              replace ho6 := obj_below ho6 hb
              replace ho7 := obj_below ho7 hb
              clear hS hb
              have hS := hS'; clear hS'
              rename World => u
              try simp only [Act.put, List.setIfInBounds_toArray, List.set_cons_zero, List.set_cons_succ]
              obtain ⟨c0, c1, f0, f1⟩ := obj_cells ho6
              have hr8 := obj_set2 ho6 (.int .u64 (x : Int)) (.int .u64 (x' : Int))
              have ho8 := obj_set_other ho7 (Ne.symm ne6_7) (.int .u64 (x : Int)) (.int .u64 (x' : Int))
              have hS8 : (Pair w h l h' l' p q) _ := Pair.set2 hS hp6 (.int .u64 (x : Int)) (.int .u64 (x' : Int))
              refine only (i := 8) rfl (by kernel_rfl) (by rfl) (fun K hK => ?_)
              go_simp
              refine hK.out _ _ hS8 ?_
              clear hK
              try simp only [Act.put, List.setIfInBounds_toArray, List.set_cons_zero, List.set_cons_succ]
              clear c0 c1 f0 f1 hS ho6 ho7
              generalize ((u.setCell _ _).setCell _ _) = u8 at *
              obtain ⟨c0, c1, f0, f1⟩ := obj_cells ho8
              have hr9 := obj_set2 ho8 (.int .u64 (y : Int)) (.int .u64 (y' : Int))
              have hr8' := obj_set_other hr8 ne6_7 (.int .u64 (y : Int)) (.int .u64 (y' : Int))
              have hS9 : (Pair w h l h' l' p q) _ := Pair.set2 hS8 hp7 (.int .u64 (y : Int)) (.int .u64 (y' : Int))
              refine only (i := 9) rfl (by kernel_rfl) (by rfl) (fun K hK => ?_)
              go_simp
              refine hK.out _ _ hS9 ?_
              clear hK
              try simp only [Act.put, List.setIfInBounds_toArray, List.set_cons_zero, List.set_cons_succ]
              refine wpAnyH_done (by kernel_rfl) (NoPanic.normal ?_) _
              go_wp2_with fail
              go_meet
              exact ⟨p6, p7, rfl, rfl, hS9.1.1, hS9.2.1, hS9.2.2, hr8', hr9⟩
        · (go_simp; try (with_reducible rfl))
        · intro p7 u' hb ho7 hp7
          replace hp7 := Nat.le_trans (hS.base) hp7
          have hS' : (Pair w h l h' l' p q) u' := hS.below hb
          refine ⟨hS', ?_⟩
          clear hS hb
          have hS := hS'; clear hS'
          rename World => u
          try simp only [Act.put, List.setIfInBounds_toArray, List.set_cons_zero, List.set_cons_succ]
          refine wpAnyH_ready (rs := [5, 6]) (by kernel_rfl) (by simp) (arm_call (i := 5) 24 #[.agg #[.int .u64 (h : Int), .int .u64 (l : Int)], .agg #[.int .u64 (h' : Int), .int .u64 (l' : Int)]] rfl (by rfl) (C3.out _) ?_ ?_ (arm_alloc (i := 6) (.cells #[.int .u64 0, .int .u64 0] 24) rfl (by rfl) ?_ ?_ AllReadyH.nil))
          · (go_simp; try (with_reducible rfl))
          · intro u' hb
            have hS' : (Pair w h l h' l' p q) u' := hS.below hb
            refine ⟨hS', ?_⟩
            replace ho7 := obj_below ho7 hb
            clear hS hb
            have hS := hS'; clear hS'
            rename World => u
            try simp only [Act.put, List.setIfInBounds_toArray, List.set_cons_zero, List.set_cons_succ]
            refine wpAnyH_ready (rs := [6]) (by kernel_rfl) (by simp) (arm_alloc (i := 6) (.cells #[.int .u64 0, .int .u64 0] 24) rfl (by rfl) ?_ ?_ AllReadyH.nil)
            · (go_simp; try (with_reducible rfl))
            · intro p6 u' hb ho6 hp6
              have ne6_7 : p6 ≠ p7 := by have := obj_lt ho7; omega
              replace hp6 := Nat.le_trans (hS.base) hp6
              have hS' : (Pair w h l h' l' p q) u' := hS.below hb
              refine ⟨hS', ?_⟩
              replace ho7 := obj_below ho7 hb
              clear hS hb
              have hS := hS'; clear hS'
              rename World => u
              try simp only [Act.put, List.setIfInBounds_toArray, List.set_cons_zero, List.set_cons_succ]
              obtain ⟨c0, c1, f0, f1⟩ := obj_cells ho6
              have hr8 := obj_set2 ho6 (.int .u64 (x : Int)) (.int .u64 (x' : Int))
              have ho8 := obj_set_other ho7 (Ne.symm ne6_7) (.int .u64 (x : Int)) (.int .u64 (x' : Int))
              have hS8 : (Pair w h l h' l' p q) _ := Pair.set2 hS hp6 (.int .u64 (x : Int)) (.int .u64 (x' : Int))
              refine only (i := 8) rfl (by kernel_rfl) (by rfl) (fun K hK => ?_)
              go_simp
              refine hK.out _ _ hS8 ?_
              clear hK
              try simp only [Act.put, List.setIfInBounds_toArray, List.set_cons_zero, List.set_cons_succ]
              clear c0 c1 f0 f1 hS ho6 ho7
              generalize ((u.setCell _ _).setCell _ _) = u8 at *
              obtain ⟨c0, c1, f0, f1⟩ := obj_cells ho8
              have hr9 := obj_set2 ho8 (.int .u64 (y : Int)) (.int .u64 (y' : Int))
              have hr8' := obj_set_other hr8 ne6_7 (.int .u64 (y : Int)) (.int .u64 (y' : Int))
              have hS9 : (Pair w h l h' l' p q) _ := Pair.set2 hS8 hp7 (.int .u64 (y : Int)) (.int .u64 (y' : Int))
              refine only (i := 9) rfl (by kernel_rfl) (by rfl) (fun K hK => ?_)
              go_simp
              refine hK.out _ _ hS9 ?_
              clear hK
              try simp only [Act.put, List.setIfInBounds_toArray, List.set_cons_zero, List.set_cons_succ]
              refine wpAnyH_done (by kernel_rfl) (NoPanic.normal ?_) _
              go_wp2_with fail
              go_meet
              exact ⟨p6, p7, rfl, rfl, hS9.1.1, hS9.2.1, hS9.2.2, hr8', hr9⟩
          · (go_simp; try (with_reducible rfl))
          · intro p6 u' hb ho6 hp6
            have ne6_7 : p6 ≠ p7 := by have := obj_lt ho7; omega
            replace hp6 := Nat.le_trans (hS.base) hp6
            have hS' : (Pair w h l h' l' p q) u' := hS.below hb
            refine ⟨hS', ?_⟩
            replace ho7 := obj_below ho7 hb
            clear hS hb
            have hS := hS'; clear hS'
            rename World => u
            try simp only [Act.put, List.setIfInBounds_toArray, List.set_cons_zero, List.set_cons_succ]
            refine wpAnyH_ready (rs := [5]) (by kernel_rfl) (by simp) (arm_call (i := 5) 24 #[.agg #[.int .u64 (h : Int), .int .u64 (l : Int)], .agg #[.int .u64 (h' : Int), .int .u64 (l' : Int)]] rfl (by rfl) (C3.out _) ?_ ?_ AllReadyH.nil)
            · (go_simp; try (with_reducible rfl))
            · intro u' hb
              have hS' : (Pair w h l h' l' p q) u' := hS.below hb
              refine ⟨hS', ?_⟩
              replace ho7 := obj_below ho7 hb
              replace ho6 := obj_below ho6 hb
              clear hS hb
              have hS := hS'; clear hS'
              rename World => u
              try simp only [Act.put, List.setIfInBounds_toArray, List.set_cons_zero, List.set_cons_succ]
              obtain ⟨c0, c1, f0, f1⟩ := obj_cells ho6
              have hr8 := obj_set2 ho6 (.int .u64 (x : Int)) (.int .u64 (x' : Int))
              have ho8 := obj_set_other ho7 (Ne.symm ne6_7) (.int .u64 (x : Int)) (.int .u64 (x' : Int))
              have hS8 : (Pair w h l h' l' p q) _ := Pair.set2 hS hp6 (.int .u64 (x : Int)) (.int .u64 (x' : Int))
              refine only (i := 8) rfl (by kernel_rfl) (by rfl) (fun K hK => ?_)
              go_simp
              refine hK.out _ _ hS8 ?_
              clear hK
              try simp only [Act.put, List.setIfInBounds_toArray, List.set_cons_zero, List.set_cons_succ]
              clear c0 c1 f0 f1 hS ho6 ho7
              generalize ((u.setCell _ _).setCell _ _) = u8 at *
              obtain ⟨c0, c1, f0, f1⟩ := obj_cells ho8
              have hr9 := obj_set2 ho8 (.int .u64 (y : Int)) (.int .u64 (y' : Int))
              have hr8' := obj_set_other hr8 ne6_7 (.int .u64 (y : Int)) (.int .u64 (y' : Int))
              have hS9 : (Pair w h l h' l' p q) _ := Pair.set2 hS8 hp7 (.int .u64 (y : Int)) (.int .u64 (y' : Int))
              refine only (i := 9) rfl (by kernel_rfl) (by rfl) (fun K hK => ?_)
              go_simp
              refine hK.out _ _ hS9 ?_
              clear hK
              try simp only [Act.put, List.setIfInBounds_toArray, List.set_cons_zero, List.set_cons_succ]
              refine wpAnyH_done (by kernel_rfl) (NoPanic.normal ?_) _
              go_wp2_with fail
              go_meet
              exact ⟨p6, p7, rfl, rfl, hS9.1.1, hS9.2.1, hS9.2.2, hr8', hr9⟩
      · (go_simp; try (with_reducible rfl))
      · intro p6 u' hb ho6 hp6
        replace hp6 := Nat.le_trans (hS.base) hp6
        have hS' : (Pair w h l h' l' p q) u' := hS.below hb
        refine ⟨hS', ?_⟩
        clear hS hb
        have hS := hS'; clear hS'
        rename World => u
        try simp only [Act.put, List.setIfInBounds_toArray, List.set_cons_zero, List.set_cons_succ]
        refine wpAnyH_ready (rs := [2, 7]) (by kernel_rfl) (by simp) (arm_call (i := 2) 23 #[.agg #[.int .u64 (h : Int), .int .u64 (l : Int)], .agg #[.int .u64 (h' : Int), .int .u64 (l' : Int)]] rfl (by rfl) (C2.out _) ?_ ?_ (arm_alloc (i := 7) (.cells #[.int .u64 0, .int .u64 0] 24) rfl (by rfl) ?_ ?_ AllReadyH.nil))
        · (go_simp; try (with_reducible rfl))
        · intro u' hb
          have hS' : (Pair w h l h' l' p q) u' := hS.below hb
          refine ⟨hS', ?_⟩
          replace ho6 := obj_below ho6 hb
          clear hS hb
          have hS := hS'; clear hS'
          rename World => u
          try simp only [Act.put, List.setIfInBounds_toArray, List.set_cons_zero, List.set_cons_succ]
          refine wpAnyH_ready (rs := [5, 7]) (by kernel_rfl) (by simp) (arm_call (i := 5) 24 #[.agg #[.int .u64 (h : Int), .int .u64 (l : Int)], .agg #[.int .u64 (h' : Int), .int .u64 (l' : Int)]] rfl (by rfl) (C3.out _) ?_ ?_ (arm_alloc (i := 7) (.cells #[.int .u64 0, .int .u64 0] 24) rfl (by rfl) ?_ ?_ AllReadyH.nil))
          · (go_simp; try (with_reducible rfl))
          · intro u' hb
            have hS' : (Pair w h l h' l' p q) u' := hS.below hb
            refine ⟨hS', ?_⟩
            replace ho6 := obj_below ho6 hb
            clear hS hb
            have hS := hS'; clear hS'
            rename World => u
            try simp only [Act.put, List.setIfInBounds_toArray, List.set_cons_zero, List.set_cons_succ]
            refine wpAnyH_ready (rs := [7]) (by kernel_rfl) (by simp) (arm_alloc (i := 7) (.cells #[.int .u64 0, .int .u64 0] 24) rfl (by rfl) ?_ ?_ AllReadyH.nil)
            · (go_simp; try (with_reducible rfl))
            · intro p7 u' hb ho7 hp7
              have ne6_7 : p6 ≠ p7 := by have := obj_lt ho6; omega
              replace hp7 := Nat.le_trans (hS.base) hp7
              have hS' : (Pair w h l h' l' p q) u' := hS.below hb
              refine ⟨hS', ?_⟩
              replace ho6 := obj_below ho6 hb
              clear hS hb
              have hS := hS'; clear hS'
              rename World => u
              try simp only [Act.put, List.setIfInBounds_toArray, List.set_cons_zero, List.set_cons_succ]
              obtain ⟨c0, c1, f0, f1⟩ := obj_cells ho6
              have hr8 := obj_set2 ho6 (.int .u64 (x : Int)) (.int .u64 (x' : Int))
              have ho8 := obj_set_other ho7 (Ne.symm ne6_7) (.int .u64 (x : Int)) (.int .u64 (x' : Int))
              have hS8 : (Pair w h l h' l' p q) _ := Pair.set2 hS hp6 (.int .u64 (x : Int)) (.int .u64 (x' : Int))
              refine only (i := 8) rfl (by kernel_rfl) (by rfl) (fun K hK => ?_)
              go_simp
              refine hK.out _ _ hS8 ?_
              clear hK
              try simp only [Act.put, List.setIfInBounds_toArray, List.set_cons_zero, List.set_cons_succ]
              clear c0 c1 f0 f1 hS ho6 ho7
              generalize ((u.setCell _ _).setCell _ _) = u8 at *
              obtain ⟨c0, c1, f0, f1⟩ := obj_cells ho8
              have hr9 := obj_set2 ho8 (.int .u64 (y : Int)) (.int .u64 (y' : Int))
              have hr8' := obj_set_other hr8 ne6_7 (.int .u64 (y : Int)) (.int .u64 (y' : Int))
              have hS9 : (Pair w h l h' l' p q) _ := Pair.set2 hS8 hp7 (.int .u64 (y : Int)) (.int .u64 (y' : Int))
              refine only (i := 9) rfl (by kernel_rfl) (by rfl) (fun K hK => ?_)
              go_simp
              refine hK.out _ _ hS9 ?_
              clear hK
              try simp only [Act.put, List.setIfInBounds_toArray, List.set_cons_zero, List.set_cons_succ]
              refine wpAnyH_done (by kernel_rfl) (NoPanic.normal ?_) _
              go_wp2_with fail
              go_meet
              exact ⟨p6, p7, rfl, rfl, hS9.1.1, hS9.2.1, hS9.2.2, hr8', hr9⟩
          · (go_simp; try (with_reducible rfl))
          · intro p7 u' hb ho7 hp7
            have ne6_7 : p6 ≠ p7 := by have := obj_lt ho6; omega
            replace hp7 := Nat.le_trans (hS.base) hp7
            have hS' : (Pair w h l h' l' p q) u' := hS.below hb
            refine ⟨hS', ?_⟩
            replace ho6 := obj_below ho6 hb
            clear hS hb
            have hS := hS'; clear hS'
            rename World => u
            try simp only [Act.put, List.setIfInBounds_toArray, List.set_cons_zero, List.set_cons_succ]
            refine wpAnyH_ready (rs := [5]) (by kernel_rfl) (by simp) (arm_call (i := 5) 24 #[.agg #[.int .u64 (h : Int), .int .u64 (l : Int)], .agg #[.int .u64 (h' : Int), .int .u64 (l' : Int)]] rfl (by rfl) (C3.out _) ?_ ?_ AllReadyH.nil)
            · (go_simp; try (with_reducible rfl))
            · intro u' hb
              have hS' : (Pair w h l h' l' p q) u' := hS.below hb
              refine ⟨hS', ?_⟩
              replace ho6 := obj_below ho6 hb
              replace ho7 := obj_below ho7 hb
              clear hS hb
              have hS := hS'; clear hS'
              rename World => u
              try simp only [Act.put, List.setIfInBounds_toArray, List.set_cons_zero, List.set_cons_succ]
              obtain ⟨c0, c1, f0, f1⟩ := obj_cells ho6
              have hr8 := obj_set2 ho6 (.int .u64 (x : Int)) (.int .u64 (x' : Int))
              have ho8 := obj_set_other ho7 (Ne.symm ne6_7) (.int .u64 (x : Int)) (.int .u64 (x' : Int))
              have hS8 : (Pair w h l h' l' p q) _ := Pair.set2 hS hp6 (.int .u64 (x : Int)) (.int .u64 (x' : Int))
              refine only (i := 8) rfl (by kernel_rfl) (by rfl) (fun K hK => ?_)
              go_simp
              refine hK.out _ _ hS8 ?_
              clear hK
              try simp only [Act.put, List.setIfInBounds_toArray, List.set_cons_zero, List.set_cons_succ]
              clear c0 c1 f0 f1 hS ho6 ho7
              generalize ((u.setCell _ _).setCell _ _) = u8 at *
              obtain ⟨c0, c1, f0, f1⟩ := obj_cells ho8
              have hr9 := obj_set2 ho8 (.int .u64 (y : Int)) (.int .u64 (y' : Int))
              have hr8' := obj_set_other hr8 ne6_7 (.int .u64 (y : Int)) (.int .u64 (y' : Int))
              have hS9 : (Pair w h l h' l' p q) _ := Pair.set2 hS8 hp7 (.int .u64 (y : Int)) (.int .u64 (y' : Int))
              refine only (i := 9) rfl (by kernel_rfl) (by rfl) (fun K hK => ?_)
              go_simp
              refine hK.out _ _ hS9 ?_
              clear hK
              try simp only [Act.put, List.setIfInBounds_toArray, List.set_cons_zero, List.set_cons_succ]
              refine wpAnyH_done (by kernel_rfl) (NoPanic.normal ?_) _
              go_wp2_with fail
              go_meet
              exact ⟨p6, p7, rfl, rfl, hS9.1.1, hS9.2.1, hS9.2.2, hr8', hr9⟩
        · (go_simp; try (with_reducible rfl))
        · intro p7 u' hb ho7 hp7
          have ne6_7 : p6 ≠ p7 := by have := obj_lt ho6; omega
          replace hp7 := Nat.le_trans (hS.base) hp7
          have hS' : (Pair w h l h' l' p q) u' := hS.below hb
          refine ⟨hS', ?_⟩
          replace ho6 := obj_below ho6 hb
          clear hS hb
          have hS := hS'; clear hS'
          rename World => u
          try simp only [Act.put, List.setIfInBounds_toArray, List.set_cons_zero, List.set_cons_succ]
          refine wpAnyH_ready (rs := [2]) (by kernel_rfl) (by simp) (arm_call (i := 2) 23 #[.agg #[.int .u64 (h : Int), .int .u64 (l : Int)], .agg #[.int .u64 (h' : Int), .int .u64 (l' : Int)]] rfl (by rfl) (C2.out _) ?_ ?_ AllReadyH.nil)
          · (go_simp; try (with_reducible rfl))
          · intro u' hb
            have hS' : (Pair w h l h' l' p q) u' := hS.below hb
            refine ⟨hS', ?_⟩
            replace ho6 := obj_below ho6 hb
            replace ho7 := obj_below ho7 hb
            clear hS hb
            have hS := hS'; clear hS'
            rename World => u
            try simp only [Act.put, List.setIfInBounds_toArray, List.set_cons_zero, List.set_cons_succ]
            refine wpAnyH_ready (rs := [5]) (by kernel_rfl) (by simp) (arm_call (i := 5) 24 #[.agg #[.int .u64 (h : Int), .int .u64 (l : Int)], .agg #[.int .u64 (h' : Int), .int .u64 (l' : Int)]] rfl (by rfl) (C3.out _) ?_ ?_ AllReadyH.nil)
            · (go_simp; try (with_reducible rfl))
            · intro u' hb
              have hS' : (Pair w h l h' l' p q) u' := hS.below hb
              refine ⟨hS', ?_⟩
              replace ho6 := obj_below ho6 hb
              replace ho7 := obj_below ho7 hb
              clear hS hb
              have hS := hS'; clear hS'
              rename World => u
              try simp only [Act.put, List.setIfInBounds_toArray, List.set_cons_zero, List.set_cons_succ]
              obtain ⟨c0, c1, f0, f1⟩ := obj_cells ho6
              have hr8 := obj_set2 ho6 (.int .u64 (x : Int)) (.int .u64 (x' : Int))
              have ho8 := obj_set_other ho7 (Ne.symm ne6_7) (.int .u64 (x : Int)) (.int .u64 (x' : Int))
              have hS8 : (Pair w h l h' l' p q) _ := Pair.set2 hS hp6 (.int .u64 (x : Int)) (.int .u64 (x' : Int))
              refine only (i := 8) rfl (by kernel_rfl) (by rfl) (fun K hK => ?_)
              go_simp
              refine hK.out _ _ hS8 ?_
              clear hK
              try simp only [Act.put, List.setIfInBounds_toArray, List.set_cons_zero, List.set_cons_succ]
              clear c0 c1 f0 f1 hS ho6 ho7
              generalize ((u.setCell _ _).setCell _ _) = u8 at *
              obtain ⟨c0, c1, f0, f1⟩ := obj_cells ho8
              have hr9 := obj_set2 ho8 (.int .u64 (y : Int)) (.int .u64 (y' : Int))
              have hr8' := obj_set_other hr8 ne6_7 (.int .u64 (y : Int)) (.int .u64 (y' : Int))
              have hS9 : (Pair w h l h' l' p q) _ := Pair.set2 hS8 hp7 (.int .u64 (y : Int)) (.int .u64 (y' : Int))
              refine only (i := 9) rfl (by kernel_rfl) (by rfl) (fun K hK => ?_)
              go_simp
              refine hK.out _ _ hS9 ?_
              clear hK
              try simp only [Act.put, List.setIfInBounds_toArray, List.set_cons_zero, List.set_cons_succ]
              refine wpAnyH_done (by kernel_rfl) (NoPanic.normal ?_) _
              go_wp2_with fail
              go_meet
              exact ⟨p6, p7, rfl, rfl, hS9.1.1, hS9.2.1, hS9.2.2, hr8', hr9⟩
      · (go_simp; try (with_reducible rfl))
      · intro p7 u' hb ho7 hp7
        replace hp7 := Nat.le_trans (hS.base) hp7
        have hS' : (Pair w h l h' l' p q) u' := hS.below hb
        refine ⟨hS', ?_⟩
        clear hS hb
        have hS := hS'; clear hS'
        rename World => u
        try simp only [Act.put, List.setIfInBounds_toArray, List.set_cons_zero, List.set_cons_succ]
        refine wpAnyH_ready (rs := [2, 6]) (by kernel_rfl) (by simp) (arm_call (i := 2) 23 #[.agg #[.int .u64 (h : Int), .int .u64 (l : Int)], .agg #[.int .u64 (h' : Int), .int .u64 (l' : Int)]] rfl (by rfl) (C2.out _) ?_ ?_ (arm_alloc (i := 6) (.cells #[.int .u64 0, .int .u64 0] 24) rfl (by rfl) ?_ ?_ AllReadyH.nil))
        · (go_simp; try (with_reducible rfl))
        · intro u' hb
          have hS' : (Pair w h l h' l' p q) u' := hS.below hb
          refine ⟨hS', ?_⟩
          replace ho7 := obj_below ho7 hb
          clear hS hb
          have hS := hS'; clear hS'
          rename World => u
          try simp only [Act.put, List.setIfInBounds_toArray, List.set_cons_zero, List.set_cons_succ]
          refine wpAnyH_ready (rs := [5, 6]) (by kernel_rfl) (by simp) (arm_call (i := 5) 24 #[.agg #[.int .u64 (h : Int), .int .u64 (l : Int)], .agg #[.int .u64 (h' : Int), .int .u64 (l' : Int)]] rfl (by rfl) (C3.out _) ?_ ?_ (arm_alloc (i := 6) (.cells #[.int .u64 0, .int .u64 0] 24) rfl (by rfl) ?_ ?_ AllReadyH.nil))
          · (go_simp; try (with_reducible rfl))
          · intro u' hb
            have hS' : (Pair w h l h' l' p q) u' := hS.below hb
            refine ⟨hS', ?_⟩
            replace ho7 := obj_below ho7 hb
            clear hS hb
            have hS := hS'; clear hS'
            rename World => u
            try simp only [Act.put, List.setIfInBounds_toArray, List.set_cons_zero, List.set_cons_succ]
            refine wpAnyH_ready (rs := [6]) (by kernel_rfl) (by simp) (arm_alloc (i := 6) (.cells #[.int .u64 0, .int .u64 0] 24) rfl (by rfl) ?_ ?_ AllReadyH.nil)
            · (go_simp; try (with_reducible rfl))
            · intro p6 u' hb ho6 hp6
              have ne6_7 : p6 ≠ p7 := by have := obj_lt ho7; omega
              replace hp6 := Nat.le_trans (hS.base) hp6
              have hS' : (Pair w h l h' l' p q) u' := hS.below hb
              refine ⟨hS', ?_⟩
              replace ho7 := obj_below ho7 hb
              clear hS hb
              have hS := hS'; clear hS'
              rename World => u
              try simp only [Act.put, List.setIfInBounds_toArray, List.set_cons_zero, List.set_cons_succ]
              obtain ⟨c0, c1, f0, f1⟩ := obj_cells ho6
              have hr8 := obj_set2 ho6 (.int .u64 (x : Int)) (.int .u64 (x' : Int))
              have ho8 := obj_set_other ho7 (Ne.symm ne6_7) (.int .u64 (x : Int)) (.int .u64 (x' : Int))
              have hS8 : (Pair w h l h' l' p q) _ := Pair.set2 hS hp6 (.int .u64 (x : Int)) (.int .u64 (x' : Int))
              refine only (i := 8) rfl (by kernel_rfl) (by rfl) (fun K hK => ?_)
              go_simp
              refine hK.out _ _ hS8 ?_
              clear hK
              try simp only [Act.put, List.setIfInBounds_toArray, List.set_cons_zero, List.set_cons_succ]
              clear c0 c1 f0 f1 hS ho6 ho7
              generalize ((u.setCell _ _).setCell _ _) = u8 at *
              obtain ⟨c0, c1, f0, f1⟩ := obj_cells ho8
              have hr9 := obj_set2 ho8 (.int .u64 (y : Int)) (.int .u64 (y' : Int))
              have hr8' := obj_set_other hr8 ne6_7 (.int .u64 (y : Int)) (.int .u64 (y' : Int))
              have hS9 : (Pair w h l h' l' p q) _ := Pair.set2 hS8 hp7 (.int .u64 (y : Int)) (.int .u64 (y' : Int))
              refine only (i := 9) rfl (by kernel_rfl) (by rfl) (fun K hK => ?_)
              go_simp
              refine hK.out _ _ hS9 ?_
              clear hK
              try simp only [Act.put, List.setIfInBounds_toArray, List.set_cons_zero, List.set_cons_succ]
              refine wpAnyH_done (by kernel_rfl) (NoPanic.normal ?_) _
              go_wp2_with fail
              go_meet
              exact ⟨p6, p7, rfl, rfl, hS9.1.1, hS9.2.1, hS9.2.2, hr8', hr9⟩
          · (go_simp; try (with_reducible rfl))
          · intro p6 u' hb ho6 hp6
            have ne6_7 : p6 ≠ p7 := by have := obj_lt ho7; omega
            replace hp6 := Nat.le_trans (hS.base) hp6
            have hS' : (Pair w h l h' l' p q) u' := hS.below hb
            refine ⟨hS', ?_⟩
            replace ho7 := obj_below ho7 hb
            clear hS hb
            have hS := hS'; clear hS'
            rename World => u
            try simp only [Act.put, List.setIfInBounds_toArray, List.set_cons_zero, List.set_cons_succ]
            refine wpAnyH_ready (rs := [5]) (by kernel_rfl) (by simp) (arm_call (i := 5) 24 #[.agg #[.int .u64 (h : Int), .int .u64 (l : Int)], .agg #[.int .u64 (h' : Int), .int .u64 (l' : Int)]] rfl (by rfl) (C3.out _) ?_ ?_ AllReadyH.nil)
            · (go_simp; try (with_reducible rfl))
            · intro u' hb
              have hS' : (Pair w h l h' l' p q) u' := hS.below hb
              refine ⟨hS', ?_⟩
              replace ho7 := obj_below ho7 hb
              replace ho6 := obj_below ho6 hb
              clear hS hb
              have hS := hS'; clear hS'
              rename World => u
              try simp only [Act.put, List.setIfInBounds_toArray, List.set_cons_zero, List.set_cons_succ]
              obtain ⟨c0, c1, f0, f1⟩ := obj_cells ho6
              have hr8 := obj_set2 ho6 (.int .u64 (x : Int)) (.int .u64 (x' : Int))
              have ho8 := obj_set_other ho7 (Ne.symm ne6_7) (.int .u64 (x : Int)) (.int .u64 (x' : Int))
              have hS8 : (Pair w h l h' l' p q) _ := Pair.set2 hS hp6 (.int .u64 (x : Int)) (.int .u64 (x' : Int))
              refine only (i := 8) rfl (by kernel_rfl) (by rfl) (fun K hK => ?_)
              go_simp
              refine hK.out _ _ hS8 ?_
              clear hK
              try simp only [Act.put, List.setIfInBounds_toArray, List.set_cons_zero, List.set_cons_succ]
              clear c0 c1 f0 f1 hS ho6 ho7
              generalize ((u.setCell _ _).setCell _ _) = u8 at *
              obtain ⟨c0, c1, f0, f1⟩ := obj_cells ho8
              have hr9 := obj_set2 ho8 (.int .u64 (y : Int)) (.int .u64 (y' : Int))
              have hr8' := obj_set_other hr8 ne6_7 (.int .u64 (y : Int)) (.int .u64 (y' : Int))
              have hS9 : (Pair w h l h' l' p q) _ := Pair.set2 hS8 hp7 (.int .u64 (y : Int)) (.int .u64 (y' : Int))
              refine only (i := 9) rfl (by kernel_rfl) (by rfl) (fun K hK => ?_)
              go_simp
              refine hK.out _ _ hS9 ?_
              clear hK
              try simp only [Act.put, List.setIfInBounds_toArray, List.set_cons_zero, List.set_cons_succ]
              refine wpAnyH_done (by kernel_rfl) (NoPanic.normal ?_) _
              go_wp2_with fail
              go_meet
              exact ⟨p6, p7, rfl, rfl, hS9.1.1, hS9.2.1, hS9.2.2, hr8', hr9⟩
        · (go_simp; try (with_reducible rfl))
        · intro p6 u' hb ho6 hp6
          have ne6_7 : p6 ≠ p7 := by have := obj_lt ho7; omega
          replace hp6 := Nat.le_trans (hS.base) hp6
          have hS' : (Pair w h l h' l' p q) u' := hS.below hb
          refine ⟨hS', ?_⟩
          replace ho7 := obj_below ho7 hb
          clear hS hb
          have hS := hS'; clear hS'
          rename World => u
          try simp only [Act.put, List.setIfInBounds_toArray, List.set_cons_zero, List.set_cons_succ]
          refine wpAnyH_ready (rs := [2]) (by kernel_rfl) (by simp) (arm_call (i := 2) 23 #[.agg #[.int .u64 (h : Int), .int .u64 (l : Int)], .agg #[.int .u64 (h' : Int), .int .u64 (l' : Int)]] rfl (by rfl) (C2.out _) ?_ ?_ AllReadyH.nil)
          · (go_simp; try (with_reducible rfl))
          · intro u' hb
            have hS' : (Pair w h l h' l' p q) u' := hS.below hb
            refine ⟨hS', ?_⟩
            replace ho7 := obj_below ho7 hb
            replace ho6 := obj_below ho6 hb
            clear hS hb
            have hS := hS'; clear hS'
            rename World => u
            try simp only [Act.put, List.setIfInBounds_toArray, List.set_cons_zero, List.set_cons_succ]
            refine wpAnyH_ready (rs := [5]) (by kernel_rfl) (by simp) (arm_call (i := 5) 24 #[.agg #[.int .u64 (h : Int), .int .u64 (l : Int)], .agg #[.int .u64 (h' : Int), .int .u64 (l' : Int)]] rfl (by rfl) (C3.out _) ?_ ?_ AllReadyH.nil)
            · (go_simp; try (with_reducible rfl))
            · intro u' hb
              have hS' : (Pair w h l h' l' p q) u' := hS.below hb
              refine ⟨hS', ?_⟩
              replace ho7 := obj_below ho7 hb
              replace ho6 := obj_below ho6 hb
              clear hS hb
              have hS := hS'; clear hS'
              rename World => u
              try simp only [Act.put, List.setIfInBounds_toArray, List.set_cons_zero, List.set_cons_succ]
              obtain ⟨c0, c1, f0, f1⟩ := obj_cells ho6
              have hr8 := obj_set2 ho6 (.int .u64 (x : Int)) (.int .u64 (x' : Int))
              have ho8 := obj_set_other ho7 (Ne.symm ne6_7) (.int .u64 (x : Int)) (.int .u64 (x' : Int))
              have hS8 : (Pair w h l h' l' p q) _ := Pair.set2 hS hp6 (.int .u64 (x : Int)) (.int .u64 (x' : Int))
              refine only (i := 8) rfl (by kernel_rfl) (by rfl) (fun K hK => ?_)
              go_simp
              refine hK.out _ _ hS8 ?_
              clear hK
              try simp only [Act.put, List.setIfInBounds_toArray, List.set_cons_zero, List.set_cons_succ]
              clear c0 c1 f0 f1 hS ho6 ho7
              generalize ((u.setCell _ _).setCell _ _) = u8 at *
              obtain ⟨c0, c1, f0, f1⟩ := obj_cells ho8
              have hr9 := obj_set2 ho8 (.int .u64 (y : Int)) (.int .u64 (y' : Int))
              have hr8' := obj_set_other hr8 ne6_7 (.int .u64 (y : Int)) (.int .u64 (y' : Int))
              have hS9 : (Pair w h l h' l' p q) _ := Pair.set2 hS8 hp7 (.int .u64 (y : Int)) (.int .u64 (y' : Int))
              refine only (i := 9) rfl (by kernel_rfl) (by rfl) (fun K hK => ?_)
              go_simp
              refine hK.out _ _ hS9 ?_
              clear hK
              try simp only [Act.put, List.setIfInBounds_toArray, List.set_cons_zero, List.set_cons_succ]
              refine wpAnyH_done (by kernel_rfl) (NoPanic.normal ?_) _
              go_wp2_with fail
              go_meet
              exact ⟨p6, p7, rfl, rfl, hS9.1.1, hS9.2.1, hS9.2.2, hr8', hr9⟩

    case rest =>
      obtain ⟨px, py, rfl, rfl, hF⟩ := hcut
      clear HT
      have HT := Lib.hid hF
      clear hF
      clear C1 C1' C2 C3
      go_wp2_with fail
      cases rs
      · simp only [Bool.false_and, Bool.false_or] at CX CY
        refine wp_region_noPanic ?_
        refine wp_region_held_drew (S := (Four w p h l q h' l' px x x' py y y')) (by kernel_rfl) (HT.out.drew) (fun hS => ?_)
        refine only_call (i := 0) 12 #[] rfl (by kernel_rfl) (by rfl) ((awake_any _).mono fun e w' he => ⟨he.1, hS.below he.2⟩) ?_ ?_
        · (go_simp; try (with_reducible rfl))
        clear hS
        intro w0 hS
        try simp only [Act.put, List.setIfInBounds_toArray, List.set_cons_zero, List.set_cons_succ]
        refine give_val (i := 1) (v := ?_) rfl (by kernel_rfl) (by kernel_rfl) (by kernel_rfl) (fun _ _ _ h => h) (by rfl) (fun u hu => ?_) hS ?_
        rotate_left
        · ((obtain ⟨_, hu1, hu2, hu3, hu4⟩ := hu; obtain ⟨c0, c1, _, _⟩ := obj_cells hu1; obtain ⟨c2, c3, _, _⟩ := obj_cells hu2; obtain ⟨c4, c5, _, _⟩ := obj_cells hu3; obtain ⟨c6, c7, _, _⟩ := obj_cells hu4; clear hu1 hu2 hu3 hu4); go_simp; try (with_reducible rfl))
        try simp only [Act.put, List.setIfInBounds_toArray, List.set_cons_zero, List.set_cons_succ]
        refine give_val (i := 2) (v := ?_) rfl (by kernel_rfl) (by kernel_rfl) (by kernel_rfl) (fun _ _ _ h => h) (by rfl) (fun u hu => ?_) hS ?_
        rotate_left
        · ((obtain ⟨_, hu1, hu2, hu3, hu4⟩ := hu; obtain ⟨c0, c1, _, _⟩ := obj_cells hu1; obtain ⟨c2, c3, _, _⟩ := obj_cells hu2; obtain ⟨c4, c5, _, _⟩ := obj_cells hu3; obtain ⟨c6, c7, _, _⟩ := obj_cells hu4; clear hu1 hu2 hu3 hu4); go_simp; try (with_reducible rfl))
        try simp only [Act.put, List.setIfInBounds_toArray, List.set_cons_zero, List.set_cons_succ]
        refine give_val (i := 3) (v := ?_) rfl (by kernel_rfl) (by kernel_rfl) (by kernel_rfl) (fun _ _ _ h => h) (by rfl) (fun u hu => ?_) hS ?_
        rotate_left
        · ((obtain ⟨_, hu1, hu2, hu3, hu4⟩ := hu; obtain ⟨c0, c1, _, _⟩ := obj_cells hu1; obtain ⟨c2, c3, _, _⟩ := obj_cells hu2; obtain ⟨c4, c5, _, _⟩ := obj_cells hu3; obtain ⟨c6, c7, _, _⟩ := obj_cells hu4; clear hu1 hu2 hu3 hu4); go_simp; try (with_reducible rfl))
        try simp only [Act.put, List.setIfInBounds_toArray, List.set_cons_zero, List.set_cons_succ]
        refine give_val (i := 4) (v := ?_) rfl (by kernel_rfl) (by kernel_rfl) (by kernel_rfl) (fun _ _ _ h => h) (by rfl) (fun u hu => ?_) hS ?_
        rotate_left
        · ((obtain ⟨_, hu1, hu2, hu3, hu4⟩ := hu; obtain ⟨c0, c1, _, _⟩ := obj_cells hu1; obtain ⟨c2, c3, _, _⟩ := obj_cells hu2; obtain ⟨c4, c5, _, _⟩ := obj_cells hu3; obtain ⟨c6, c7, _, _⟩ := obj_cells hu4; clear hu1 hu2 hu3 hu4); go_simp; try (with_reducible rfl))
        try simp only [Act.put, List.setIfInBounds_toArray, List.set_cons_zero, List.set_cons_succ]
        refine only_call (i := 5) 23 #[.agg #[.int .u64 (h' : Int), .int .u64 (l' : Int)], .agg #[.int .u64 (h : Int), .int .u64 (l : Int)]] rfl (by kernel_rfl) (by rfl) ((C4.out _).mono fun e w' he => ⟨he.1, hS.below he.2⟩) ?_ ?_
        · (go_simp; try (with_reducible rfl))
        clear hS
        intro w5 hS
        try simp only [Act.put, List.setIfInBounds_toArray, List.set_cons_zero, List.set_cons_succ]
        refine give_val (i := 6) (v := (.bool true)) rfl (by kernel_rfl) (by kernel_rfl) (by kernel_rfl) (fun _ _ _ h => h) (by rfl) (fun u hu => ?_) hS ?_
        · ((obtain ⟨_, hu1, hu2, hu3, hu4⟩ := hu; obtain ⟨c0, c1, _, _⟩ := obj_cells hu1; obtain ⟨c2, c3, _, _⟩ := obj_cells hu2; obtain ⟨c4, c5, _, _⟩ := obj_cells hu3; obtain ⟨c6, c7, _, _⟩ := obj_cells hu4; clear hu1 hu2 hu3 hu4); go_simp; try simp)
        try simp only [Act.put, List.setIfInBounds_toArray, List.set_cons_zero, List.set_cons_succ]
        refine give_val (i := 7) (v := ?_) rfl (by kernel_rfl) (by kernel_rfl) (by kernel_rfl) (fun _ _ _ h => h) (by rfl) (fun u hu => ?_) hS ?_
        rotate_left
        · ((obtain ⟨_, hu1, hu2, hu3, hu4⟩ := hu; obtain ⟨c0, c1, _, _⟩ := obj_cells hu1; obtain ⟨c2, c3, _, _⟩ := obj_cells hu2; obtain ⟨c4, c5, _, _⟩ := obj_cells hu3; obtain ⟨c6, c7, _, _⟩ := obj_cells hu4; clear hu1 hu2 hu3 hu4); go_simp; try (with_reducible rfl))
        try simp only [Act.put, List.setIfInBounds_toArray, List.set_cons_zero, List.set_cons_succ]
        refine give_val (i := 8) (v := ?_) rfl (by kernel_rfl) (by kernel_rfl) (by kernel_rfl) (fun _ _ _ h => h) (by rfl) (fun u hu => ?_) hS ?_
        rotate_left
        · ((obtain ⟨_, hu1, hu2, hu3, hu4⟩ := hu; obtain ⟨c0, c1, _, _⟩ := obj_cells hu1; obtain ⟨c2, c3, _, _⟩ := obj_cells hu2; obtain ⟨c4, c5, _, _⟩ := obj_cells hu3; obtain ⟨c6, c7, _, _⟩ := obj_cells hu4; clear hu1 hu2 hu3 hu4); go_simp; try (with_reducible rfl))
        try simp only [Act.put, List.setIfInBounds_toArray, List.set_cons_zero, List.set_cons_succ]
        refine give_val (i := 9) (v := ?_) rfl (by kernel_rfl) (by kernel_rfl) (by kernel_rfl) (fun _ _ _ h => h) (by rfl) (fun u hu => ?_) hS ?_
        rotate_left
        · ((obtain ⟨_, hu1, hu2, hu3, hu4⟩ := hu; obtain ⟨c0, c1, _, _⟩ := obj_cells hu1; obtain ⟨c2, c3, _, _⟩ := obj_cells hu2; obtain ⟨c4, c5, _, _⟩ := obj_cells hu3; obtain ⟨c6, c7, _, _⟩ := obj_cells hu4; clear hu1 hu2 hu3 hu4); go_simp; try (with_reducible rfl))
        try simp only [Act.put, List.setIfInBounds_toArray, List.set_cons_zero, List.set_cons_succ]
        refine give_val (i := 10) (v := ?_) rfl (by kernel_rfl) (by kernel_rfl) (by kernel_rfl) (fun _ _ _ h => h) (by rfl) (fun u hu => ?_) hS ?_
        rotate_left
        · ((obtain ⟨_, hu1, hu2, hu3, hu4⟩ := hu; obtain ⟨c0, c1, _, _⟩ := obj_cells hu1; obtain ⟨c2, c3, _, _⟩ := obj_cells hu2; obtain ⟨c4, c5, _, _⟩ := obj_cells hu3; obtain ⟨c6, c7, _, _⟩ := obj_cells hu4; clear hu1 hu2 hu3 hu4); go_simp; try (with_reducible rfl))
        try simp only [Act.put, List.setIfInBounds_toArray, List.set_cons_zero, List.set_cons_succ]
        refine give_val (i := 11) (v := ?_) rfl (by kernel_rfl) (by kernel_rfl) (by kernel_rfl) (fun _ _ _ h => h) (by rfl) (fun u hu => ?_) hS ?_
        rotate_left
        · ((obtain ⟨_, hu1, hu2, hu3, hu4⟩ := hu; obtain ⟨c0, c1, _, _⟩ := obj_cells hu1; obtain ⟨c2, c3, _, _⟩ := obj_cells hu2; obtain ⟨c4, c5, _, _⟩ := obj_cells hu3; obtain ⟨c6, c7, _, _⟩ := obj_cells hu4; clear hu1 hu2 hu3 hu4); go_simp; try (with_reducible rfl))
        try simp only [Act.put, List.setIfInBounds_toArray, List.set_cons_zero, List.set_cons_succ]
        refine only_call (i := 12) 24 #[.agg #[.int .u64 (h' : Int), .int .u64 (l' : Int)], .agg #[.int .u64 (h : Int), .int .u64 (l : Int)]] rfl (by kernel_rfl) (by rfl) ((C5.out _).mono fun e w' he => ⟨he.1, hS.below he.2⟩) ?_ ?_
        · (go_simp; try (with_reducible rfl))
        clear hS
        intro w12 hS
        try simp only [Act.put, List.setIfInBounds_toArray, List.set_cons_zero, List.set_cons_succ]
        refine give_val (i := 13) (v := (.bool true)) rfl (by kernel_rfl) (by kernel_rfl) (by kernel_rfl) (fun _ _ _ h => h) (by rfl) (fun u hu => ?_) hS ?_
        · ((obtain ⟨_, hu1, hu2, hu3, hu4⟩ := hu; obtain ⟨c0, c1, _, _⟩ := obj_cells hu1; obtain ⟨c2, c3, _, _⟩ := obj_cells hu2; obtain ⟨c4, c5, _, _⟩ := obj_cells hu3; obtain ⟨c6, c7, _, _⟩ := obj_cells hu4; clear hu1 hu2 hu3 hu4); go_simp; try simp)
        try simp only [Act.put, List.setIfInBounds_toArray, List.set_cons_zero, List.set_cons_succ]
        refine give_val (i := 14) (v := ?_) rfl (by kernel_rfl) (by kernel_rfl) (by kernel_rfl) (fun _ _ _ h => h) (by rfl) (fun u hu => ?_) hS ?_
        rotate_left
        · ((obtain ⟨_, hu1, hu2, hu3, hu4⟩ := hu; obtain ⟨c0, c1, _, _⟩ := obj_cells hu1; obtain ⟨c2, c3, _, _⟩ := obj_cells hu2; obtain ⟨c4, c5, _, _⟩ := obj_cells hu3; obtain ⟨c6, c7, _, _⟩ := obj_cells hu4; clear hu1 hu2 hu3 hu4); go_simp; try (with_reducible rfl))
        try simp only [Act.put, List.setIfInBounds_toArray, List.set_cons_zero, List.set_cons_succ]
        refine give_val (i := 15) (v := ?_) rfl (by kernel_rfl) (by kernel_rfl) (by kernel_rfl) (fun _ _ _ h => h) (by rfl) (fun u hu => ?_) hS ?_
        rotate_left
        · ((obtain ⟨_, hu1, hu2, hu3, hu4⟩ := hu; obtain ⟨c0, c1, _, _⟩ := obj_cells hu1; obtain ⟨c2, c3, _, _⟩ := obj_cells hu2; obtain ⟨c4, c5, _, _⟩ := obj_cells hu3; obtain ⟨c6, c7, _, _⟩ := obj_cells hu4; clear hu1 hu2 hu3 hu4); go_simp; try (with_reducible rfl))
        try simp only [Act.put, List.setIfInBounds_toArray, List.set_cons_zero, List.set_cons_succ]
        refine give_val (i := 16) (v := ?_) rfl (by kernel_rfl) (by kernel_rfl) (by kernel_rfl) (fun _ _ _ h => h) (by rfl) (fun u hu => ?_) hS ?_
        rotate_left
        · ((obtain ⟨_, hu1, hu2, hu3, hu4⟩ := hu; obtain ⟨c0, c1, _, _⟩ := obj_cells hu1; obtain ⟨c2, c3, _, _⟩ := obj_cells hu2; obtain ⟨c4, c5, _, _⟩ := obj_cells hu3; obtain ⟨c6, c7, _, _⟩ := obj_cells hu4; clear hu1 hu2 hu3 hu4); go_simp; try (with_reducible rfl))
        try simp only [Act.put, List.setIfInBounds_toArray, List.set_cons_zero, List.set_cons_succ]
        refine give_val (i := 17) (v := ?_) rfl (by kernel_rfl) (by kernel_rfl) (by kernel_rfl) (fun _ _ _ h => h) (by rfl) (fun u hu => ?_) hS ?_
        rotate_left
        · ((obtain ⟨_, hu1, hu2, hu3, hu4⟩ := hu; obtain ⟨c0, c1, _, _⟩ := obj_cells hu1; obtain ⟨c2, c3, _, _⟩ := obj_cells hu2; obtain ⟨c4, c5, _, _⟩ := obj_cells hu3; obtain ⟨c6, c7, _, _⟩ := obj_cells hu4; clear hu1 hu2 hu3 hu4); go_simp; try (with_reducible rfl))
        try simp only [Act.put, List.setIfInBounds_toArray, List.set_cons_zero, List.set_cons_succ]
        refine give_val (i := 19) (v := ?_) rfl (by kernel_rfl) (by kernel_rfl) (by kernel_rfl) (fun _ _ _ h => h) (by rfl) (fun u hu => ?_) hS ?_
        rotate_left
        · ((obtain ⟨_, hu1, hu2, hu3, hu4⟩ := hu; obtain ⟨c0, c1, _, _⟩ := obj_cells hu1; obtain ⟨c2, c3, _, _⟩ := obj_cells hu2; obtain ⟨c4, c5, _, _⟩ := obj_cells hu3; obtain ⟨c6, c7, _, _⟩ := obj_cells hu4; clear hu1 hu2 hu3 hu4); go_simp; try (with_reducible rfl))
        try simp only [Act.put, List.setIfInBounds_toArray, List.set_cons_zero, List.set_cons_succ]
        refine give_val (i := 20) (v := ?_) rfl (by kernel_rfl) (by kernel_rfl) (by kernel_rfl) (fun _ _ _ h => h) (by rfl) (fun u hu => ?_) hS ?_
        rotate_left
        · ((obtain ⟨_, hu1, hu2, hu3, hu4⟩ := hu; obtain ⟨c0, c1, _, _⟩ := obj_cells hu1; obtain ⟨c2, c3, _, _⟩ := obj_cells hu2; obtain ⟨c4, c5, _, _⟩ := obj_cells hu3; obtain ⟨c6, c7, _, _⟩ := obj_cells hu4; clear hu1 hu2 hu3 hu4); go_simp; try (with_reducible rfl))
        try simp only [Act.put, List.setIfInBounds_toArray, List.set_cons_zero, List.set_cons_succ]
        refine only_call (i := 18) 13 #[.agg #[.int .u64 (x : Int), .int .u64 (x' : Int)], .int .i64 n] rfl (by kernel_rfl) (by rfl) ((CX.out _).mono fun e w' he => ⟨he.1, hS.below he.2⟩) ?_ ?_
        · (go_simp; try (with_reducible rfl))
        clear hS
        intro w18 hS
        try simp only [Act.put, List.setIfInBounds_toArray, List.set_cons_zero, List.set_cons_succ]
        refine only_call (i := 21) 13 #[.agg #[.int .u64 (h : Int), .int .u64 (l : Int)], .int .i64 n] rfl (by kernel_rfl) (by rfl) ((CS.out _).mono fun e w' he => ⟨he.1, hS.below he.2⟩) ?_ ?_
        · (go_simp; try (with_reducible rfl))
        clear hS
        intro w21 hS
        try simp only [Act.put, List.setIfInBounds_toArray, List.set_cons_zero, List.set_cons_succ]
        refine give_val (i := 22) (v := ?_) rfl (by kernel_rfl) (by kernel_rfl) (by kernel_rfl) (fun _ _ _ h => h) (by rfl) (fun u hu => ?_) hS ?_
        rotate_left
        · ((obtain ⟨_, hu1, hu2, hu3, hu4⟩ := hu; obtain ⟨c0, c1, _, _⟩ := obj_cells hu1; obtain ⟨c2, c3, _, _⟩ := obj_cells hu2; obtain ⟨c4, c5, _, _⟩ := obj_cells hu3; obtain ⟨c6, c7, _, _⟩ := obj_cells hu4; clear hu1 hu2 hu3 hu4); go_simp; try (with_reducible rfl))
        try simp only [Act.put, List.setIfInBounds_toArray, List.set_cons_zero, List.set_cons_succ]
        refine give_skip (i := 23) rfl (by kernel_rfl) (by kernel_rfl) (by kernel_rfl) (fun _ _ _ h => h) (by rfl) hS ?_
        try simp only [Act.put, List.setIfInBounds_toArray, List.set_cons_zero, List.set_cons_succ]
        refine give_skip (i := 24) rfl (by kernel_rfl) (by kernel_rfl) (by kernel_rfl) (fun _ _ _ h => h) (by rfl) hS ?_
        try simp only [Act.put, List.setIfInBounds_toArray, List.set_cons_zero, List.set_cons_succ]
        refine give_skip (i := 25) rfl (by kernel_rfl) (by kernel_rfl) (by kernel_rfl) (fun _ _ _ h => h) (by rfl) hS ?_
        try simp only [Act.put, List.setIfInBounds_toArray, List.set_cons_zero, List.set_cons_succ]
        refine give_val (i := 26) (v := ?_) rfl (by kernel_rfl) (by kernel_rfl) (by kernel_rfl) (fun _ _ _ h => h) (by rfl) (fun u hu => ?_) hS ?_
        rotate_left
        · ((obtain ⟨_, hu1, hu2, hu3, hu4⟩ := hu; obtain ⟨c0, c1, _, _⟩ := obj_cells hu1; obtain ⟨c2, c3, _, _⟩ := obj_cells hu2; obtain ⟨c4, c5, _, _⟩ := obj_cells hu3; obtain ⟨c6, c7, _, _⟩ := obj_cells hu4; clear hu1 hu2 hu3 hu4); go_simp; try (with_reducible rfl))
        try simp only [Act.put, List.setIfInBounds_toArray, List.set_cons_zero, List.set_cons_succ]
        refine give_val (i := 27) (v := (.bool true)) rfl (by kernel_rfl) (by kernel_rfl) (by kernel_rfl) (fun _ _ _ h => h) (by rfl) (fun u hu => ?_) hS ?_
        · ((obtain ⟨_, hu1, hu2, hu3, hu4⟩ := hu; obtain ⟨c0, c1, _, _⟩ := obj_cells hu1; obtain ⟨c2, c3, _, _⟩ := obj_cells hu2; obtain ⟨c4, c5, _, _⟩ := obj_cells hu3; obtain ⟨c6, c7, _, _⟩ := obj_cells hu4; clear hu1 hu2 hu3 hu4); go_simp; try simp)
        try simp only [Act.put, List.setIfInBounds_toArray, List.set_cons_zero, List.set_cons_succ]
        refine give_val (i := 28) (v := ?_) rfl (by kernel_rfl) (by kernel_rfl) (by kernel_rfl) (fun _ _ _ h => h) (by rfl) (fun u hu => ?_) hS ?_
        rotate_left
        · ((obtain ⟨_, hu1, hu2, hu3, hu4⟩ := hu; obtain ⟨c0, c1, _, _⟩ := obj_cells hu1; obtain ⟨c2, c3, _, _⟩ := obj_cells hu2; obtain ⟨c4, c5, _, _⟩ := obj_cells hu3; obtain ⟨c6, c7, _, _⟩ := obj_cells hu4; clear hu1 hu2 hu3 hu4); go_simp; try (with_reducible rfl))
        try simp only [Act.put, List.setIfInBounds_toArray, List.set_cons_zero, List.set_cons_succ]
        refine give_val (i := 29) (v := ?_) rfl (by kernel_rfl) (by kernel_rfl) (by kernel_rfl) (fun _ _ _ h => h) (by rfl) (fun u hu => ?_) hS ?_
        rotate_left
        · ((obtain ⟨_, hu1, hu2, hu3, hu4⟩ := hu; obtain ⟨c0, c1, _, _⟩ := obj_cells hu1; obtain ⟨c2, c3, _, _⟩ := obj_cells hu2; obtain ⟨c4, c5, _, _⟩ := obj_cells hu3; obtain ⟨c6, c7, _, _⟩ := obj_cells hu4; clear hu1 hu2 hu3 hu4); go_simp; try (with_reducible rfl))
        try simp only [Act.put, List.setIfInBounds_toArray, List.set_cons_zero, List.set_cons_succ]
        refine give_val (i := 30) (v := ?_) rfl (by kernel_rfl) (by kernel_rfl) (by kernel_rfl) (fun _ _ _ h => h) (by rfl) (fun u hu => ?_) hS ?_
        rotate_left
        · ((obtain ⟨_, hu1, hu2, hu3, hu4⟩ := hu; obtain ⟨c0, c1, _, _⟩ := obj_cells hu1; obtain ⟨c2, c3, _, _⟩ := obj_cells hu2; obtain ⟨c4, c5, _, _⟩ := obj_cells hu3; obtain ⟨c6, c7, _, _⟩ := obj_cells hu4; clear hu1 hu2 hu3 hu4); go_simp; try (with_reducible rfl))
        try simp only [Act.put, List.setIfInBounds_toArray, List.set_cons_zero, List.set_cons_succ]
        refine give_val (i := 31) (v := ?_) rfl (by kernel_rfl) (by kernel_rfl) (by kernel_rfl) (fun _ _ _ h => h) (by rfl) (fun u hu => ?_) hS ?_
        rotate_left
        · ((obtain ⟨_, hu1, hu2, hu3, hu4⟩ := hu; obtain ⟨c0, c1, _, _⟩ := obj_cells hu1; obtain ⟨c2, c3, _, _⟩ := obj_cells hu2; obtain ⟨c4, c5, _, _⟩ := obj_cells hu3; obtain ⟨c6, c7, _, _⟩ := obj_cells hu4; clear hu1 hu2 hu3 hu4); go_simp; try (with_reducible rfl))
        try simp only [Act.put, List.setIfInBounds_toArray, List.set_cons_zero, List.set_cons_succ]
        refine give_val (i := 33) (v := ?_) rfl (by kernel_rfl) (by kernel_rfl) (by kernel_rfl) (fun _ _ _ h => h) (by rfl) (fun u hu => ?_) hS ?_
        rotate_left
        · ((obtain ⟨_, hu1, hu2, hu3, hu4⟩ := hu; obtain ⟨c0, c1, _, _⟩ := obj_cells hu1; obtain ⟨c2, c3, _, _⟩ := obj_cells hu2; obtain ⟨c4, c5, _, _⟩ := obj_cells hu3; obtain ⟨c6, c7, _, _⟩ := obj_cells hu4; clear hu1 hu2 hu3 hu4); go_simp; try (with_reducible rfl))
        try simp only [Act.put, List.setIfInBounds_toArray, List.set_cons_zero, List.set_cons_succ]
        refine give_val (i := 34) (v := ?_) rfl (by kernel_rfl) (by kernel_rfl) (by kernel_rfl) (fun _ _ _ h => h) (by rfl) (fun u hu => ?_) hS ?_
        rotate_left
        · ((obtain ⟨_, hu1, hu2, hu3, hu4⟩ := hu; obtain ⟨c0, c1, _, _⟩ := obj_cells hu1; obtain ⟨c2, c3, _, _⟩ := obj_cells hu2; obtain ⟨c4, c5, _, _⟩ := obj_cells hu3; obtain ⟨c6, c7, _, _⟩ := obj_cells hu4; clear hu1 hu2 hu3 hu4); go_simp; try (with_reducible rfl))
        try simp only [Act.put, List.setIfInBounds_toArray, List.set_cons_zero, List.set_cons_succ]
        refine only_call (i := 32) 13 #[.agg #[.int .u64 (y : Int), .int .u64 (y' : Int)], .int .i64 n] rfl (by kernel_rfl) (by rfl) ((CY.out _).mono fun e w' he => ⟨he.1, hS.below he.2⟩) ?_ ?_
        · (go_simp; try (with_reducible rfl))
        clear hS
        intro w32 hS
        try simp only [Act.put, List.setIfInBounds_toArray, List.set_cons_zero, List.set_cons_succ]
        refine only_call (i := 35) 13 #[.agg #[.int .u64 (h : Int), .int .u64 (l : Int)], .int .i64 n] rfl (by kernel_rfl) (by rfl) ((CS.out _).mono fun e w' he => ⟨he.1, hS.below he.2⟩) ?_ ?_
        · (go_simp; try (with_reducible rfl))
        clear hS
        intro w35 hS
        try simp only [Act.put, List.setIfInBounds_toArray, List.set_cons_zero, List.set_cons_succ]
        refine give_val (i := 36) (v := ?_) rfl (by kernel_rfl) (by kernel_rfl) (by kernel_rfl) (fun _ _ _ h => h) (by rfl) (fun u hu => ?_) hS ?_
        rotate_left
        · ((obtain ⟨_, hu1, hu2, hu3, hu4⟩ := hu; obtain ⟨c0, c1, _, _⟩ := obj_cells hu1; obtain ⟨c2, c3, _, _⟩ := obj_cells hu2; obtain ⟨c4, c5, _, _⟩ := obj_cells hu3; obtain ⟨c6, c7, _, _⟩ := obj_cells hu4; clear hu1 hu2 hu3 hu4); go_simp; try (with_reducible rfl))
        try simp only [Act.put, List.setIfInBounds_toArray, List.set_cons_zero, List.set_cons_succ]
        refine give_val (i := 37) (v := ?_) rfl (by kernel_rfl) (by kernel_rfl) (by kernel_rfl) (fun _ _ _ h => h) (by rfl) (fun u hu => ?_) hS ?_
        rotate_left
        · ((obtain ⟨_, hu1, hu2, hu3, hu4⟩ := hu; obtain ⟨c0, c1, _, _⟩ := obj_cells hu1; obtain ⟨c2, c3, _, _⟩ := obj_cells hu2; obtain ⟨c4, c5, _, _⟩ := obj_cells hu3; obtain ⟨c6, c7, _, _⟩ := obj_cells hu4; clear hu1 hu2 hu3 hu4); go_simp; try (with_reducible rfl))
        try simp only [Act.put, List.setIfInBounds_toArray, List.set_cons_zero, List.set_cons_succ]
        refine give_val (i := 38) (v := ?_) rfl (by kernel_rfl) (by kernel_rfl) (by kernel_rfl) (fun _ _ _ h => h) (by rfl) (fun u hu => ?_) hS ?_
        rotate_left
        · ((obtain ⟨_, hu1, hu2, hu3, hu4⟩ := hu; obtain ⟨c0, c1, _, _⟩ := obj_cells hu1; obtain ⟨c2, c3, _, _⟩ := obj_cells hu2; obtain ⟨c4, c5, _, _⟩ := obj_cells hu3; obtain ⟨c6, c7, _, _⟩ := obj_cells hu4; clear hu1 hu2 hu3 hu4); go_simp; try (with_reducible rfl))
        try simp only [Act.put, List.setIfInBounds_toArray, List.set_cons_zero, List.set_cons_succ]
        refine only_call (i := 39) 13 #[.agg #[.int .u64 (h' : Int), .int .u64 (l' : Int)], .int .i64 n] rfl (by kernel_rfl) (by rfl) ((CT.out _).mono fun e w' he => ⟨he.1, hS.below he.2⟩) ?_ ?_
        · (go_simp; try (with_reducible rfl))
        clear hS
        intro w39 hS
        try simp only [Act.put, List.setIfInBounds_toArray, List.set_cons_zero, List.set_cons_succ]
        refine give_val (i := 40) (v := ?_) rfl (by kernel_rfl) (by kernel_rfl) (by kernel_rfl) (fun _ _ _ h => h) (by rfl) (fun u hu => ?_) hS ?_
        rotate_left
        · ((obtain ⟨_, hu1, hu2, hu3, hu4⟩ := hu; obtain ⟨c0, c1, _, _⟩ := obj_cells hu1; obtain ⟨c2, c3, _, _⟩ := obj_cells hu2; obtain ⟨c4, c5, _, _⟩ := obj_cells hu3; obtain ⟨c6, c7, _, _⟩ := obj_cells hu4; clear hu1 hu2 hu3 hu4); go_simp; try (with_reducible rfl))
        try simp only [Act.put, List.setIfInBounds_toArray, List.set_cons_zero, List.set_cons_succ]
        refine give_val (i := 41) (v := (.bool true)) rfl (by kernel_rfl) (by kernel_rfl) (by kernel_rfl) (fun _ _ _ h => h) (by rfl) (fun u hu => ?_) hS ?_
        · ((obtain ⟨_, hu1, hu2, hu3, hu4⟩ := hu; obtain ⟨c0, c1, _, _⟩ := obj_cells hu1; obtain ⟨c2, c3, _, _⟩ := obj_cells hu2; obtain ⟨c4, c5, _, _⟩ := obj_cells hu3; obtain ⟨c6, c7, _, _⟩ := obj_cells hu4; clear hu1 hu2 hu3 hu4); go_simp; try simp)
        try simp only [Act.put, List.setIfInBounds_toArray, List.set_cons_zero, List.set_cons_succ]
        refine give_val (i := 42) (v := ?_) rfl (by kernel_rfl) (by kernel_rfl) (by kernel_rfl) (fun _ _ _ h => h) (by rfl) (fun u hu => ?_) hS ?_
        rotate_left
        · ((obtain ⟨_, hu1, hu2, hu3, hu4⟩ := hu; obtain ⟨c0, c1, _, _⟩ := obj_cells hu1; obtain ⟨c2, c3, _, _⟩ := obj_cells hu2; obtain ⟨c4, c5, _, _⟩ := obj_cells hu3; obtain ⟨c6, c7, _, _⟩ := obj_cells hu4; clear hu1 hu2 hu3 hu4); go_simp; try (with_reducible rfl))
        try simp only [Act.put, List.setIfInBounds_toArray, List.set_cons_zero, List.set_cons_succ]
        refine give_val (i := 43) (v := ?_) rfl (by kernel_rfl) (by kernel_rfl) (by kernel_rfl) (fun _ _ _ h => h) (by rfl) (fun u hu => ?_) hS ?_
        rotate_left
        · ((obtain ⟨_, hu1, hu2, hu3, hu4⟩ := hu; obtain ⟨c0, c1, _, _⟩ := obj_cells hu1; obtain ⟨c2, c3, _, _⟩ := obj_cells hu2; obtain ⟨c4, c5, _, _⟩ := obj_cells hu3; obtain ⟨c6, c7, _, _⟩ := obj_cells hu4; clear hu1 hu2 hu3 hu4); go_simp; try (with_reducible rfl))
        try simp only [Act.put, List.setIfInBounds_toArray, List.set_cons_zero, List.set_cons_succ]
        refine give_val (i := 44) (v := ?_) rfl (by kernel_rfl) (by kernel_rfl) (by kernel_rfl) (fun _ _ _ h => h) (by rfl) (fun u hu => ?_) hS ?_
        rotate_left
        · ((obtain ⟨_, hu1, hu2, hu3, hu4⟩ := hu; obtain ⟨c0, c1, _, _⟩ := obj_cells hu1; obtain ⟨c2, c3, _, _⟩ := obj_cells hu2; obtain ⟨c4, c5, _, _⟩ := obj_cells hu3; obtain ⟨c6, c7, _, _⟩ := obj_cells hu4; clear hu1 hu2 hu3 hu4); go_simp; try (with_reducible rfl))
        try simp only [Act.put, List.setIfInBounds_toArray, List.set_cons_zero, List.set_cons_succ]
        refine give_val (i := 46) (v := ?_) rfl (by kernel_rfl) (by kernel_rfl) (by kernel_rfl) (fun _ _ _ h => h) (by rfl) (fun u hu => ?_) hS ?_
        rotate_left
        · ((obtain ⟨_, hu1, hu2, hu3, hu4⟩ := hu; obtain ⟨c0, c1, _, _⟩ := obj_cells hu1; obtain ⟨c2, c3, _, _⟩ := obj_cells hu2; obtain ⟨c4, c5, _, _⟩ := obj_cells hu3; obtain ⟨c6, c7, _, _⟩ := obj_cells hu4; clear hu1 hu2 hu3 hu4); go_simp; try (with_reducible rfl))
        try simp only [Act.put, List.setIfInBounds_toArray, List.set_cons_zero, List.set_cons_succ]
        refine give_val (i := 49) (v := ?_) rfl (by kernel_rfl) (by kernel_rfl) (by kernel_rfl) (fun _ _ _ h => h) (by rfl) (fun u hu => ?_) hS ?_
        rotate_left
        · ((obtain ⟨_, hu1, hu2, hu3, hu4⟩ := hu; obtain ⟨c0, c1, _, _⟩ := obj_cells hu1; obtain ⟨c2, c3, _, _⟩ := obj_cells hu2; obtain ⟨c4, c5, _, _⟩ := obj_cells hu3; obtain ⟨c6, c7, _, _⟩ := obj_cells hu4; clear hu1 hu2 hu3 hu4); go_simp; try (with_reducible rfl))
        try simp only [Act.put, List.setIfInBounds_toArray, List.set_cons_zero, List.set_cons_succ]
        refine give_val (i := 51) (v := ?_) rfl (by kernel_rfl) (by kernel_rfl) (by kernel_rfl) (fun _ _ _ h => h) (by rfl) (fun u hu => ?_) hS ?_
        rotate_left
        · ((obtain ⟨_, hu1, hu2, hu3, hu4⟩ := hu; obtain ⟨c0, c1, _, _⟩ := obj_cells hu1; obtain ⟨c2, c3, _, _⟩ := obj_cells hu2; obtain ⟨c4, c5, _, _⟩ := obj_cells hu3; obtain ⟨c6, c7, _, _⟩ := obj_cells hu4; clear hu1 hu2 hu3 hu4); go_simp; try (with_reducible rfl))
        try simp only [Act.put, List.setIfInBounds_toArray, List.set_cons_zero, List.set_cons_succ]
        refine only_call (i := 45) 15 #[.agg #[.int .u64 (x : Int), .int .u64 (x' : Int)]] rfl (by kernel_rfl) (by rfl) ((LX.out _).mono fun e w' he => ⟨he.1, hS.below he.2⟩) ?_ ?_
        · (go_simp; try (with_reducible rfl))
        clear hS
        intro w45 hS
        try simp only [Act.put, List.setIfInBounds_toArray, List.set_cons_zero, List.set_cons_succ]
        refine only_call (i := 47) 15 #[.agg #[.int .u64 (y : Int), .int .u64 (y' : Int)]] rfl (by kernel_rfl) (by rfl) ((LY.out _).mono fun e w' he => ⟨he.1, hS.below he.2⟩) ?_ ?_
        · (go_simp; try (with_reducible rfl))
        clear hS
        intro w47 hS
        try simp only [Act.put, List.setIfInBounds_toArray, List.set_cons_zero, List.set_cons_succ]
        refine give_val (i := 48) (v := (.int .i64 ((ls : Int) + (lt : Int)))) rfl (by kernel_rfl) (by kernel_rfl) (by kernel_rfl) (fun _ _ _ h => h) (by rfl) (fun u hu => ?_) hS ?_
        · ((obtain ⟨_, hu1, hu2, hu3, hu4⟩ := hu; obtain ⟨c0, c1, _, _⟩ := obj_cells hu1; obtain ⟨c2, c3, _, _⟩ := obj_cells hu2; obtain ⟨c4, c5, _, _⟩ := obj_cells hu3; obtain ⟨c6, c7, _, _⟩ := obj_cells hu4; clear hu1 hu2 hu3 hu4); go_simp; ((try simp); rw [IntWalk.i64_in _ (by omega)]; have := HSUM.out; omega))
        try simp only [Act.put, List.setIfInBounds_toArray, List.set_cons_zero, List.set_cons_succ]
        refine only_call (i := 50) 15 #[.agg #[.int .u64 (h : Int), .int .u64 (l : Int)]] rfl (by kernel_rfl) (by rfl) ((LS.out _).mono fun e w' he => ⟨he.1, hS.below he.2⟩) ?_ ?_
        · (go_simp; try (with_reducible rfl))
        clear hS
        intro w50 hS
        try simp only [Act.put, List.setIfInBounds_toArray, List.set_cons_zero, List.set_cons_succ]
        refine only_call (i := 52) 15 #[.agg #[.int .u64 (h' : Int), .int .u64 (l' : Int)]] rfl (by kernel_rfl) (by rfl) ((LT.out _).mono fun e w' he => ⟨he.1, hS.below he.2⟩) ?_ ?_
        · (go_simp; try (with_reducible rfl))
        clear hS
        intro w52 hS
        try simp only [Act.put, List.setIfInBounds_toArray, List.set_cons_zero, List.set_cons_succ]
        refine give_val (i := 53) (v := (.int .i64 ((ls : Int) + (lt : Int)))) rfl (by kernel_rfl) (by kernel_rfl) (by kernel_rfl) (fun _ _ _ h => h) (by rfl) (fun u hu => ?_) hS ?_
        · ((obtain ⟨_, hu1, hu2, hu3, hu4⟩ := hu; obtain ⟨c0, c1, _, _⟩ := obj_cells hu1; obtain ⟨c2, c3, _, _⟩ := obj_cells hu2; obtain ⟨c4, c5, _, _⟩ := obj_cells hu3; obtain ⟨c6, c7, _, _⟩ := obj_cells hu4; clear hu1 hu2 hu3 hu4); go_simp; ((try simp); exact IntWalk.i64_in _ (by omega)))
        try simp only [Act.put, List.setIfInBounds_toArray, List.set_cons_zero, List.set_cons_succ]
        refine give_val (i := 54) (v := (.bool true)) rfl (by kernel_rfl) (by kernel_rfl) (by kernel_rfl) (fun _ _ _ h => h) (by rfl) (fun u hu => ?_) hS ?_
        · ((obtain ⟨_, hu1, hu2, hu3, hu4⟩ := hu; obtain ⟨c0, c1, _, _⟩ := obj_cells hu1; obtain ⟨c2, c3, _, _⟩ := obj_cells hu2; obtain ⟨c4, c5, _, _⟩ := obj_cells hu3; obtain ⟨c6, c7, _, _⟩ := obj_cells hu4; clear hu1 hu2 hu3 hu4); go_simp; try simp)
        try simp only [Act.put, List.setIfInBounds_toArray, List.set_cons_zero, List.set_cons_succ]
        refine give_val (i := 55) (v := ?_) rfl (by kernel_rfl) (by kernel_rfl) (by kernel_rfl) (fun _ _ _ h => h) (by rfl) (fun u hu => ?_) hS ?_
        rotate_left
        · ((obtain ⟨_, hu1, hu2, hu3, hu4⟩ := hu; obtain ⟨c0, c1, _, _⟩ := obj_cells hu1; obtain ⟨c2, c3, _, _⟩ := obj_cells hu2; obtain ⟨c4, c5, _, _⟩ := obj_cells hu3; obtain ⟨c6, c7, _, _⟩ := obj_cells hu4; clear hu1 hu2 hu3 hu4); go_simp; try (with_reducible rfl))
        try simp only [Act.put, List.setIfInBounds_toArray, List.set_cons_zero, List.set_cons_succ]
        refine give_val (i := 56) (v := ?_) rfl (by kernel_rfl) (by kernel_rfl) (by kernel_rfl) (fun _ _ _ h => h) (by rfl) (fun u hu => ?_) hS ?_
        rotate_left
        · ((obtain ⟨_, hu1, hu2, hu3, hu4⟩ := hu; obtain ⟨c0, c1, _, _⟩ := obj_cells hu1; obtain ⟨c2, c3, _, _⟩ := obj_cells hu2; obtain ⟨c4, c5, _, _⟩ := obj_cells hu3; obtain ⟨c6, c7, _, _⟩ := obj_cells hu4; clear hu1 hu2 hu3 hu4); go_simp; try (with_reducible rfl))
        try simp only [Act.put, List.setIfInBounds_toArray, List.set_cons_zero, List.set_cons_succ]
        refine wpAnyH_done (by kernel_rfl) (NoPanic.normal ?_) _
        go_wp2
        go_ret
        exact ⟨rfl, hS.1⟩
      · simp only [Bool.true_and, Bool.true_or] at CX CY
        refine wp_region_noPanic ?_
        refine wp_region_held_drew (S := (Four w p h l q h' l' px x x' py y y')) (by kernel_rfl) (HT.out.drew) (fun hS => ?_)
        refine only_call (i := 0) 12 #[] rfl (by kernel_rfl) (by rfl) ((awake_any _).mono fun e w' he => ⟨he.1, hS.below he.2⟩) ?_ ?_
        · (go_simp; try (with_reducible rfl))
        clear hS
        intro w0 hS
        try simp only [Act.put, List.setIfInBounds_toArray, List.set_cons_zero, List.set_cons_succ]
        refine give_val (i := 1) (v := ?_) rfl (by kernel_rfl) (by kernel_rfl) (by kernel_rfl) (fun _ _ _ h => h) (by rfl) (fun u hu => ?_) hS ?_
        rotate_left
        · ((obtain ⟨_, hu1, hu2, hu3, hu4⟩ := hu; obtain ⟨c0, c1, _, _⟩ := obj_cells hu1; obtain ⟨c2, c3, _, _⟩ := obj_cells hu2; obtain ⟨c4, c5, _, _⟩ := obj_cells hu3; obtain ⟨c6, c7, _, _⟩ := obj_cells hu4; clear hu1 hu2 hu3 hu4); go_simp; try (with_reducible rfl))
        try simp only [Act.put, List.setIfInBounds_toArray, List.set_cons_zero, List.set_cons_succ]
        refine give_val (i := 2) (v := ?_) rfl (by kernel_rfl) (by kernel_rfl) (by kernel_rfl) (fun _ _ _ h => h) (by rfl) (fun u hu => ?_) hS ?_
        rotate_left
        · ((obtain ⟨_, hu1, hu2, hu3, hu4⟩ := hu; obtain ⟨c0, c1, _, _⟩ := obj_cells hu1; obtain ⟨c2, c3, _, _⟩ := obj_cells hu2; obtain ⟨c4, c5, _, _⟩ := obj_cells hu3; obtain ⟨c6, c7, _, _⟩ := obj_cells hu4; clear hu1 hu2 hu3 hu4); go_simp; try (with_reducible rfl))
        try simp only [Act.put, List.setIfInBounds_toArray, List.set_cons_zero, List.set_cons_succ]
        refine give_val (i := 3) (v := ?_) rfl (by kernel_rfl) (by kernel_rfl) (by kernel_rfl) (fun _ _ _ h => h) (by rfl) (fun u hu => ?_) hS ?_
        rotate_left
        · ((obtain ⟨_, hu1, hu2, hu3, hu4⟩ := hu; obtain ⟨c0, c1, _, _⟩ := obj_cells hu1; obtain ⟨c2, c3, _, _⟩ := obj_cells hu2; obtain ⟨c4, c5, _, _⟩ := obj_cells hu3; obtain ⟨c6, c7, _, _⟩ := obj_cells hu4; clear hu1 hu2 hu3 hu4); go_simp; try (with_reducible rfl))
        try simp only [Act.put, List.setIfInBounds_toArray, List.set_cons_zero, List.set_cons_succ]
        refine give_val (i := 4) (v := ?_) rfl (by kernel_rfl) (by kernel_rfl) (by kernel_rfl) (fun _ _ _ h => h) (by rfl) (fun u hu => ?_) hS ?_
        rotate_left
        · ((obtain ⟨_, hu1, hu2, hu3, hu4⟩ := hu; obtain ⟨c0, c1, _, _⟩ := obj_cells hu1; obtain ⟨c2, c3, _, _⟩ := obj_cells hu2; obtain ⟨c4, c5, _, _⟩ := obj_cells hu3; obtain ⟨c6, c7, _, _⟩ := obj_cells hu4; clear hu1 hu2 hu3 hu4); go_simp; try (with_reducible rfl))
        try simp only [Act.put, List.setIfInBounds_toArray, List.set_cons_zero, List.set_cons_succ]
        refine only_call (i := 5) 23 #[.agg #[.int .u64 (h' : Int), .int .u64 (l' : Int)], .agg #[.int .u64 (h : Int), .int .u64 (l : Int)]] rfl (by kernel_rfl) (by rfl) ((C4.out _).mono fun e w' he => ⟨he.1, hS.below he.2⟩) ?_ ?_
        · (go_simp; try (with_reducible rfl))
        clear hS
        intro w5 hS
        try simp only [Act.put, List.setIfInBounds_toArray, List.set_cons_zero, List.set_cons_succ]
        refine give_val (i := 6) (v := (.bool true)) rfl (by kernel_rfl) (by kernel_rfl) (by kernel_rfl) (fun _ _ _ h => h) (by rfl) (fun u hu => ?_) hS ?_
        · ((obtain ⟨_, hu1, hu2, hu3, hu4⟩ := hu; obtain ⟨c0, c1, _, _⟩ := obj_cells hu1; obtain ⟨c2, c3, _, _⟩ := obj_cells hu2; obtain ⟨c4, c5, _, _⟩ := obj_cells hu3; obtain ⟨c6, c7, _, _⟩ := obj_cells hu4; clear hu1 hu2 hu3 hu4); go_simp; try simp)
        try simp only [Act.put, List.setIfInBounds_toArray, List.set_cons_zero, List.set_cons_succ]
        refine give_val (i := 7) (v := ?_) rfl (by kernel_rfl) (by kernel_rfl) (by kernel_rfl) (fun _ _ _ h => h) (by rfl) (fun u hu => ?_) hS ?_
        rotate_left
        · ((obtain ⟨_, hu1, hu2, hu3, hu4⟩ := hu; obtain ⟨c0, c1, _, _⟩ := obj_cells hu1; obtain ⟨c2, c3, _, _⟩ := obj_cells hu2; obtain ⟨c4, c5, _, _⟩ := obj_cells hu3; obtain ⟨c6, c7, _, _⟩ := obj_cells hu4; clear hu1 hu2 hu3 hu4); go_simp; try (with_reducible rfl))
        try simp only [Act.put, List.setIfInBounds_toArray, List.set_cons_zero, List.set_cons_succ]
        refine give_val (i := 8) (v := ?_) rfl (by kernel_rfl) (by kernel_rfl) (by kernel_rfl) (fun _ _ _ h => h) (by rfl) (fun u hu => ?_) hS ?_
        rotate_left
        · ((obtain ⟨_, hu1, hu2, hu3, hu4⟩ := hu; obtain ⟨c0, c1, _, _⟩ := obj_cells hu1; obtain ⟨c2, c3, _, _⟩ := obj_cells hu2; obtain ⟨c4, c5, _, _⟩ := obj_cells hu3; obtain ⟨c6, c7, _, _⟩ := obj_cells hu4; clear hu1 hu2 hu3 hu4); go_simp; try (with_reducible rfl))
        try simp only [Act.put, List.setIfInBounds_toArray, List.set_cons_zero, List.set_cons_succ]
        refine give_val (i := 9) (v := ?_) rfl (by kernel_rfl) (by kernel_rfl) (by kernel_rfl) (fun _ _ _ h => h) (by rfl) (fun u hu => ?_) hS ?_
        rotate_left
        · ((obtain ⟨_, hu1, hu2, hu3, hu4⟩ := hu; obtain ⟨c0, c1, _, _⟩ := obj_cells hu1; obtain ⟨c2, c3, _, _⟩ := obj_cells hu2; obtain ⟨c4, c5, _, _⟩ := obj_cells hu3; obtain ⟨c6, c7, _, _⟩ := obj_cells hu4; clear hu1 hu2 hu3 hu4); go_simp; try (with_reducible rfl))
        try simp only [Act.put, List.setIfInBounds_toArray, List.set_cons_zero, List.set_cons_succ]
        refine give_val (i := 10) (v := ?_) rfl (by kernel_rfl) (by kernel_rfl) (by kernel_rfl) (fun _ _ _ h => h) (by rfl) (fun u hu => ?_) hS ?_
        rotate_left
        · ((obtain ⟨_, hu1, hu2, hu3, hu4⟩ := hu; obtain ⟨c0, c1, _, _⟩ := obj_cells hu1; obtain ⟨c2, c3, _, _⟩ := obj_cells hu2; obtain ⟨c4, c5, _, _⟩ := obj_cells hu3; obtain ⟨c6, c7, _, _⟩ := obj_cells hu4; clear hu1 hu2 hu3 hu4); go_simp; try (with_reducible rfl))
        try simp only [Act.put, List.setIfInBounds_toArray, List.set_cons_zero, List.set_cons_succ]
        refine give_val (i := 11) (v := ?_) rfl (by kernel_rfl) (by kernel_rfl) (by kernel_rfl) (fun _ _ _ h => h) (by rfl) (fun u hu => ?_) hS ?_
        rotate_left
        · ((obtain ⟨_, hu1, hu2, hu3, hu4⟩ := hu; obtain ⟨c0, c1, _, _⟩ := obj_cells hu1; obtain ⟨c2, c3, _, _⟩ := obj_cells hu2; obtain ⟨c4, c5, _, _⟩ := obj_cells hu3; obtain ⟨c6, c7, _, _⟩ := obj_cells hu4; clear hu1 hu2 hu3 hu4); go_simp; try (with_reducible rfl))
        try simp only [Act.put, List.setIfInBounds_toArray, List.set_cons_zero, List.set_cons_succ]
        refine only_call (i := 12) 24 #[.agg #[.int .u64 (h' : Int), .int .u64 (l' : Int)], .agg #[.int .u64 (h : Int), .int .u64 (l : Int)]] rfl (by kernel_rfl) (by rfl) ((C5.out _).mono fun e w' he => ⟨he.1, hS.below he.2⟩) ?_ ?_
        · (go_simp; try (with_reducible rfl))
        clear hS
        intro w12 hS
        try simp only [Act.put, List.setIfInBounds_toArray, List.set_cons_zero, List.set_cons_succ]
        refine give_val (i := 13) (v := (.bool true)) rfl (by kernel_rfl) (by kernel_rfl) (by kernel_rfl) (fun _ _ _ h => h) (by rfl) (fun u hu => ?_) hS ?_
        · ((obtain ⟨_, hu1, hu2, hu3, hu4⟩ := hu; obtain ⟨c0, c1, _, _⟩ := obj_cells hu1; obtain ⟨c2, c3, _, _⟩ := obj_cells hu2; obtain ⟨c4, c5, _, _⟩ := obj_cells hu3; obtain ⟨c6, c7, _, _⟩ := obj_cells hu4; clear hu1 hu2 hu3 hu4); go_simp; try simp)
        try simp only [Act.put, List.setIfInBounds_toArray, List.set_cons_zero, List.set_cons_succ]
        refine give_val (i := 14) (v := ?_) rfl (by kernel_rfl) (by kernel_rfl) (by kernel_rfl) (fun _ _ _ h => h) (by rfl) (fun u hu => ?_) hS ?_
        rotate_left
        · ((obtain ⟨_, hu1, hu2, hu3, hu4⟩ := hu; obtain ⟨c0, c1, _, _⟩ := obj_cells hu1; obtain ⟨c2, c3, _, _⟩ := obj_cells hu2; obtain ⟨c4, c5, _, _⟩ := obj_cells hu3; obtain ⟨c6, c7, _, _⟩ := obj_cells hu4; clear hu1 hu2 hu3 hu4); go_simp; try (with_reducible rfl))
        try simp only [Act.put, List.setIfInBounds_toArray, List.set_cons_zero, List.set_cons_succ]
        refine give_val (i := 15) (v := ?_) rfl (by kernel_rfl) (by kernel_rfl) (by kernel_rfl) (fun _ _ _ h => h) (by rfl) (fun u hu => ?_) hS ?_
        rotate_left
        · ((obtain ⟨_, hu1, hu2, hu3, hu4⟩ := hu; obtain ⟨c0, c1, _, _⟩ := obj_cells hu1; obtain ⟨c2, c3, _, _⟩ := obj_cells hu2; obtain ⟨c4, c5, _, _⟩ := obj_cells hu3; obtain ⟨c6, c7, _, _⟩ := obj_cells hu4; clear hu1 hu2 hu3 hu4); go_simp; try (with_reducible rfl))
        try simp only [Act.put, List.setIfInBounds_toArray, List.set_cons_zero, List.set_cons_succ]
        refine give_val (i := 16) (v := ?_) rfl (by kernel_rfl) (by kernel_rfl) (by kernel_rfl) (fun _ _ _ h => h) (by rfl) (fun u hu => ?_) hS ?_
        rotate_left
        · ((obtain ⟨_, hu1, hu2, hu3, hu4⟩ := hu; obtain ⟨c0, c1, _, _⟩ := obj_cells hu1; obtain ⟨c2, c3, _, _⟩ := obj_cells hu2; obtain ⟨c4, c5, _, _⟩ := obj_cells hu3; obtain ⟨c6, c7, _, _⟩ := obj_cells hu4; clear hu1 hu2 hu3 hu4); go_simp; try (with_reducible rfl))
        try simp only [Act.put, List.setIfInBounds_toArray, List.set_cons_zero, List.set_cons_succ]
        refine give_val (i := 17) (v := ?_) rfl (by kernel_rfl) (by kernel_rfl) (by kernel_rfl) (fun _ _ _ h => h) (by rfl) (fun u hu => ?_) hS ?_
        rotate_left
        · ((obtain ⟨_, hu1, hu2, hu3, hu4⟩ := hu; obtain ⟨c0, c1, _, _⟩ := obj_cells hu1; obtain ⟨c2, c3, _, _⟩ := obj_cells hu2; obtain ⟨c4, c5, _, _⟩ := obj_cells hu3; obtain ⟨c6, c7, _, _⟩ := obj_cells hu4; clear hu1 hu2 hu3 hu4); go_simp; try (with_reducible rfl))
        try simp only [Act.put, List.setIfInBounds_toArray, List.set_cons_zero, List.set_cons_succ]
        refine give_val (i := 19) (v := ?_) rfl (by kernel_rfl) (by kernel_rfl) (by kernel_rfl) (fun _ _ _ h => h) (by rfl) (fun u hu => ?_) hS ?_
        rotate_left
        · ((obtain ⟨_, hu1, hu2, hu3, hu4⟩ := hu; obtain ⟨c0, c1, _, _⟩ := obj_cells hu1; obtain ⟨c2, c3, _, _⟩ := obj_cells hu2; obtain ⟨c4, c5, _, _⟩ := obj_cells hu3; obtain ⟨c6, c7, _, _⟩ := obj_cells hu4; clear hu1 hu2 hu3 hu4); go_simp; try (with_reducible rfl))
        try simp only [Act.put, List.setIfInBounds_toArray, List.set_cons_zero, List.set_cons_succ]
        refine give_val (i := 20) (v := ?_) rfl (by kernel_rfl) (by kernel_rfl) (by kernel_rfl) (fun _ _ _ h => h) (by rfl) (fun u hu => ?_) hS ?_
        rotate_left
        · ((obtain ⟨_, hu1, hu2, hu3, hu4⟩ := hu; obtain ⟨c0, c1, _, _⟩ := obj_cells hu1; obtain ⟨c2, c3, _, _⟩ := obj_cells hu2; obtain ⟨c4, c5, _, _⟩ := obj_cells hu3; obtain ⟨c6, c7, _, _⟩ := obj_cells hu4; clear hu1 hu2 hu3 hu4); go_simp; try (with_reducible rfl))
        try simp only [Act.put, List.setIfInBounds_toArray, List.set_cons_zero, List.set_cons_succ]
        refine only_call (i := 18) 13 #[.agg #[.int .u64 (x : Int), .int .u64 (x' : Int)], .int .i64 n] rfl (by kernel_rfl) (by rfl) ((CX.out _).mono fun e w' he => ⟨he.1, hS.below he.2⟩) ?_ ?_
        · (go_simp; try (with_reducible rfl))
        clear hS
        intro w18 hS
        try simp only [Act.put, List.setIfInBounds_toArray, List.set_cons_zero, List.set_cons_succ]
        refine only_call (i := 21) 13 #[.agg #[.int .u64 (h : Int), .int .u64 (l : Int)], .int .i64 n] rfl (by kernel_rfl) (by rfl) ((CS.out _).mono fun e w' he => ⟨he.1, hS.below he.2⟩) ?_ ?_
        · (go_simp; try (with_reducible rfl))
        clear hS
        intro w21 hS
        try simp only [Act.put, List.setIfInBounds_toArray, List.set_cons_zero, List.set_cons_succ]
        refine give_val (i := 22) (v := ?_) rfl (by kernel_rfl) (by kernel_rfl) (by kernel_rfl) (fun _ _ _ h => h) (by rfl) (fun u hu => ?_) hS ?_
        rotate_left
        · ((obtain ⟨_, hu1, hu2, hu3, hu4⟩ := hu; obtain ⟨c0, c1, _, _⟩ := obj_cells hu1; obtain ⟨c2, c3, _, _⟩ := obj_cells hu2; obtain ⟨c4, c5, _, _⟩ := obj_cells hu3; obtain ⟨c6, c7, _, _⟩ := obj_cells hu4; clear hu1 hu2 hu3 hu4); go_simp; try (with_reducible rfl))
        try simp only [Act.put, List.setIfInBounds_toArray, List.set_cons_zero, List.set_cons_succ]
        refine give_val (i := 23) (v := ?_) rfl (by kernel_rfl) (by kernel_rfl) (by kernel_rfl) (fun _ _ _ h => h) (by rfl) (fun u hu => ?_) hS ?_
        rotate_left
        · ((obtain ⟨_, hu1, hu2, hu3, hu4⟩ := hu; obtain ⟨c0, c1, _, _⟩ := obj_cells hu1; obtain ⟨c2, c3, _, _⟩ := obj_cells hu2; obtain ⟨c4, c5, _, _⟩ := obj_cells hu3; obtain ⟨c6, c7, _, _⟩ := obj_cells hu4; clear hu1 hu2 hu3 hu4); go_simp; try (with_reducible rfl))
        try simp only [Act.put, List.setIfInBounds_toArray, List.set_cons_zero, List.set_cons_succ]
        refine give_val (i := 24) (v := ?_) rfl (by kernel_rfl) (by kernel_rfl) (by kernel_rfl) (fun _ _ _ h => h) (by rfl) (fun u hu => ?_) hS ?_
        rotate_left
        · ((obtain ⟨_, hu1, hu2, hu3, hu4⟩ := hu; obtain ⟨c0, c1, _, _⟩ := obj_cells hu1; obtain ⟨c2, c3, _, _⟩ := obj_cells hu2; obtain ⟨c4, c5, _, _⟩ := obj_cells hu3; obtain ⟨c6, c7, _, _⟩ := obj_cells hu4; clear hu1 hu2 hu3 hu4); go_simp; try (with_reducible rfl))
        try simp only [Act.put, List.setIfInBounds_toArray, List.set_cons_zero, List.set_cons_succ]
        refine only_call (i := 25) 13 #[.agg #[.int .u64 (h' : Int), .int .u64 (l' : Int)], .int .i64 n] rfl (by kernel_rfl) (by rfl) ((CT.out _).mono fun e w' he => ⟨he.1, hS.below he.2⟩) ?_ ?_
        · (go_simp; try (with_reducible rfl))
        clear hS
        intro w25 hS
        try simp only [Act.put, List.setIfInBounds_toArray, List.set_cons_zero, List.set_cons_succ]
        refine give_val (i := 26) (v := ?_) rfl (by kernel_rfl) (by kernel_rfl) (by kernel_rfl) (fun _ _ _ h => h) (by rfl) (fun u hu => ?_) hS ?_
        rotate_left
        · ((obtain ⟨_, hu1, hu2, hu3, hu4⟩ := hu; obtain ⟨c0, c1, _, _⟩ := obj_cells hu1; obtain ⟨c2, c3, _, _⟩ := obj_cells hu2; obtain ⟨c4, c5, _, _⟩ := obj_cells hu3; obtain ⟨c6, c7, _, _⟩ := obj_cells hu4; clear hu1 hu2 hu3 hu4); go_simp; try (with_reducible rfl))
        try simp only [Act.put, List.setIfInBounds_toArray, List.set_cons_zero, List.set_cons_succ]
        refine give_val (i := 27) (v := (.bool true)) rfl (by kernel_rfl) (by kernel_rfl) (by kernel_rfl) (fun _ _ _ h => h) (by rfl) (fun u hu => ?_) hS ?_
        · ((obtain ⟨_, hu1, hu2, hu3, hu4⟩ := hu; obtain ⟨c0, c1, _, _⟩ := obj_cells hu1; obtain ⟨c2, c3, _, _⟩ := obj_cells hu2; obtain ⟨c4, c5, _, _⟩ := obj_cells hu3; obtain ⟨c6, c7, _, _⟩ := obj_cells hu4; clear hu1 hu2 hu3 hu4); go_simp; try simp)
        try simp only [Act.put, List.setIfInBounds_toArray, List.set_cons_zero, List.set_cons_succ]
        refine give_val (i := 28) (v := ?_) rfl (by kernel_rfl) (by kernel_rfl) (by kernel_rfl) (fun _ _ _ h => h) (by rfl) (fun u hu => ?_) hS ?_
        rotate_left
        · ((obtain ⟨_, hu1, hu2, hu3, hu4⟩ := hu; obtain ⟨c0, c1, _, _⟩ := obj_cells hu1; obtain ⟨c2, c3, _, _⟩ := obj_cells hu2; obtain ⟨c4, c5, _, _⟩ := obj_cells hu3; obtain ⟨c6, c7, _, _⟩ := obj_cells hu4; clear hu1 hu2 hu3 hu4); go_simp; try (with_reducible rfl))
        try simp only [Act.put, List.setIfInBounds_toArray, List.set_cons_zero, List.set_cons_succ]
        refine give_val (i := 29) (v := ?_) rfl (by kernel_rfl) (by kernel_rfl) (by kernel_rfl) (fun _ _ _ h => h) (by rfl) (fun u hu => ?_) hS ?_
        rotate_left
        · ((obtain ⟨_, hu1, hu2, hu3, hu4⟩ := hu; obtain ⟨c0, c1, _, _⟩ := obj_cells hu1; obtain ⟨c2, c3, _, _⟩ := obj_cells hu2; obtain ⟨c4, c5, _, _⟩ := obj_cells hu3; obtain ⟨c6, c7, _, _⟩ := obj_cells hu4; clear hu1 hu2 hu3 hu4); go_simp; try (with_reducible rfl))
        try simp only [Act.put, List.setIfInBounds_toArray, List.set_cons_zero, List.set_cons_succ]
        refine give_val (i := 30) (v := ?_) rfl (by kernel_rfl) (by kernel_rfl) (by kernel_rfl) (fun _ _ _ h => h) (by rfl) (fun u hu => ?_) hS ?_
        rotate_left
        · ((obtain ⟨_, hu1, hu2, hu3, hu4⟩ := hu; obtain ⟨c0, c1, _, _⟩ := obj_cells hu1; obtain ⟨c2, c3, _, _⟩ := obj_cells hu2; obtain ⟨c4, c5, _, _⟩ := obj_cells hu3; obtain ⟨c6, c7, _, _⟩ := obj_cells hu4; clear hu1 hu2 hu3 hu4); go_simp; try (with_reducible rfl))
        try simp only [Act.put, List.setIfInBounds_toArray, List.set_cons_zero, List.set_cons_succ]
        refine give_val (i := 31) (v := ?_) rfl (by kernel_rfl) (by kernel_rfl) (by kernel_rfl) (fun _ _ _ h => h) (by rfl) (fun u hu => ?_) hS ?_
        rotate_left
        · ((obtain ⟨_, hu1, hu2, hu3, hu4⟩ := hu; obtain ⟨c0, c1, _, _⟩ := obj_cells hu1; obtain ⟨c2, c3, _, _⟩ := obj_cells hu2; obtain ⟨c4, c5, _, _⟩ := obj_cells hu3; obtain ⟨c6, c7, _, _⟩ := obj_cells hu4; clear hu1 hu2 hu3 hu4); go_simp; try (with_reducible rfl))
        try simp only [Act.put, List.setIfInBounds_toArray, List.set_cons_zero, List.set_cons_succ]
        refine give_val (i := 33) (v := ?_) rfl (by kernel_rfl) (by kernel_rfl) (by kernel_rfl) (fun _ _ _ h => h) (by rfl) (fun u hu => ?_) hS ?_
        rotate_left
        · ((obtain ⟨_, hu1, hu2, hu3, hu4⟩ := hu; obtain ⟨c0, c1, _, _⟩ := obj_cells hu1; obtain ⟨c2, c3, _, _⟩ := obj_cells hu2; obtain ⟨c4, c5, _, _⟩ := obj_cells hu3; obtain ⟨c6, c7, _, _⟩ := obj_cells hu4; clear hu1 hu2 hu3 hu4); go_simp; try (with_reducible rfl))
        try simp only [Act.put, List.setIfInBounds_toArray, List.set_cons_zero, List.set_cons_succ]
        refine give_val (i := 34) (v := ?_) rfl (by kernel_rfl) (by kernel_rfl) (by kernel_rfl) (fun _ _ _ h => h) (by rfl) (fun u hu => ?_) hS ?_
        rotate_left
        · ((obtain ⟨_, hu1, hu2, hu3, hu4⟩ := hu; obtain ⟨c0, c1, _, _⟩ := obj_cells hu1; obtain ⟨c2, c3, _, _⟩ := obj_cells hu2; obtain ⟨c4, c5, _, _⟩ := obj_cells hu3; obtain ⟨c6, c7, _, _⟩ := obj_cells hu4; clear hu1 hu2 hu3 hu4); go_simp; try (with_reducible rfl))
        try simp only [Act.put, List.setIfInBounds_toArray, List.set_cons_zero, List.set_cons_succ]
        refine only_call (i := 32) 13 #[.agg #[.int .u64 (y : Int), .int .u64 (y' : Int)], .int .i64 n] rfl (by kernel_rfl) (by rfl) ((CY.out _).mono fun e w' he => ⟨he.1, hS.below he.2⟩) ?_ ?_
        · (go_simp; try (with_reducible rfl))
        clear hS
        intro w32 hS
        try simp only [Act.put, List.setIfInBounds_toArray, List.set_cons_zero, List.set_cons_succ]
        refine only_call (i := 35) 13 #[.agg #[.int .u64 (h : Int), .int .u64 (l : Int)], .int .i64 n] rfl (by kernel_rfl) (by rfl) ((CS.out _).mono fun e w' he => ⟨he.1, hS.below he.2⟩) ?_ ?_
        · (go_simp; try (with_reducible rfl))
        clear hS
        intro w35 hS
        try simp only [Act.put, List.setIfInBounds_toArray, List.set_cons_zero, List.set_cons_succ]
        refine give_val (i := 36) (v := ?_) rfl (by kernel_rfl) (by kernel_rfl) (by kernel_rfl) (fun _ _ _ h => h) (by rfl) (fun u hu => ?_) hS ?_
        rotate_left
        · ((obtain ⟨_, hu1, hu2, hu3, hu4⟩ := hu; obtain ⟨c0, c1, _, _⟩ := obj_cells hu1; obtain ⟨c2, c3, _, _⟩ := obj_cells hu2; obtain ⟨c4, c5, _, _⟩ := obj_cells hu3; obtain ⟨c6, c7, _, _⟩ := obj_cells hu4; clear hu1 hu2 hu3 hu4); go_simp; try (with_reducible rfl))
        try simp only [Act.put, List.setIfInBounds_toArray, List.set_cons_zero, List.set_cons_succ]
        refine give_skip (i := 37) rfl (by kernel_rfl) (by kernel_rfl) (by kernel_rfl) (fun _ _ _ h => h) (by rfl) hS ?_
        try simp only [Act.put, List.setIfInBounds_toArray, List.set_cons_zero, List.set_cons_succ]
        refine give_skip (i := 38) rfl (by kernel_rfl) (by kernel_rfl) (by kernel_rfl) (fun _ _ _ h => h) (by rfl) hS ?_
        try simp only [Act.put, List.setIfInBounds_toArray, List.set_cons_zero, List.set_cons_succ]
        refine give_skip (i := 39) rfl (by kernel_rfl) (by kernel_rfl) (by kernel_rfl) (fun _ _ _ h => h) (by rfl) hS ?_
        try simp only [Act.put, List.setIfInBounds_toArray, List.set_cons_zero, List.set_cons_succ]
        refine give_val (i := 40) (v := ?_) rfl (by kernel_rfl) (by kernel_rfl) (by kernel_rfl) (fun _ _ _ h => h) (by rfl) (fun u hu => ?_) hS ?_
        rotate_left
        · ((obtain ⟨_, hu1, hu2, hu3, hu4⟩ := hu; obtain ⟨c0, c1, _, _⟩ := obj_cells hu1; obtain ⟨c2, c3, _, _⟩ := obj_cells hu2; obtain ⟨c4, c5, _, _⟩ := obj_cells hu3; obtain ⟨c6, c7, _, _⟩ := obj_cells hu4; clear hu1 hu2 hu3 hu4); go_simp; try (with_reducible rfl))
        try simp only [Act.put, List.setIfInBounds_toArray, List.set_cons_zero, List.set_cons_succ]
        refine give_val (i := 41) (v := (.bool true)) rfl (by kernel_rfl) (by kernel_rfl) (by kernel_rfl) (fun _ _ _ h => h) (by rfl) (fun u hu => ?_) hS ?_
        · ((obtain ⟨_, hu1, hu2, hu3, hu4⟩ := hu; obtain ⟨c0, c1, _, _⟩ := obj_cells hu1; obtain ⟨c2, c3, _, _⟩ := obj_cells hu2; obtain ⟨c4, c5, _, _⟩ := obj_cells hu3; obtain ⟨c6, c7, _, _⟩ := obj_cells hu4; clear hu1 hu2 hu3 hu4); go_simp; try simp)
        try simp only [Act.put, List.setIfInBounds_toArray, List.set_cons_zero, List.set_cons_succ]
        refine give_val (i := 42) (v := ?_) rfl (by kernel_rfl) (by kernel_rfl) (by kernel_rfl) (fun _ _ _ h => h) (by rfl) (fun u hu => ?_) hS ?_
        rotate_left
        · ((obtain ⟨_, hu1, hu2, hu3, hu4⟩ := hu; obtain ⟨c0, c1, _, _⟩ := obj_cells hu1; obtain ⟨c2, c3, _, _⟩ := obj_cells hu2; obtain ⟨c4, c5, _, _⟩ := obj_cells hu3; obtain ⟨c6, c7, _, _⟩ := obj_cells hu4; clear hu1 hu2 hu3 hu4); go_simp; try (with_reducible rfl))
        try simp only [Act.put, List.setIfInBounds_toArray, List.set_cons_zero, List.set_cons_succ]
        refine give_val (i := 43) (v := ?_) rfl (by kernel_rfl) (by kernel_rfl) (by kernel_rfl) (fun _ _ _ h => h) (by rfl) (fun u hu => ?_) hS ?_
        rotate_left
        · ((obtain ⟨_, hu1, hu2, hu3, hu4⟩ := hu; obtain ⟨c0, c1, _, _⟩ := obj_cells hu1; obtain ⟨c2, c3, _, _⟩ := obj_cells hu2; obtain ⟨c4, c5, _, _⟩ := obj_cells hu3; obtain ⟨c6, c7, _, _⟩ := obj_cells hu4; clear hu1 hu2 hu3 hu4); go_simp; try (with_reducible rfl))
        try simp only [Act.put, List.setIfInBounds_toArray, List.set_cons_zero, List.set_cons_succ]
        refine give_val (i := 44) (v := ?_) rfl (by kernel_rfl) (by kernel_rfl) (by kernel_rfl) (fun _ _ _ h => h) (by rfl) (fun u hu => ?_) hS ?_
        rotate_left
        · ((obtain ⟨_, hu1, hu2, hu3, hu4⟩ := hu; obtain ⟨c0, c1, _, _⟩ := obj_cells hu1; obtain ⟨c2, c3, _, _⟩ := obj_cells hu2; obtain ⟨c4, c5, _, _⟩ := obj_cells hu3; obtain ⟨c6, c7, _, _⟩ := obj_cells hu4; clear hu1 hu2 hu3 hu4); go_simp; try (with_reducible rfl))
        try simp only [Act.put, List.setIfInBounds_toArray, List.set_cons_zero, List.set_cons_succ]
        refine give_val (i := 46) (v := ?_) rfl (by kernel_rfl) (by kernel_rfl) (by kernel_rfl) (fun _ _ _ h => h) (by rfl) (fun u hu => ?_) hS ?_
        rotate_left
        · ((obtain ⟨_, hu1, hu2, hu3, hu4⟩ := hu; obtain ⟨c0, c1, _, _⟩ := obj_cells hu1; obtain ⟨c2, c3, _, _⟩ := obj_cells hu2; obtain ⟨c4, c5, _, _⟩ := obj_cells hu3; obtain ⟨c6, c7, _, _⟩ := obj_cells hu4; clear hu1 hu2 hu3 hu4); go_simp; try (with_reducible rfl))
        try simp only [Act.put, List.setIfInBounds_toArray, List.set_cons_zero, List.set_cons_succ]
        refine give_val (i := 49) (v := ?_) rfl (by kernel_rfl) (by kernel_rfl) (by kernel_rfl) (fun _ _ _ h => h) (by rfl) (fun u hu => ?_) hS ?_
        rotate_left
        · ((obtain ⟨_, hu1, hu2, hu3, hu4⟩ := hu; obtain ⟨c0, c1, _, _⟩ := obj_cells hu1; obtain ⟨c2, c3, _, _⟩ := obj_cells hu2; obtain ⟨c4, c5, _, _⟩ := obj_cells hu3; obtain ⟨c6, c7, _, _⟩ := obj_cells hu4; clear hu1 hu2 hu3 hu4); go_simp; try (with_reducible rfl))
        try simp only [Act.put, List.setIfInBounds_toArray, List.set_cons_zero, List.set_cons_succ]
        refine give_val (i := 51) (v := ?_) rfl (by kernel_rfl) (by kernel_rfl) (by kernel_rfl) (fun _ _ _ h => h) (by rfl) (fun u hu => ?_) hS ?_
        rotate_left
        · ((obtain ⟨_, hu1, hu2, hu3, hu4⟩ := hu; obtain ⟨c0, c1, _, _⟩ := obj_cells hu1; obtain ⟨c2, c3, _, _⟩ := obj_cells hu2; obtain ⟨c4, c5, _, _⟩ := obj_cells hu3; obtain ⟨c6, c7, _, _⟩ := obj_cells hu4; clear hu1 hu2 hu3 hu4); go_simp; try (with_reducible rfl))
        try simp only [Act.put, List.setIfInBounds_toArray, List.set_cons_zero, List.set_cons_succ]
        refine only_call (i := 45) 15 #[.agg #[.int .u64 (x : Int), .int .u64 (x' : Int)]] rfl (by kernel_rfl) (by rfl) ((LX.out _).mono fun e w' he => ⟨he.1, hS.below he.2⟩) ?_ ?_
        · (go_simp; try (with_reducible rfl))
        clear hS
        intro w45 hS
        try simp only [Act.put, List.setIfInBounds_toArray, List.set_cons_zero, List.set_cons_succ]
        refine only_call (i := 47) 15 #[.agg #[.int .u64 (y : Int), .int .u64 (y' : Int)]] rfl (by kernel_rfl) (by rfl) ((LY.out _).mono fun e w' he => ⟨he.1, hS.below he.2⟩) ?_ ?_
        · (go_simp; try (with_reducible rfl))
        clear hS
        intro w47 hS
        try simp only [Act.put, List.setIfInBounds_toArray, List.set_cons_zero, List.set_cons_succ]
        refine give_val (i := 48) (v := (.int .i64 ((ls : Int) + (lt : Int)))) rfl (by kernel_rfl) (by kernel_rfl) (by kernel_rfl) (fun _ _ _ h => h) (by rfl) (fun u hu => ?_) hS ?_
        · ((obtain ⟨_, hu1, hu2, hu3, hu4⟩ := hu; obtain ⟨c0, c1, _, _⟩ := obj_cells hu1; obtain ⟨c2, c3, _, _⟩ := obj_cells hu2; obtain ⟨c4, c5, _, _⟩ := obj_cells hu3; obtain ⟨c6, c7, _, _⟩ := obj_cells hu4; clear hu1 hu2 hu3 hu4); go_simp; ((try simp); rw [IntWalk.i64_in _ (by omega)]; have := HSUM.out; omega))
        try simp only [Act.put, List.setIfInBounds_toArray, List.set_cons_zero, List.set_cons_succ]
        refine only_call (i := 50) 15 #[.agg #[.int .u64 (h : Int), .int .u64 (l : Int)]] rfl (by kernel_rfl) (by rfl) ((LS.out _).mono fun e w' he => ⟨he.1, hS.below he.2⟩) ?_ ?_
        · (go_simp; try (with_reducible rfl))
        clear hS
        intro w50 hS
        try simp only [Act.put, List.setIfInBounds_toArray, List.set_cons_zero, List.set_cons_succ]
        refine only_call (i := 52) 15 #[.agg #[.int .u64 (h' : Int), .int .u64 (l' : Int)]] rfl (by kernel_rfl) (by rfl) ((LT.out _).mono fun e w' he => ⟨he.1, hS.below he.2⟩) ?_ ?_
        · (go_simp; try (with_reducible rfl))
        clear hS
        intro w52 hS
        try simp only [Act.put, List.setIfInBounds_toArray, List.set_cons_zero, List.set_cons_succ]
        refine give_val (i := 53) (v := (.int .i64 ((ls : Int) + (lt : Int)))) rfl (by kernel_rfl) (by kernel_rfl) (by kernel_rfl) (fun _ _ _ h => h) (by rfl) (fun u hu => ?_) hS ?_
        · ((obtain ⟨_, hu1, hu2, hu3, hu4⟩ := hu; obtain ⟨c0, c1, _, _⟩ := obj_cells hu1; obtain ⟨c2, c3, _, _⟩ := obj_cells hu2; obtain ⟨c4, c5, _, _⟩ := obj_cells hu3; obtain ⟨c6, c7, _, _⟩ := obj_cells hu4; clear hu1 hu2 hu3 hu4); go_simp; ((try simp); exact IntWalk.i64_in _ (by omega)))
        try simp only [Act.put, List.setIfInBounds_toArray, List.set_cons_zero, List.set_cons_succ]
        refine give_val (i := 54) (v := (.bool true)) rfl (by kernel_rfl) (by kernel_rfl) (by kernel_rfl) (fun _ _ _ h => h) (by rfl) (fun u hu => ?_) hS ?_
        · ((obtain ⟨_, hu1, hu2, hu3, hu4⟩ := hu; obtain ⟨c0, c1, _, _⟩ := obj_cells hu1; obtain ⟨c2, c3, _, _⟩ := obj_cells hu2; obtain ⟨c4, c5, _, _⟩ := obj_cells hu3; obtain ⟨c6, c7, _, _⟩ := obj_cells hu4; clear hu1 hu2 hu3 hu4); go_simp; try simp)
        try simp only [Act.put, List.setIfInBounds_toArray, List.set_cons_zero, List.set_cons_succ]
        refine give_val (i := 55) (v := ?_) rfl (by kernel_rfl) (by kernel_rfl) (by kernel_rfl) (fun _ _ _ h => h) (by rfl) (fun u hu => ?_) hS ?_
        rotate_left
        · ((obtain ⟨_, hu1, hu2, hu3, hu4⟩ := hu; obtain ⟨c0, c1, _, _⟩ := obj_cells hu1; obtain ⟨c2, c3, _, _⟩ := obj_cells hu2; obtain ⟨c4, c5, _, _⟩ := obj_cells hu3; obtain ⟨c6, c7, _, _⟩ := obj_cells hu4; clear hu1 hu2 hu3 hu4); go_simp; try (with_reducible rfl))
        try simp only [Act.put, List.setIfInBounds_toArray, List.set_cons_zero, List.set_cons_succ]
        refine give_val (i := 56) (v := ?_) rfl (by kernel_rfl) (by kernel_rfl) (by kernel_rfl) (fun _ _ _ h => h) (by rfl) (fun u hu => ?_) hS ?_
        rotate_left
        · ((obtain ⟨_, hu1, hu2, hu3, hu4⟩ := hu; obtain ⟨c0, c1, _, _⟩ := obj_cells hu1; obtain ⟨c2, c3, _, _⟩ := obj_cells hu2; obtain ⟨c4, c5, _, _⟩ := obj_cells hu3; obtain ⟨c6, c7, _, _⟩ := obj_cells hu4; clear hu1 hu2 hu3 hu4); go_simp; try (with_reducible rfl))
        try simp only [Act.put, List.setIfInBounds_toArray, List.set_cons_zero, List.set_cons_succ]
        refine wpAnyH_done (by kernel_rfl) (NoPanic.normal ?_) _
        go_wp2
        go_ret
        exact ⟨rfl, hS.1⟩

theorem fieldsJoin_walk (a b c d n : Int) (w : World) (h1 : 0 ≤ a) (h2 : a ≤ 18446744073709551615) (h3 : 0 ≤ b) (h4 : b ≤ 18446744073709551615)
    (h5 : 0 ≤ c) (h6 : c ≤ 18446744073709551615) (h7 : 0 ≤ d) (h8 : d ≤ 18446744073709551615) (_h9 : -9223372036854775808 ≤ n) (_h10 : n ≤ 9223372036854775807) :
    Calls Try.prog 6 #[.agg #[.int .u64 a, .int .u64 b], .agg #[.int .u64 c, .int .u64 d], .int .i64 n] w fun e w' => e = .returned (.bool true) ∧ Below w.heap.size w w' := by
  obtain ⟨x, rfl⟩ := Int.eq_ofNat_of_zero_le h1
  obtain ⟨y, rfl⟩ := Int.eq_ofNat_of_zero_le h3
  obtain ⟨x', rfl⟩ := Int.eq_ofNat_of_zero_le h5
  obtain ⟨y', rfl⟩ := Int.eq_ofNat_of_zero_le h7
  exact join_law x y x' y' n w (show x < 18446744073709551616 by omega) (show y < 18446744073709551616 by omega) (show x' < 18446744073709551616 by omega) (show y' < 18446744073709551616 by omega)

end Go.Proofs.Ytlclmhninhdfnaa
