/-
  The answers that the document fixes: in every world.
-/
import Derived.Test.YtiifkcemieblkaaSchCheck
import Derived.Test.YtiifkcemieblkaaSchFind
import Derived.Test.YtiifkcemieblkaaSchCopy
import Derived.Test.YtiifkcemieblkaaSchSame
import Derived.Test.YtiifkcemieblkaaFldOf
import Derived.Deep.DeepCutAuto
namespace Go.Proofs.Ytiifkcemieblkaa
open Go.RowKit

abbrev awA : Sp := (2, 1, 1, 3, 3)
abbrev awB : Sp := (4, 1, 1, 3, 3)
abbrev awC : Sp := (3, 1, 1, 3, 3)
abbrev awL : List Sp := [awA, awB, awC]
abbrev awR : List Sp := [awA, awC]

/-- What stands in the blocks: the second and the third spec, the schema of all three, and its list. -/
def Aw (w : World) (p q g : Nat) (A : Option Addr) (u : World) : Prop :=
  Below w.heap.size w u ∧ u.heap[p]? = some (.cells #[.int .i64 4, .int .i64 1, .int .i64 1, .int .i64 3, .int .i64 3] 34) ∧ u.heap[q]? = some (.cells #[.int .i64 3, .int .i64 1, .int .i64 1, .int .i64 3, .int .i64 3] 34) ∧ Box u g 1 1 A 3 3 ∧ Spl u A awL
theorem Aw.below {w : World} {p q g : Nat} {A : Option Addr} {u u' : World} (h : Aw w p q g A u) (hb : Below u.heap.size u u') : Aw w p q g A u' :=
  ⟨hbt h.1 hb, obj_below h.2.1 hb, obj_below h.2.2.1 hb, h.2.2.2.1.below hb, h.2.2.2.2.below hb⟩
theorem aw_check (A : Option Addr) (W : World) (h : Spl W A awL) : Calls Try.prog 9 #[.agg #[.int .i64 1, .int .i64 1, .slice A 3 3]] W fun e w' => e = .returned (.tuple #[.int .i64 11, .int .i64 2]) ∧ Below W.heap.size W w' := by
  have := schk_any 1 1 A 3 awL W h (by simp)
  rw [show schN 1 1 awL = (11, 2) by decide +kernel] at this
  exact this
theorem aw_check2 (W : World) : Calls Try.prog 9 #[.agg #[.int .i64 2, .int .i64 10, .slice none 0 0]] W fun e w' => e = .returned (.tuple #[.int .i64 7, .int .i64 (-1)]) ∧ Below W.heap.size W w' := by
  have := schk_any 2 10 none 0 [] W (spl_nil _ _) (by simp)
  rw [show schN 2 10 [] = (7, -1) by decide +kernel] at this
  exact this
theorem aw_find (A : Option Addr) (W : World) (h : Spl W A awL) : Calls Try.prog 12 #[.agg #[.int .i64 1, .int .i64 1, .slice A 3 3], .int .i64 4] W fun e w' => e = .returned (.tuple #[.agg #[.int .i64 4, .int .i64 1, .int .i64 1, .int .i64 3, .int .i64 3], .bool true]) ∧ Below W.heap.size W w' := by
  have := sfind_any 1 1 A 3 awL 4 W h (by simp)
  rw [show fndP 4 awL = (awB, true) by decide +kernel] at this
  exact this
theorem aw_of32 (W : World) (p : Nat) (h : W.heap[p]? = some (.cells #[.int .i64 3, .int .i64 2] 3)) : Calls Try.prog 24 #[.slice (some ⟨p, 0, none⟩) 2 2] W fun e w' => e = .returned (.agg #[.int .u64 6917529027641081856, .int .u64 0]) ∧ Below W.heap.size W w' := by
  have hI : Ints W (some ⟨p, 0, none⟩) [3, 2] := by
    intro i hi
    refine ⟨_, rfl, ?_⟩
    rw [show (⟨p, 0, none⟩ : Addr).add i = ⟨p, i, none⟩ from by rw [Addr.add_lit, Nat.zero_add], cell_of_row _ _ i _ _ _ h]
    match i, hi with
    | 0, _ => rfl
    | 1, _ => rfl
  have := of_any (some ⟨p, 0, none⟩) 2 [3, 2] W hI (by simp)
  rw [show ofH [3, 2] = 6917529027641081856 by decide +kernel, show ofL [3, 2] = 0 by decide +kernel] at this
  exact this
theorem aw_of234 (W : World) (p : Nat) (h : W.heap[p]? = some (.cells #[.int .i64 2, .int .i64 3, .int .i64 4] 3)) : Calls Try.prog 24 #[.slice (some ⟨p, 0, none⟩) 3 3] W fun e w' => e = .returned (.agg #[.int .u64 8070450532247928832, .int .u64 0]) ∧ Below W.heap.size W w' := by
  have hI : Ints W (some ⟨p, 0, none⟩) [2, 3, 4] := by
    intro i hi
    refine ⟨_, rfl, ?_⟩
    rw [show (⟨p, 0, none⟩ : Addr).add i = ⟨p, i, none⟩ from by rw [Addr.add_lit, Nat.zero_add], cell_of_row _ _ i _ _ _ h]
    match i, hi with
    | 0, _ => rfl
    | 1, _ => rfl
    | 2, _ => rfl
  have := of_any (some ⟨p, 0, none⟩) 3 [2, 3, 4] W hI (by simp)
  rw [show ofH [2, 3, 4] = 8070450532247928832 by decide +kernel, show ofL [2, 3, 4] = 0 by decide +kernel] at this
  exact this
theorem aw_restrict (A : Option Addr) (W : World) (h : Spl W A awL) : Calls Try.prog 18 #[.agg #[.int .i64 1, .int .i64 1, .slice A 3 3], .agg #[.int .u64 6917529027641081856, .int .u64 0]] W fun e w' => ∃ v, e = .returned v ∧ ∃ A' c', v = .agg #[.int .i64 1, .int .i64 1, .slice A' 2 c'] ∧ Spl w' A' awR ∧ Below W.heap.size W w' := by
  have := srestrict_any 1 1 A 3 awL 6917529027641081856 0 W h (by simp) (by decide) (by decide)
  rw [show keepL 6917529027641081856 0 awL = awR by decide +kernel] at this
  exact this.mono fun e w' ⟨A', c', he, ht, hb⟩ => ⟨_, he, A', c', rfl, ht, hb⟩
theorem aw_set (A : Option Addr) (W : World) (h : Spl W A awL) : Calls Try.prog 16 #[.agg #[.int .i64 1, .int .i64 1, .slice A 3 3]] W fun e w' => e = .returned (.agg #[.int .u64 8070450532247928832, .int .u64 0]) ∧ Below W.heap.size W w' := by
  have := sset_any 1 1 A 3 awL W h (by simp)
  rw [show ofH (nosOf awL) = 8070450532247928832 by decide +kernel, show ofL (nosOf awL) = 0 by decide +kernel] at this
  exact this
theorem aw_copy (A : Option Addr) (W : World) (h : Spl W A awL) : Calls Try.prog 10 #[.agg #[.int .i64 1, .int .i64 1, .slice A 3 3]] W fun e w' => ∃ v, e = .returned v ∧ ∃ A' c', v = .agg #[.int .i64 1, .int .i64 1, .slice A' 3 c'] ∧ Spl w' A' awL ∧ Below W.heap.size W w' :=
  (scopy_any 1 1 A 3 awL W h (by simp)).mono fun e w' ⟨A', c', he, ht, hb⟩ => ⟨_, he, A', c', rfl, ht, hb⟩
theorem aw_same1 (A B : Option Addr) (c : Nat) (W : World) (h : Spl W A awL) (k : Spl W B awL) : Calls Try.prog 23 #[.agg #[.int .i64 1, .int .i64 1, .slice A 3 3], .agg #[.int .i64 1, .int .i64 1, .slice B 3 c]] W fun e w' => e = .returned (.bool true) ∧ Below W.heap.size W w' := by
  have := ssame_any 1 1 A 3 awL 1 1 B c awL W h k (by simp) (by simp)
  rw [same_refl] at this
  exact this
theorem aw_same2 (A B : Option Addr) (c : Nat) (W : World) (h : Spl W A awL) (k : Spl W B awR) : Calls Try.prog 23 #[.agg #[.int .i64 1, .int .i64 1, .slice A 3 3], .agg #[.int .i64 1, .int .i64 1, .slice B 2 c]] W fun e w' => e = .returned (.bool false) ∧ Below W.heap.size W w' := by
  have := ssame_any 1 1 A 3 awL 1 1 B c awR W h k (by simp) (by simp)
  rw [show sameS 1 1 awL 1 1 awR = false by decide +kernel] at this
  exact this

theorem aw_second {u : World} {R : Option Addr} (h : Spl u R awR) : ∃ a, R = some a ∧ u.cell? ⟨a.block, a.off + 5, none⟩ = some (.int .i64 3) ∧ u.cell? ⟨a.block, a.off + 5 + 1, none⟩ = some (.int .i64 1) ∧ u.cell? ⟨a.block, a.off + 5 + 2, none⟩ = some (.int .i64 1) ∧ u.cell? ⟨a.block, a.off + 5 + 3, none⟩ = some (.int .i64 3) ∧ u.cell? ⟨a.block, a.off + 5 + 4, none⟩ = some (.int .i64 3) := by
  obtain ⟨a, ha, hc⟩ := h 1 (by simp)
  rw [show a.add (1 * 5) = ⟨a.block, a.off + 5, none⟩ from by simp [Addr.add]] at hc
  exact ⟨a, ha, hc⟩

set_option maxRecDepth 100000 in
set_option maxHeartbeats 12800000 in
theorem scawake_any (w : World) : Calls Try.prog 8 #[] w fun e w' => e = .returned (.bool true) ∧ Below w.heap.size w w' := by
  have HB1 := Lib.hid (below_al w (.cells #[.int .i64 2, .int .i64 1, .int .i64 1, .int .i64 3, .int .i64 3] 34))
  have HA1 := Lib.hid (heap_alloc_new w (.cells #[.int .i64 2, .int .i64 1, .int .i64 1, .int .i64 3, .int .i64 3] 34))
  go_enter Try.func8, Try.ntmps8
  go_upto_region 2 with fail
  generalize w.alloc (.cells #[.int .i64 2, .int .i64 1, .int .i64 1, .int .i64 3, .int .i64 3] 34) = W1 at *
  go_cut [2, 3] (fun s2 s3 wx => ∃ p q : Nat, s2 = .pointer (some ⟨p, 0, none⟩) ∧ s3 = .pointer (some ⟨q, 0, none⟩) ∧ p ≠ q ∧ W1.heap.size ≤ p ∧ W1.heap.size ≤ q ∧ wx.heap[p]? = some (.cells #[.int .i64 2, .int .i64 1, .int .i64 1, .int .i64 3, .int .i64 3] 34) ∧ wx.heap[q]? = some (.cells #[.int .i64 2, .int .i64 1, .int .i64 1, .int .i64 3, .int .i64 3] 34) ∧ Below W1.heap.size W1 wx)
  case first =>
    refine wp_region_noPanic ?_
    refine wp_region_held_drew (S := (fun u => Below W1.heap.size W1 u)) (by kernel_rfl) ((Below.refl _ _).drew) (fun hS => ?_)
    refine give_val (i := 0) (v := ?_) rfl (by kernel_rfl) (by kernel_rfl) (by kernel_rfl) (fun _ _ _ h => h) (by rfl) (fun u hu => ?_) hS ?_
    rotate_left
    · ((have ha := obj_below HA1.out hu; obtain ⟨c0, c1, c2, c3, c4⟩ := obj_cells5 ha; clear ha); go_simp; try (with_reducible rfl))
    try simp only [Act.put, List.setIfInBounds_toArray, List.set_cons_zero, List.set_cons_succ]
    refine give_val (i := 1) (v := ?_) rfl (by kernel_rfl) (by kernel_rfl) (by kernel_rfl) (fun _ _ _ h => h) (by rfl) (fun u hu => ?_) hS ?_
    rotate_left
    · ((have ha := obj_below HA1.out hu; obtain ⟨c0, c1, c2, c3, c4⟩ := obj_cells5 ha; clear ha); go_simp; try (with_reducible rfl))
    try simp only [Act.put, List.setIfInBounds_toArray, List.set_cons_zero, List.set_cons_succ]
    refine wpAnyH_ready (rs := [2, 3]) (by kernel_rfl) (by simp) (arm_alloc (i := 2) (.cells #[.int .i64 0, .int .i64 0, .int .i64 0, .int .i64 0, .int .i64 0] 34) rfl (by rfl) ?_ ?_ (arm_alloc (i := 3) (.cells #[.int .i64 0, .int .i64 0, .int .i64 0, .int .i64 0, .int .i64 0] 34) rfl (by rfl) ?_ ?_ AllReadyH.nil))
    · (go_simp; try (with_reducible rfl))
    · intro p2 u' hb ho2 hp2
      replace hp2 := Nat.le_trans (hS.size) hp2
      have hS' : (fun u => Below W1.heap.size W1 u) u' := hbt hS hb
      refine ⟨hS', ?_⟩
      clear hS hb
      have hS := hS'; clear hS'
      rename World => u
      try simp only [Act.put, List.setIfInBounds_toArray, List.set_cons_zero, List.set_cons_succ]
      refine wpAnyH_ready (rs := [3]) (by kernel_rfl) (by simp) (arm_alloc (i := 3) (.cells #[.int .i64 0, .int .i64 0, .int .i64 0, .int .i64 0, .int .i64 0] 34) rfl (by rfl) ?_ ?_ AllReadyH.nil)
      · (go_simp; try (with_reducible rfl))
      · intro p3 u' hb ho3 hp3
        have ne2_3 : p2 ≠ p3 := by have := obj_lt ho2; omega
        replace hp3 := Nat.le_trans (hS.size) hp3
        have hS' : (fun u => Below W1.heap.size W1 u) u' := hbt hS hb
        refine ⟨hS', ?_⟩
        replace ho2 := obj_below ho2 hb
        clear hS hb
        have hS := hS'; clear hS'
        rename World => u
        try simp only [Act.put, List.setIfInBounds_toArray, List.set_cons_zero, List.set_cons_succ]
        obtain ⟨c0, c1, c2, c3, c4⟩ := obj_cells5 ho2
        obtain ⟨f0, f1, f2, f3, f4⟩ := obj_warm5 ho2
        have hr4 := obj_set5 ho2 (.int .i64 2) (.int .i64 1) (.int .i64 1) (.int .i64 3) (.int .i64 3)
        have ho4 := obj_set5_other ho3 (Ne.symm ne2_3) (.int .i64 2) (.int .i64 1) (.int .i64 1) (.int .i64 3) (.int .i64 3)
        have hS4 : Below W1.heap.size W1 _ := below_set5 hS hp2 (.int .i64 2) (.int .i64 1) (.int .i64 1) (.int .i64 3) (.int .i64 3)
        refine only (i := 4) rfl (by kernel_rfl) (by rfl) (fun K hK => ?_)
        go_simp
        refine hK.out _ _ hS4 ?_
        clear hK
        try simp only [Act.put, List.setIfInBounds_toArray, List.set_cons_zero, List.set_cons_succ]
        clear c0 c1 c2 c3 c4 f0 f1 f2 f3 f4 hS ho2 ho3
        generalize (((((u.setCell _ _).setCell _ _).setCell _ _).setCell _ _).setCell _ _) = u4 at *
        obtain ⟨c0, c1, c2, c3, c4⟩ := obj_cells5 ho4
        obtain ⟨f0, f1, f2, f3, f4⟩ := obj_warm5 ho4
        have hr5 := obj_set5 ho4 (.int .i64 2) (.int .i64 1) (.int .i64 1) (.int .i64 3) (.int .i64 3)
        have hr4' := obj_set5_other hr4 ne2_3 (.int .i64 2) (.int .i64 1) (.int .i64 1) (.int .i64 3) (.int .i64 3)
        have hS5 : Below W1.heap.size W1 _ := below_set5 hS4 hp3 (.int .i64 2) (.int .i64 1) (.int .i64 1) (.int .i64 3) (.int .i64 3)
        refine only (i := 5) rfl (by kernel_rfl) (by rfl) (fun K hK => ?_)
        go_simp
        refine hK.out _ _ hS5 ?_
        clear hK
        try simp only [Act.put, List.setIfInBounds_toArray, List.set_cons_zero, List.set_cons_succ]
        refine wpAnyH_done (by kernel_rfl) (NoPanic.normal ?_) _
        go_wp2_with fail
        go_meet
        exact ⟨p2, p3, rfl, rfl, ne2_3, hp2, hp3, hr4', hr5, hS5⟩
    · (go_simp; try (with_reducible rfl))
    · intro p3 u' hb ho3 hp3
      replace hp3 := Nat.le_trans (hS.size) hp3
      have hS' : (fun u => Below W1.heap.size W1 u) u' := hbt hS hb
      refine ⟨hS', ?_⟩
      clear hS hb
      have hS := hS'; clear hS'
      rename World => u
      try simp only [Act.put, List.setIfInBounds_toArray, List.set_cons_zero, List.set_cons_succ]
      refine wpAnyH_ready (rs := [2]) (by kernel_rfl) (by simp) (arm_alloc (i := 2) (.cells #[.int .i64 0, .int .i64 0, .int .i64 0, .int .i64 0, .int .i64 0] 34) rfl (by rfl) ?_ ?_ AllReadyH.nil)
      · (go_simp; try (with_reducible rfl))
      · intro p2 u' hb ho2 hp2
        have ne2_3 : p2 ≠ p3 := by have := obj_lt ho3; omega
        replace hp2 := Nat.le_trans (hS.size) hp2
        have hS' : (fun u => Below W1.heap.size W1 u) u' := hbt hS hb
        refine ⟨hS', ?_⟩
        replace ho3 := obj_below ho3 hb
        clear hS hb
        have hS := hS'; clear hS'
        rename World => u
        try simp only [Act.put, List.setIfInBounds_toArray, List.set_cons_zero, List.set_cons_succ]
        obtain ⟨c0, c1, c2, c3, c4⟩ := obj_cells5 ho2
        obtain ⟨f0, f1, f2, f3, f4⟩ := obj_warm5 ho2
        have hr4 := obj_set5 ho2 (.int .i64 2) (.int .i64 1) (.int .i64 1) (.int .i64 3) (.int .i64 3)
        have ho4 := obj_set5_other ho3 (Ne.symm ne2_3) (.int .i64 2) (.int .i64 1) (.int .i64 1) (.int .i64 3) (.int .i64 3)
        have hS4 : Below W1.heap.size W1 _ := below_set5 hS hp2 (.int .i64 2) (.int .i64 1) (.int .i64 1) (.int .i64 3) (.int .i64 3)
        refine only (i := 4) rfl (by kernel_rfl) (by rfl) (fun K hK => ?_)
        go_simp
        refine hK.out _ _ hS4 ?_
        clear hK
        try simp only [Act.put, List.setIfInBounds_toArray, List.set_cons_zero, List.set_cons_succ]
        clear c0 c1 c2 c3 c4 f0 f1 f2 f3 f4 hS ho2 ho3
        generalize (((((u.setCell _ _).setCell _ _).setCell _ _).setCell _ _).setCell _ _) = u4 at *
        obtain ⟨c0, c1, c2, c3, c4⟩ := obj_cells5 ho4
        obtain ⟨f0, f1, f2, f3, f4⟩ := obj_warm5 ho4
        have hr5 := obj_set5 ho4 (.int .i64 2) (.int .i64 1) (.int .i64 1) (.int .i64 3) (.int .i64 3)
        have hr4' := obj_set5_other hr4 ne2_3 (.int .i64 2) (.int .i64 1) (.int .i64 1) (.int .i64 3) (.int .i64 3)
        have hS5 : Below W1.heap.size W1 _ := below_set5 hS4 hp3 (.int .i64 2) (.int .i64 1) (.int .i64 1) (.int .i64 3) (.int .i64 3)
        refine only (i := 5) rfl (by kernel_rfl) (by rfl) (fun K hK => ?_)
        go_simp
        refine hK.out _ _ hS5 ?_
        clear hK
        try simp only [Act.put, List.setIfInBounds_toArray, List.set_cons_zero, List.set_cons_succ]
        refine wpAnyH_done (by kernel_rfl) (NoPanic.normal ?_) _
        go_wp2_with fail
        go_meet
        exact ⟨p2, p3, rfl, rfl, ne2_3, hp2, hp3, hr4', hr5, hS5⟩
  case rest =>
    obtain ⟨p, q, rfl, rfl, hne, hp, hq, h1, h2, hb⟩ := hcut
    have H1 := Lib.hid h1
    have H2 := Lib.hid h2
    have HB := Lib.hid hb
    obtain ⟨c0, c1, c2, c3, c4⟩ := obj_cells5 h1
    obtain ⟨f0, f1, f2, f3, f4⟩ := obj_warm5 h1
    obtain ⟨d0, d1, d2, d3, d4⟩ := obj_cells5 h2
    obtain ⟨g0, g1, g2, g3, g4⟩ := obj_warm5 h2
    clear h1 h2 hb
    go_upto_region 4 with fail
    have HP3 : Hid (((wc.setCell ⟨p, 0, none⟩ (.int .i64 4)).setCell ⟨q, 0, none⟩ (.int .i64 3)).heap[p]? = some (.cells #[.int .i64 4, .int .i64 1, .int .i64 1, .int .i64 3, .int .i64 3] 34)) := (heap_setCell_other _ _ _ _ hne).trans (heap_setCell_same _ p 0 _ _ _ H1.out)
    have HQ3 : Hid (((wc.setCell ⟨p, 0, none⟩ (.int .i64 4)).setCell ⟨q, 0, none⟩ (.int .i64 3)).heap[q]? = some (.cells #[.int .i64 3, .int .i64 1, .int .i64 1, .int .i64 3, .int .i64 3] 34)) := heap_setCell_same _ q 0 _ _ _ ((heap_setCell_other _ _ _ _ hne.symm).trans H2.out)
    have HB3 : Hid (Below W1.heap.size W1 ((wc.setCell ⟨p, 0, none⟩ (.int .i64 4)).setCell ⟨q, 0, none⟩ (.int .i64 3))) := (HB.out.setCell (p := ⟨p, 0, none⟩) hp _).setCell (p := ⟨q, 0, none⟩) hq _
    clear c0 c1 c2 c3 c4 f0 f1 f2 f3 f4 d0 d1 d2 d3 d4 g0 g1 g2 g3 g4 H1 H2 HB
    generalize (wc.setCell ⟨p, 0, none⟩ (.int .i64 4)).setCell ⟨q, 0, none⟩ (.int .i64 3) = W3 at *
    have HA3 := Lib.hid (obj_below HA1.out HB3.out)
    obtain ⟨c0, c1, c2, c3, c4⟩ := obj_cells5 HA3.out
    obtain ⟨d0, d1, d2, d3, d4⟩ := obj_cells5 HP3.out
    obtain ⟨e0, e1, e2, e3, e4⟩ := obj_cells5 HQ3.out
    go_upto_region 5 with fail
    have HW5 : Hid (Aw w p q (W3.heap.size + 1) (some ⟨W3.heap.size, 0, none⟩) ((W3.alloc (.cells #[.int .i64 2, .int .i64 1, .int .i64 1, .int .i64 3, .int .i64 3, .int .i64 4, .int .i64 1, .int .i64 1, .int .i64 3, .int .i64 3, .int .i64 3, .int .i64 1, .int .i64 1, .int .i64 3, .int .i64 3] 34)).alloc (.cells #[.int .i64 1, .int .i64 1, .slice (some ⟨W3.heap.size, 0, none⟩) 3 3] 24))) :=
      ⟨hbt (hbt (hbt HB1.out HB3.out) (below_al _ _)) (below_al _ _), obj_below (obj_below HP3.out (below_al _ _)) (below_al _ _), obj_below (obj_below HQ3.out (below_al _ _)) (below_al _ _), heap_al _ _ _ (by simp), spl_row (obj_below (heap_alloc_new W3 _) (below_al _ _)) rfl⟩
    clear c0 c1 c2 c3 c4 d0 d1 d2 d3 d4 e0 e1 e2 e3 e4 HP3 HQ3 HB3 HA3 HA1 HB1 hp hq
    generalize (W3.alloc (.cells #[.int .i64 2, .int .i64 1, .int .i64 1, .int .i64 3, .int .i64 3, .int .i64 4, .int .i64 1, .int .i64 1, .int .i64 3, .int .i64 3, .int .i64 3, .int .i64 1, .int .i64 1, .int .i64 3, .int .i64 3] 34)).alloc (.cells #[.int .i64 1, .int .i64 1, .slice (some ⟨W3.heap.size, 0, none⟩) 3 3] 24) = W5 at *
    generalize W3.heap.size + 1 = g at *
    generalize (some ⟨W3.heap.size, 0, none⟩ : Option Addr) = A at *
    obtain ⟨b0, b1, b2⟩ := obj_cells3 HW5.out.2.2.2.1
    go_wp2_with fail
    refine (aw_check A _ HW5.out.2.2.2.2).mono ?_
    rintro e w6 ⟨rfl, hb6⟩
    have HW6 := Lib.hid (HW5.out.below hb6)
    clear hb6 HW5 b0 b1 b2
    go_wp2_with fail
    refine (aw_check2 _).mono ?_
    rintro e w7 ⟨rfl, hb7⟩
    have HW7 := Lib.hid (HW6.out.below hb7)
    clear hb7 HW6
    obtain ⟨b0, b1, b2⟩ := obj_cells3 HW7.out.2.2.2.1
    go_wp2_with fail
    refine (aw_find A _ HW7.out.2.2.2.2).mono ?_
    rintro e w8 ⟨rfl, hb8⟩
    have HX8 := Lib.hid (heap_alloc_new w8 (.cells #[.int .i64 4, .int .i64 1, .int .i64 1, .int .i64 3, .int .i64 3] 34))
    have HW8 := Lib.hid ((HW7.out.below hb8).below (below_al w8 (.cells #[.int .i64 4, .int .i64 1, .int .i64 1, .int .i64 3, .int .i64 3] 34)))
    clear hb8 HW7 b0 b1 b2
    go_upto_region 8 with fail
    generalize w8.alloc (.cells #[.int .i64 4, .int .i64 1, .int .i64 1, .int .i64 3, .int .i64 3] 34) = W8 at *
    generalize w8.heap.size = gx at *
    go_cut [11] (fun s11 wx => ∃ (r : Nat) (R : Option Addr) (c : Nat), s11 = .pointer (some ⟨r, 0, none⟩) ∧ Box wx r 1 1 R 2 c ∧ Spl wx R awR ∧ Below W8.heap.size W8 wx)
    case first =>
      refine wp_region_noPanic ?_
      refine wp_region_held_drew (S := (fun u => Below W8.heap.size W8 u)) (by kernel_rfl) ((Below.refl _ _).drew) (fun hS => ?_)
      refine give_val (i := 0) (v := ?_) rfl (by kernel_rfl) (by kernel_rfl) (by kernel_rfl) (fun _ _ _ h => h) (by rfl) (fun u hu => ?_) hS ?_
      rotate_left
      · ((have hT := HW8.out.below hu; obtain ⟨b0, b1, b2⟩ := obj_cells3 hT.2.2.2.1; clear hT); go_simp; try (with_reducible rfl))
      try simp only [Act.put, List.setIfInBounds_toArray, List.set_cons_zero, List.set_cons_succ]
      refine wpAnyH_ready (rs := [1, 4]) (by kernel_rfl) (by simp) (arm_slice (i := 1) (.cells #[.int .i64 3, .int .i64 2] 3) 2 rfl (by rfl) ?_ ?_ (arm_alloc (i := 4) (.cells #[.int .i64 0, .int .i64 0, .slice none 0 0] 24) rfl (by rfl) ?_ ?_ AllReadyH.nil))
      · (go_simp; try (with_reducible rfl))
      · intro p1 u' hb ho1 hp1
        replace hp1 := Nat.le_trans (hS.size) hp1
        have hS' : (fun u => Below W8.heap.size W8 u) u' := hbt hS hb
        refine ⟨hS', ?_⟩
        clear hS hb
        have hS := hS'; clear hS'
        rename World => u
        try simp only [Act.put, List.setIfInBounds_toArray, List.set_cons_zero, List.set_cons_succ]
        refine wpAnyH_ready (rs := [2, 4]) (by kernel_rfl) (by simp) (arm_call (i := 2) 24 #[.slice (some ⟨p1, 0, none⟩) 2 2] rfl (by rfl) (aw_of32 _ _ ho1) ?_ ?_ (arm_alloc (i := 4) (.cells #[.int .i64 0, .int .i64 0, .slice none 0 0] 24) rfl (by rfl) ?_ ?_ AllReadyH.nil))
        · (go_simp; try (with_reducible rfl))
        · intro u' hb
          have hS' : (fun u => Below W8.heap.size W8 u) u' := hbt hS hb
          refine ⟨hS', ?_⟩
          replace ho1 := obj_below ho1 hb
          clear hS hb
          have hS := hS'; clear hS'
          rename World => u
          try simp only [Act.put, List.setIfInBounds_toArray, List.set_cons_zero, List.set_cons_succ]
          refine wpAnyH_ready (rs := [3, 4]) (by kernel_rfl) (by simp) (arm_some (i := 3) 18 #[.agg #[.int .i64 1, .int .i64 1, .slice A 3 3], .agg #[.int .u64 6917529027641081856, .int .u64 0]] rfl (by rfl) (aw_restrict A _ (HW8.out.below hS).2.2.2.2) ?_ ?_ (arm_alloc (i := 4) (.cells #[.int .i64 0, .int .i64 0, .slice none 0 0] 24) rfl (by rfl) ?_ ?_ AllReadyH.nil))
          · (go_simp; try (with_reducible rfl))
          · intro v3 u' hT
            obtain ⟨A3, c3, rfl, ht3, hb⟩ := hT
            have hS' : (fun u => Below W8.heap.size W8 u) u' := hbt hS hb
            refine ⟨hS', ?_⟩
            replace ho1 := obj_below ho1 hb
            clear hS hb
            have hS := hS'; clear hS'
            rename World => u
            try simp only [Act.put, List.setIfInBounds_toArray, List.set_cons_zero, List.set_cons_succ]
            refine wpAnyH_ready (rs := [4]) (by kernel_rfl) (by simp) (arm_alloc (i := 4) (.cells #[.int .i64 0, .int .i64 0, .slice none 0 0] 24) rfl (by rfl) ?_ ?_ AllReadyH.nil)
            · (go_simp; try (with_reducible rfl))
            · intro p4 u' hb ho4 hp4
              have ne1_4 : p1 ≠ p4 := by have := obj_lt ho1; omega
              replace hp4 := Nat.le_trans (hS.size) hp4
              have hS' : (fun u => Below W8.heap.size W8 u) u' := hbt hS hb
              refine ⟨hS', ?_⟩
              replace ho1 := obj_below ho1 hb
              replace ht3 := ht3.below hb
              clear hS hb
              have hS := hS'; clear hS'
              rename World => u
              try simp only [Act.put, List.setIfInBounds_toArray, List.set_cons_zero, List.set_cons_succ]
              obtain ⟨c0, c1, c2⟩ := obj_cells3 ho4
              obtain ⟨f0, f1, f2⟩ := obj_warm3 ho4
              have hr5 := obj_set3 ho4 (.int .i64 1) (.int .i64 1) (.slice A3 2 c3)
              have ht5 := spl_store3 ht3 ho4 (.int .i64 1) (.int .i64 1) (.slice A3 2 c3)
              have hS5 : Below W8.heap.size W8 _ := below_set3 hS hp4 (.int .i64 1) (.int .i64 1) (.slice A3 2 c3)
              refine only (i := 5) rfl (by kernel_rfl) (by rfl) (fun K hK => ?_)
              go_simp
              refine hK.out _ _ hS5 ?_
              clear hK
              try simp only [Act.put, List.setIfInBounds_toArray, List.set_cons_zero, List.set_cons_succ]
              refine wpAnyH_done (by kernel_rfl) (NoPanic.normal ?_) _
              go_wp2_with fail
              go_meet
              exact ⟨p4, A3, c3, rfl, hr5, ht5, hS5⟩
          · (go_simp; try (with_reducible rfl))
          · intro p4 u' hb ho4 hp4
            have ne1_4 : p1 ≠ p4 := by have := obj_lt ho1; omega
            replace hp4 := Nat.le_trans (hS.size) hp4
            have hS' : (fun u => Below W8.heap.size W8 u) u' := hbt hS hb
            refine ⟨hS', ?_⟩
            replace ho1 := obj_below ho1 hb
            clear hS hb
            have hS := hS'; clear hS'
            rename World => u
            try simp only [Act.put, List.setIfInBounds_toArray, List.set_cons_zero, List.set_cons_succ]
            refine wpAnyH_ready (rs := [3]) (by kernel_rfl) (by simp) (arm_some (i := 3) 18 #[.agg #[.int .i64 1, .int .i64 1, .slice A 3 3], .agg #[.int .u64 6917529027641081856, .int .u64 0]] rfl (by rfl) (aw_restrict A _ (HW8.out.below hS).2.2.2.2) ?_ ?_ AllReadyH.nil)
            · (go_simp; try (with_reducible rfl))
            · intro v3 u' hT
              obtain ⟨A3, c3, rfl, ht3, hb⟩ := hT
              have hS' : (fun u => Below W8.heap.size W8 u) u' := hbt hS hb
              refine ⟨hS', ?_⟩
              replace ho1 := obj_below ho1 hb
              replace ho4 := obj_below ho4 hb
              clear hS hb
              have hS := hS'; clear hS'
              rename World => u
              try simp only [Act.put, List.setIfInBounds_toArray, List.set_cons_zero, List.set_cons_succ]
              obtain ⟨c0, c1, c2⟩ := obj_cells3 ho4
              obtain ⟨f0, f1, f2⟩ := obj_warm3 ho4
              have hr5 := obj_set3 ho4 (.int .i64 1) (.int .i64 1) (.slice A3 2 c3)
              have ht5 := spl_store3 ht3 ho4 (.int .i64 1) (.int .i64 1) (.slice A3 2 c3)
              have hS5 : Below W8.heap.size W8 _ := below_set3 hS hp4 (.int .i64 1) (.int .i64 1) (.slice A3 2 c3)
              refine only (i := 5) rfl (by kernel_rfl) (by rfl) (fun K hK => ?_)
              go_simp
              refine hK.out _ _ hS5 ?_
              clear hK
              try simp only [Act.put, List.setIfInBounds_toArray, List.set_cons_zero, List.set_cons_succ]
              refine wpAnyH_done (by kernel_rfl) (NoPanic.normal ?_) _
              go_wp2_with fail
              go_meet
              exact ⟨p4, A3, c3, rfl, hr5, ht5, hS5⟩
        · (go_simp; try (with_reducible rfl))
        · intro p4 u' hb ho4 hp4
          have ne1_4 : p1 ≠ p4 := by have := obj_lt ho1; omega
          replace hp4 := Nat.le_trans (hS.size) hp4
          have hS' : (fun u => Below W8.heap.size W8 u) u' := hbt hS hb
          refine ⟨hS', ?_⟩
          replace ho1 := obj_below ho1 hb
          clear hS hb
          have hS := hS'; clear hS'
          rename World => u
          try simp only [Act.put, List.setIfInBounds_toArray, List.set_cons_zero, List.set_cons_succ]
          refine wpAnyH_ready (rs := [2]) (by kernel_rfl) (by simp) (arm_call (i := 2) 24 #[.slice (some ⟨p1, 0, none⟩) 2 2] rfl (by rfl) (aw_of32 _ _ ho1) ?_ ?_ AllReadyH.nil)
          · (go_simp; try (with_reducible rfl))
          · intro u' hb
            have hS' : (fun u => Below W8.heap.size W8 u) u' := hbt hS hb
            refine ⟨hS', ?_⟩
            replace ho1 := obj_below ho1 hb
            replace ho4 := obj_below ho4 hb
            clear hS hb
            have hS := hS'; clear hS'
            rename World => u
            try simp only [Act.put, List.setIfInBounds_toArray, List.set_cons_zero, List.set_cons_succ]
            refine wpAnyH_ready (rs := [3]) (by kernel_rfl) (by simp) (arm_some (i := 3) 18 #[.agg #[.int .i64 1, .int .i64 1, .slice A 3 3], .agg #[.int .u64 6917529027641081856, .int .u64 0]] rfl (by rfl) (aw_restrict A _ (HW8.out.below hS).2.2.2.2) ?_ ?_ AllReadyH.nil)
            · (go_simp; try (with_reducible rfl))
            · intro v3 u' hT
              obtain ⟨A3, c3, rfl, ht3, hb⟩ := hT
              have hS' : (fun u => Below W8.heap.size W8 u) u' := hbt hS hb
              refine ⟨hS', ?_⟩
              replace ho1 := obj_below ho1 hb
              replace ho4 := obj_below ho4 hb
              clear hS hb
              have hS := hS'; clear hS'
              rename World => u
              try simp only [Act.put, List.setIfInBounds_toArray, List.set_cons_zero, List.set_cons_succ]
              obtain ⟨c0, c1, c2⟩ := obj_cells3 ho4
              obtain ⟨f0, f1, f2⟩ := obj_warm3 ho4
              have hr5 := obj_set3 ho4 (.int .i64 1) (.int .i64 1) (.slice A3 2 c3)
              have ht5 := spl_store3 ht3 ho4 (.int .i64 1) (.int .i64 1) (.slice A3 2 c3)
              have hS5 : Below W8.heap.size W8 _ := below_set3 hS hp4 (.int .i64 1) (.int .i64 1) (.slice A3 2 c3)
              refine only (i := 5) rfl (by kernel_rfl) (by rfl) (fun K hK => ?_)
              go_simp
              refine hK.out _ _ hS5 ?_
              clear hK
              try simp only [Act.put, List.setIfInBounds_toArray, List.set_cons_zero, List.set_cons_succ]
              refine wpAnyH_done (by kernel_rfl) (NoPanic.normal ?_) _
              go_wp2_with fail
              go_meet
              exact ⟨p4, A3, c3, rfl, hr5, ht5, hS5⟩
      · (go_simp; try (with_reducible rfl))
      · intro p4 u' hb ho4 hp4
        replace hp4 := Nat.le_trans (hS.size) hp4
        have hS' : (fun u => Below W8.heap.size W8 u) u' := hbt hS hb
        refine ⟨hS', ?_⟩
        clear hS hb
        have hS := hS'; clear hS'
        rename World => u
        try simp only [Act.put, List.setIfInBounds_toArray, List.set_cons_zero, List.set_cons_succ]
        refine wpAnyH_ready (rs := [1]) (by kernel_rfl) (by simp) (arm_slice (i := 1) (.cells #[.int .i64 3, .int .i64 2] 3) 2 rfl (by rfl) ?_ ?_ AllReadyH.nil)
        · (go_simp; try (with_reducible rfl))
        · intro p1 u' hb ho1 hp1
          have ne1_4 : p1 ≠ p4 := by have := obj_lt ho4; omega
          replace hp1 := Nat.le_trans (hS.size) hp1
          have hS' : (fun u => Below W8.heap.size W8 u) u' := hbt hS hb
          refine ⟨hS', ?_⟩
          replace ho4 := obj_below ho4 hb
          clear hS hb
          have hS := hS'; clear hS'
          rename World => u
          try simp only [Act.put, List.setIfInBounds_toArray, List.set_cons_zero, List.set_cons_succ]
          refine wpAnyH_ready (rs := [2]) (by kernel_rfl) (by simp) (arm_call (i := 2) 24 #[.slice (some ⟨p1, 0, none⟩) 2 2] rfl (by rfl) (aw_of32 _ _ ho1) ?_ ?_ AllReadyH.nil)
          · (go_simp; try (with_reducible rfl))
          · intro u' hb
            have hS' : (fun u => Below W8.heap.size W8 u) u' := hbt hS hb
            refine ⟨hS', ?_⟩
            replace ho4 := obj_below ho4 hb
            replace ho1 := obj_below ho1 hb
            clear hS hb
            have hS := hS'; clear hS'
            rename World => u
            try simp only [Act.put, List.setIfInBounds_toArray, List.set_cons_zero, List.set_cons_succ]
            refine wpAnyH_ready (rs := [3]) (by kernel_rfl) (by simp) (arm_some (i := 3) 18 #[.agg #[.int .i64 1, .int .i64 1, .slice A 3 3], .agg #[.int .u64 6917529027641081856, .int .u64 0]] rfl (by rfl) (aw_restrict A _ (HW8.out.below hS).2.2.2.2) ?_ ?_ AllReadyH.nil)
            · (go_simp; try (with_reducible rfl))
            · intro v3 u' hT
              obtain ⟨A3, c3, rfl, ht3, hb⟩ := hT
              have hS' : (fun u => Below W8.heap.size W8 u) u' := hbt hS hb
              refine ⟨hS', ?_⟩
              replace ho4 := obj_below ho4 hb
              replace ho1 := obj_below ho1 hb
              clear hS hb
              have hS := hS'; clear hS'
              rename World => u
              try simp only [Act.put, List.setIfInBounds_toArray, List.set_cons_zero, List.set_cons_succ]
              obtain ⟨c0, c1, c2⟩ := obj_cells3 ho4
              obtain ⟨f0, f1, f2⟩ := obj_warm3 ho4
              have hr5 := obj_set3 ho4 (.int .i64 1) (.int .i64 1) (.slice A3 2 c3)
              have ht5 := spl_store3 ht3 ho4 (.int .i64 1) (.int .i64 1) (.slice A3 2 c3)
              have hS5 : Below W8.heap.size W8 _ := below_set3 hS hp4 (.int .i64 1) (.int .i64 1) (.slice A3 2 c3)
              refine only (i := 5) rfl (by kernel_rfl) (by rfl) (fun K hK => ?_)
              go_simp
              refine hK.out _ _ hS5 ?_
              clear hK
              try simp only [Act.put, List.setIfInBounds_toArray, List.set_cons_zero, List.set_cons_succ]
              refine wpAnyH_done (by kernel_rfl) (NoPanic.normal ?_) _
              go_wp2_with fail
              go_meet
              exact ⟨p4, A3, c3, rfl, hr5, ht5, hS5⟩
    case rest =>
      obtain ⟨r, R, c, rfl, hr, hR, hb⟩ := hcut
      have HW9 := Lib.hid (HW8.out.below hb)
      have HX9 := Lib.hid (obj_below HX8.out hb)
      have HR9 := Lib.hid hr
      have HS9 := Lib.hid hR
      clear hr hR hb HW8 HX8
      obtain ⟨a, rfl, _⟩ := aw_second HS9.out
      go_wp2_with fail
      refine wp_region_noPanic ?_
      refine wp_region_held_drew (S := (fun u => Below wc.heap.size wc u)) (by kernel_rfl) ((Below.refl _ _).drew) (fun hS => ?_)
      refine give_val (i := 0) (v := ?_) rfl (by kernel_rfl) (by kernel_rfl) (by kernel_rfl) (fun _ _ _ h => h) (by rfl) (fun u hu => ?_) hS ?_
      rotate_left
      · ((have hT := HW9.out.below hu; have hX := obj_below HX9.out hu; have hQ := HR9.out.below hu; obtain ⟨a', ha', k0, k1, k2, k3, k4⟩ := aw_second (HS9.out.below hu); injection ha' with ha'; subst ha'; obtain ⟨l0, l1, l2, l3, l4⟩ := obj_cells5 hX; obtain ⟨b0, b1, b2⟩ := obj_cells3 hT.2.2.2.1; obtain ⟨m0, m1, m2, m3, m4⟩ := obj_cells5 hT.2.1; obtain ⟨n0, n1, n2, n3, n4⟩ := obj_cells5 hT.2.2.1; obtain ⟨o0, o1, o2⟩ := obj_cells3 hQ; clear hT hX hQ); go_simp; try (with_reducible rfl))
      try simp only [Act.put, List.setIfInBounds_toArray, List.set_cons_zero, List.set_cons_succ]
      refine give_val (i := 1) (v := ?_) rfl (by kernel_rfl) (by kernel_rfl) (by kernel_rfl) (fun _ _ _ h => h) (by rfl) (fun u hu => ?_) hS ?_
      rotate_left
      · ((have hT := HW9.out.below hu; have hX := obj_below HX9.out hu; have hQ := HR9.out.below hu; obtain ⟨a', ha', k0, k1, k2, k3, k4⟩ := aw_second (HS9.out.below hu); injection ha' with ha'; subst ha'; obtain ⟨l0, l1, l2, l3, l4⟩ := obj_cells5 hX; obtain ⟨b0, b1, b2⟩ := obj_cells3 hT.2.2.2.1; obtain ⟨m0, m1, m2, m3, m4⟩ := obj_cells5 hT.2.1; obtain ⟨n0, n1, n2, n3, n4⟩ := obj_cells5 hT.2.2.1; obtain ⟨o0, o1, o2⟩ := obj_cells3 hQ; clear hT hX hQ); go_simp; try (with_reducible rfl))
      try simp only [Act.put, List.setIfInBounds_toArray, List.set_cons_zero, List.set_cons_succ]
      refine give_val (i := 2) (v := ?_) rfl (by kernel_rfl) (by kernel_rfl) (by kernel_rfl) (fun _ _ _ h => h) (by rfl) (fun u hu => ?_) hS ?_
      rotate_left
      · ((have hT := HW9.out.below hu; have hX := obj_below HX9.out hu; have hQ := HR9.out.below hu; obtain ⟨a', ha', k0, k1, k2, k3, k4⟩ := aw_second (HS9.out.below hu); injection ha' with ha'; subst ha'; obtain ⟨l0, l1, l2, l3, l4⟩ := obj_cells5 hX; obtain ⟨b0, b1, b2⟩ := obj_cells3 hT.2.2.2.1; obtain ⟨m0, m1, m2, m3, m4⟩ := obj_cells5 hT.2.1; obtain ⟨n0, n1, n2, n3, n4⟩ := obj_cells5 hT.2.2.1; obtain ⟨o0, o1, o2⟩ := obj_cells3 hQ; clear hT hX hQ); go_simp; try (with_reducible rfl))
      try simp only [Act.put, List.setIfInBounds_toArray, List.set_cons_zero, List.set_cons_succ]
      refine give_val (i := 3) (v := ?_) rfl (by kernel_rfl) (by kernel_rfl) (by kernel_rfl) (fun _ _ _ h => h) (by rfl) (fun u hu => ?_) hS ?_
      rotate_left
      · ((have hT := HW9.out.below hu; have hX := obj_below HX9.out hu; have hQ := HR9.out.below hu; obtain ⟨a', ha', k0, k1, k2, k3, k4⟩ := aw_second (HS9.out.below hu); injection ha' with ha'; subst ha'; obtain ⟨l0, l1, l2, l3, l4⟩ := obj_cells5 hX; obtain ⟨b0, b1, b2⟩ := obj_cells3 hT.2.2.2.1; obtain ⟨m0, m1, m2, m3, m4⟩ := obj_cells5 hT.2.1; obtain ⟨n0, n1, n2, n3, n4⟩ := obj_cells5 hT.2.2.1; obtain ⟨o0, o1, o2⟩ := obj_cells3 hQ; clear hT hX hQ); go_simp; try (with_reducible rfl))
      try simp only [Act.put, List.setIfInBounds_toArray, List.set_cons_zero, List.set_cons_succ]
      refine give_val (i := 4) (v := ?_) rfl (by kernel_rfl) (by kernel_rfl) (by kernel_rfl) (fun _ _ _ h => h) (by rfl) (fun u hu => ?_) hS ?_
      rotate_left
      · ((have hT := HW9.out.below hu; have hX := obj_below HX9.out hu; have hQ := HR9.out.below hu; obtain ⟨a', ha', k0, k1, k2, k3, k4⟩ := aw_second (HS9.out.below hu); injection ha' with ha'; subst ha'; obtain ⟨l0, l1, l2, l3, l4⟩ := obj_cells5 hX; obtain ⟨b0, b1, b2⟩ := obj_cells3 hT.2.2.2.1; obtain ⟨m0, m1, m2, m3, m4⟩ := obj_cells5 hT.2.1; obtain ⟨n0, n1, n2, n3, n4⟩ := obj_cells5 hT.2.2.1; obtain ⟨o0, o1, o2⟩ := obj_cells3 hQ; clear hT hX hQ); go_simp; try (with_reducible rfl))
      try simp only [Act.put, List.setIfInBounds_toArray, List.set_cons_zero, List.set_cons_succ]
      refine give_val (i := 5) (v := ?_) rfl (by kernel_rfl) (by kernel_rfl) (by kernel_rfl) (fun _ _ _ h => h) (by rfl) (fun u hu => ?_) hS ?_
      rotate_left
      · ((have hT := HW9.out.below hu; have hX := obj_below HX9.out hu; have hQ := HR9.out.below hu; obtain ⟨a', ha', k0, k1, k2, k3, k4⟩ := aw_second (HS9.out.below hu); injection ha' with ha'; subst ha'; obtain ⟨l0, l1, l2, l3, l4⟩ := obj_cells5 hX; obtain ⟨b0, b1, b2⟩ := obj_cells3 hT.2.2.2.1; obtain ⟨m0, m1, m2, m3, m4⟩ := obj_cells5 hT.2.1; obtain ⟨n0, n1, n2, n3, n4⟩ := obj_cells5 hT.2.2.1; obtain ⟨o0, o1, o2⟩ := obj_cells3 hQ; clear hT hX hQ); go_simp; try (with_reducible rfl))
      try simp only [Act.put, List.setIfInBounds_toArray, List.set_cons_zero, List.set_cons_succ]
      refine give_val (i := 6) (v := ?_) rfl (by kernel_rfl) (by kernel_rfl) (by kernel_rfl) (fun _ _ _ h => h) (by rfl) (fun u hu => ?_) hS ?_
      rotate_left
      · ((have hT := HW9.out.below hu; have hX := obj_below HX9.out hu; have hQ := HR9.out.below hu; obtain ⟨a', ha', k0, k1, k2, k3, k4⟩ := aw_second (HS9.out.below hu); injection ha' with ha'; subst ha'; obtain ⟨l0, l1, l2, l3, l4⟩ := obj_cells5 hX; obtain ⟨b0, b1, b2⟩ := obj_cells3 hT.2.2.2.1; obtain ⟨m0, m1, m2, m3, m4⟩ := obj_cells5 hT.2.1; obtain ⟨n0, n1, n2, n3, n4⟩ := obj_cells5 hT.2.2.1; obtain ⟨o0, o1, o2⟩ := obj_cells3 hQ; clear hT hX hQ); go_simp; try (with_reducible rfl))
      try simp only [Act.put, List.setIfInBounds_toArray, List.set_cons_zero, List.set_cons_succ]
      refine give_val (i := 7) (v := ?_) rfl (by kernel_rfl) (by kernel_rfl) (by kernel_rfl) (fun _ _ _ h => h) (by rfl) (fun u hu => ?_) hS ?_
      rotate_left
      · ((have hT := HW9.out.below hu; have hX := obj_below HX9.out hu; have hQ := HR9.out.below hu; obtain ⟨a', ha', k0, k1, k2, k3, k4⟩ := aw_second (HS9.out.below hu); injection ha' with ha'; subst ha'; obtain ⟨l0, l1, l2, l3, l4⟩ := obj_cells5 hX; obtain ⟨b0, b1, b2⟩ := obj_cells3 hT.2.2.2.1; obtain ⟨m0, m1, m2, m3, m4⟩ := obj_cells5 hT.2.1; obtain ⟨n0, n1, n2, n3, n4⟩ := obj_cells5 hT.2.2.1; obtain ⟨o0, o1, o2⟩ := obj_cells3 hQ; clear hT hX hQ); go_simp; try (with_reducible rfl))
      try simp only [Act.put, List.setIfInBounds_toArray, List.set_cons_zero, List.set_cons_succ]
      refine give_val (i := 8) (v := ?_) rfl (by kernel_rfl) (by kernel_rfl) (by kernel_rfl) (fun _ _ _ h => h) (by rfl) (fun u hu => ?_) hS ?_
      rotate_left
      · ((have hT := HW9.out.below hu; have hX := obj_below HX9.out hu; have hQ := HR9.out.below hu; obtain ⟨a', ha', k0, k1, k2, k3, k4⟩ := aw_second (HS9.out.below hu); injection ha' with ha'; subst ha'; obtain ⟨l0, l1, l2, l3, l4⟩ := obj_cells5 hX; obtain ⟨b0, b1, b2⟩ := obj_cells3 hT.2.2.2.1; obtain ⟨m0, m1, m2, m3, m4⟩ := obj_cells5 hT.2.1; obtain ⟨n0, n1, n2, n3, n4⟩ := obj_cells5 hT.2.2.1; obtain ⟨o0, o1, o2⟩ := obj_cells3 hQ; clear hT hX hQ); go_simp; try (with_reducible rfl))
      try simp only [Act.put, List.setIfInBounds_toArray, List.set_cons_zero, List.set_cons_succ]
      refine give_val (i := 9) (v := ?_) rfl (by kernel_rfl) (by kernel_rfl) (by kernel_rfl) (fun _ _ _ h => h) (by rfl) (fun u hu => ?_) hS ?_
      rotate_left
      · ((have hT := HW9.out.below hu; have hX := obj_below HX9.out hu; have hQ := HR9.out.below hu; obtain ⟨a', ha', k0, k1, k2, k3, k4⟩ := aw_second (HS9.out.below hu); injection ha' with ha'; subst ha'; obtain ⟨l0, l1, l2, l3, l4⟩ := obj_cells5 hX; obtain ⟨b0, b1, b2⟩ := obj_cells3 hT.2.2.2.1; obtain ⟨m0, m1, m2, m3, m4⟩ := obj_cells5 hT.2.1; obtain ⟨n0, n1, n2, n3, n4⟩ := obj_cells5 hT.2.2.1; obtain ⟨o0, o1, o2⟩ := obj_cells3 hQ; clear hT hX hQ); go_simp; try (with_reducible rfl))
      try simp only [Act.put, List.setIfInBounds_toArray, List.set_cons_zero, List.set_cons_succ]
      refine give_val (i := 10) (v := ?_) rfl (by kernel_rfl) (by kernel_rfl) (by kernel_rfl) (fun _ _ _ h => h) (by rfl) (fun u hu => ?_) hS ?_
      rotate_left
      · ((have hT := HW9.out.below hu; have hX := obj_below HX9.out hu; have hQ := HR9.out.below hu; obtain ⟨a', ha', k0, k1, k2, k3, k4⟩ := aw_second (HS9.out.below hu); injection ha' with ha'; subst ha'; obtain ⟨l0, l1, l2, l3, l4⟩ := obj_cells5 hX; obtain ⟨b0, b1, b2⟩ := obj_cells3 hT.2.2.2.1; obtain ⟨m0, m1, m2, m3, m4⟩ := obj_cells5 hT.2.1; obtain ⟨n0, n1, n2, n3, n4⟩ := obj_cells5 hT.2.2.1; obtain ⟨o0, o1, o2⟩ := obj_cells3 hQ; clear hT hX hQ); go_simp; try (with_reducible rfl))
      try simp only [Act.put, List.setIfInBounds_toArray, List.set_cons_zero, List.set_cons_succ]
      refine give_val (i := 11) (v := ?_) rfl (by kernel_rfl) (by kernel_rfl) (by kernel_rfl) (fun _ _ _ h => h) (by rfl) (fun u hu => ?_) hS ?_
      rotate_left
      · ((have hT := HW9.out.below hu; have hX := obj_below HX9.out hu; have hQ := HR9.out.below hu; obtain ⟨a', ha', k0, k1, k2, k3, k4⟩ := aw_second (HS9.out.below hu); injection ha' with ha'; subst ha'; obtain ⟨l0, l1, l2, l3, l4⟩ := obj_cells5 hX; obtain ⟨b0, b1, b2⟩ := obj_cells3 hT.2.2.2.1; obtain ⟨m0, m1, m2, m3, m4⟩ := obj_cells5 hT.2.1; obtain ⟨n0, n1, n2, n3, n4⟩ := obj_cells5 hT.2.2.1; obtain ⟨o0, o1, o2⟩ := obj_cells3 hQ; clear hT hX hQ); go_simp; try (with_reducible rfl))
      try simp only [Act.put, List.setIfInBounds_toArray, List.set_cons_zero, List.set_cons_succ]
      refine give_val (i := 12) (v := ?_) rfl (by kernel_rfl) (by kernel_rfl) (by kernel_rfl) (fun _ _ _ h => h) (by rfl) (fun u hu => ?_) hS ?_
      rotate_left
      · ((have hT := HW9.out.below hu; have hX := obj_below HX9.out hu; have hQ := HR9.out.below hu; obtain ⟨a', ha', k0, k1, k2, k3, k4⟩ := aw_second (HS9.out.below hu); injection ha' with ha'; subst ha'; obtain ⟨l0, l1, l2, l3, l4⟩ := obj_cells5 hX; obtain ⟨b0, b1, b2⟩ := obj_cells3 hT.2.2.2.1; obtain ⟨m0, m1, m2, m3, m4⟩ := obj_cells5 hT.2.1; obtain ⟨n0, n1, n2, n3, n4⟩ := obj_cells5 hT.2.2.1; obtain ⟨o0, o1, o2⟩ := obj_cells3 hQ; clear hT hX hQ); go_simp; try (with_reducible rfl))
      try simp only [Act.put, List.setIfInBounds_toArray, List.set_cons_zero, List.set_cons_succ]
      refine give_val (i := 13) (v := ?_) rfl (by kernel_rfl) (by kernel_rfl) (by kernel_rfl) (fun _ _ _ h => h) (by rfl) (fun u hu => ?_) hS ?_
      rotate_left
      · ((have hT := HW9.out.below hu; have hX := obj_below HX9.out hu; have hQ := HR9.out.below hu; obtain ⟨a', ha', k0, k1, k2, k3, k4⟩ := aw_second (HS9.out.below hu); injection ha' with ha'; subst ha'; obtain ⟨l0, l1, l2, l3, l4⟩ := obj_cells5 hX; obtain ⟨b0, b1, b2⟩ := obj_cells3 hT.2.2.2.1; obtain ⟨m0, m1, m2, m3, m4⟩ := obj_cells5 hT.2.1; obtain ⟨n0, n1, n2, n3, n4⟩ := obj_cells5 hT.2.2.1; obtain ⟨o0, o1, o2⟩ := obj_cells3 hQ; clear hT hX hQ); go_simp; try (with_reducible rfl))
      try simp only [Act.put, List.setIfInBounds_toArray, List.set_cons_zero, List.set_cons_succ]
      refine give_val (i := 14) (v := ?_) rfl (by kernel_rfl) (by kernel_rfl) (by kernel_rfl) (fun _ _ _ h => h) (by rfl) (fun u hu => ?_) hS ?_
      rotate_left
      · ((have hT := HW9.out.below hu; have hX := obj_below HX9.out hu; have hQ := HR9.out.below hu; obtain ⟨a', ha', k0, k1, k2, k3, k4⟩ := aw_second (HS9.out.below hu); injection ha' with ha'; subst ha'; obtain ⟨l0, l1, l2, l3, l4⟩ := obj_cells5 hX; obtain ⟨b0, b1, b2⟩ := obj_cells3 hT.2.2.2.1; obtain ⟨m0, m1, m2, m3, m4⟩ := obj_cells5 hT.2.1; obtain ⟨n0, n1, n2, n3, n4⟩ := obj_cells5 hT.2.2.1; obtain ⟨o0, o1, o2⟩ := obj_cells3 hQ; clear hT hX hQ); go_simp; try (with_reducible rfl))
      try simp only [Act.put, List.setIfInBounds_toArray, List.set_cons_zero, List.set_cons_succ]
      refine give_val (i := 15) (v := ?_) rfl (by kernel_rfl) (by kernel_rfl) (by kernel_rfl) (fun _ _ _ h => h) (by rfl) (fun u hu => ?_) hS ?_
      rotate_left
      · ((have hT := HW9.out.below hu; have hX := obj_below HX9.out hu; have hQ := HR9.out.below hu; obtain ⟨a', ha', k0, k1, k2, k3, k4⟩ := aw_second (HS9.out.below hu); injection ha' with ha'; subst ha'; obtain ⟨l0, l1, l2, l3, l4⟩ := obj_cells5 hX; obtain ⟨b0, b1, b2⟩ := obj_cells3 hT.2.2.2.1; obtain ⟨m0, m1, m2, m3, m4⟩ := obj_cells5 hT.2.1; obtain ⟨n0, n1, n2, n3, n4⟩ := obj_cells5 hT.2.2.1; obtain ⟨o0, o1, o2⟩ := obj_cells3 hQ; clear hT hX hQ); go_simp; try (with_reducible rfl))
      try simp only [Act.put, List.setIfInBounds_toArray, List.set_cons_zero, List.set_cons_succ]
      refine give_val (i := 16) (v := ?_) rfl (by kernel_rfl) (by kernel_rfl) (by kernel_rfl) (fun _ _ _ h => h) (by rfl) (fun u hu => ?_) hS ?_
      rotate_left
      · ((have hT := HW9.out.below hu; have hX := obj_below HX9.out hu; have hQ := HR9.out.below hu; obtain ⟨a', ha', k0, k1, k2, k3, k4⟩ := aw_second (HS9.out.below hu); injection ha' with ha'; subst ha'; obtain ⟨l0, l1, l2, l3, l4⟩ := obj_cells5 hX; obtain ⟨b0, b1, b2⟩ := obj_cells3 hT.2.2.2.1; obtain ⟨m0, m1, m2, m3, m4⟩ := obj_cells5 hT.2.1; obtain ⟨n0, n1, n2, n3, n4⟩ := obj_cells5 hT.2.2.1; obtain ⟨o0, o1, o2⟩ := obj_cells3 hQ; clear hT hX hQ); go_simp; try (with_reducible rfl))
      try simp only [Act.put, List.setIfInBounds_toArray, List.set_cons_zero, List.set_cons_succ]
      refine give_val (i := 17) (v := ?_) rfl (by kernel_rfl) (by kernel_rfl) (by kernel_rfl) (fun _ _ _ h => h) (by rfl) (fun u hu => ?_) hS ?_
      rotate_left
      · ((have hT := HW9.out.below hu; have hX := obj_below HX9.out hu; have hQ := HR9.out.below hu; obtain ⟨a', ha', k0, k1, k2, k3, k4⟩ := aw_second (HS9.out.below hu); injection ha' with ha'; subst ha'; obtain ⟨l0, l1, l2, l3, l4⟩ := obj_cells5 hX; obtain ⟨b0, b1, b2⟩ := obj_cells3 hT.2.2.2.1; obtain ⟨m0, m1, m2, m3, m4⟩ := obj_cells5 hT.2.1; obtain ⟨n0, n1, n2, n3, n4⟩ := obj_cells5 hT.2.2.1; obtain ⟨o0, o1, o2⟩ := obj_cells3 hQ; clear hT hX hQ); go_simp; try (with_reducible rfl))
      try simp only [Act.put, List.setIfInBounds_toArray, List.set_cons_zero, List.set_cons_succ]
      refine give_val (i := 18) (v := ?_) rfl (by kernel_rfl) (by kernel_rfl) (by kernel_rfl) (fun _ _ _ h => h) (by rfl) (fun u hu => ?_) hS ?_
      rotate_left
      · ((have hT := HW9.out.below hu; have hX := obj_below HX9.out hu; have hQ := HR9.out.below hu; obtain ⟨a', ha', k0, k1, k2, k3, k4⟩ := aw_second (HS9.out.below hu); injection ha' with ha'; subst ha'; obtain ⟨l0, l1, l2, l3, l4⟩ := obj_cells5 hX; obtain ⟨b0, b1, b2⟩ := obj_cells3 hT.2.2.2.1; obtain ⟨m0, m1, m2, m3, m4⟩ := obj_cells5 hT.2.1; obtain ⟨n0, n1, n2, n3, n4⟩ := obj_cells5 hT.2.2.1; obtain ⟨o0, o1, o2⟩ := obj_cells3 hQ; clear hT hX hQ); go_simp; try (with_reducible rfl))
      try simp only [Act.put, List.setIfInBounds_toArray, List.set_cons_zero, List.set_cons_succ]
      refine give_val (i := 19) (v := ?_) rfl (by kernel_rfl) (by kernel_rfl) (by kernel_rfl) (fun _ _ _ h => h) (by rfl) (fun u hu => ?_) hS ?_
      rotate_left
      · ((have hT := HW9.out.below hu; have hX := obj_below HX9.out hu; have hQ := HR9.out.below hu; obtain ⟨a', ha', k0, k1, k2, k3, k4⟩ := aw_second (HS9.out.below hu); injection ha' with ha'; subst ha'; obtain ⟨l0, l1, l2, l3, l4⟩ := obj_cells5 hX; obtain ⟨b0, b1, b2⟩ := obj_cells3 hT.2.2.2.1; obtain ⟨m0, m1, m2, m3, m4⟩ := obj_cells5 hT.2.1; obtain ⟨n0, n1, n2, n3, n4⟩ := obj_cells5 hT.2.2.1; obtain ⟨o0, o1, o2⟩ := obj_cells3 hQ; clear hT hX hQ); go_simp; try (with_reducible rfl))
      try simp only [Act.put, List.setIfInBounds_toArray, List.set_cons_zero, List.set_cons_succ]
      refine give_val (i := 20) (v := ?_) rfl (by kernel_rfl) (by kernel_rfl) (by kernel_rfl) (fun _ _ _ h => h) (by rfl) (fun u hu => ?_) hS ?_
      rotate_left
      · ((have hT := HW9.out.below hu; have hX := obj_below HX9.out hu; have hQ := HR9.out.below hu; obtain ⟨a', ha', k0, k1, k2, k3, k4⟩ := aw_second (HS9.out.below hu); injection ha' with ha'; subst ha'; obtain ⟨l0, l1, l2, l3, l4⟩ := obj_cells5 hX; obtain ⟨b0, b1, b2⟩ := obj_cells3 hT.2.2.2.1; obtain ⟨m0, m1, m2, m3, m4⟩ := obj_cells5 hT.2.1; obtain ⟨n0, n1, n2, n3, n4⟩ := obj_cells5 hT.2.2.1; obtain ⟨o0, o1, o2⟩ := obj_cells3 hQ; clear hT hX hQ); go_simp; try (with_reducible rfl))
      try simp only [Act.put, List.setIfInBounds_toArray, List.set_cons_zero, List.set_cons_succ]
      refine give_val (i := 21) (v := ?_) rfl (by kernel_rfl) (by kernel_rfl) (by kernel_rfl) (fun _ _ _ h => h) (by rfl) (fun u hu => ?_) hS ?_
      rotate_left
      · ((have hT := HW9.out.below hu; have hX := obj_below HX9.out hu; have hQ := HR9.out.below hu; obtain ⟨a', ha', k0, k1, k2, k3, k4⟩ := aw_second (HS9.out.below hu); injection ha' with ha'; subst ha'; obtain ⟨l0, l1, l2, l3, l4⟩ := obj_cells5 hX; obtain ⟨b0, b1, b2⟩ := obj_cells3 hT.2.2.2.1; obtain ⟨m0, m1, m2, m3, m4⟩ := obj_cells5 hT.2.1; obtain ⟨n0, n1, n2, n3, n4⟩ := obj_cells5 hT.2.2.1; obtain ⟨o0, o1, o2⟩ := obj_cells3 hQ; clear hT hX hQ); go_simp; try (with_reducible rfl))
      try simp only [Act.put, List.setIfInBounds_toArray, List.set_cons_zero, List.set_cons_succ]
      refine give_val (i := 22) (v := ?_) rfl (by kernel_rfl) (by kernel_rfl) (by kernel_rfl) (fun _ _ _ h => h) (by rfl) (fun u hu => ?_) hS ?_
      rotate_left
      · ((have hT := HW9.out.below hu; have hX := obj_below HX9.out hu; have hQ := HR9.out.below hu; obtain ⟨a', ha', k0, k1, k2, k3, k4⟩ := aw_second (HS9.out.below hu); injection ha' with ha'; subst ha'; obtain ⟨l0, l1, l2, l3, l4⟩ := obj_cells5 hX; obtain ⟨b0, b1, b2⟩ := obj_cells3 hT.2.2.2.1; obtain ⟨m0, m1, m2, m3, m4⟩ := obj_cells5 hT.2.1; obtain ⟨n0, n1, n2, n3, n4⟩ := obj_cells5 hT.2.2.1; obtain ⟨o0, o1, o2⟩ := obj_cells3 hQ; clear hT hX hQ); go_simp; try (with_reducible rfl))
      try simp only [Act.put, List.setIfInBounds_toArray, List.set_cons_zero, List.set_cons_succ]
      refine give_val (i := 23) (v := ?_) rfl (by kernel_rfl) (by kernel_rfl) (by kernel_rfl) (fun _ _ _ h => h) (by rfl) (fun u hu => ?_) hS ?_
      rotate_left
      · ((have hT := HW9.out.below hu; have hX := obj_below HX9.out hu; have hQ := HR9.out.below hu; obtain ⟨a', ha', k0, k1, k2, k3, k4⟩ := aw_second (HS9.out.below hu); injection ha' with ha'; subst ha'; obtain ⟨l0, l1, l2, l3, l4⟩ := obj_cells5 hX; obtain ⟨b0, b1, b2⟩ := obj_cells3 hT.2.2.2.1; obtain ⟨m0, m1, m2, m3, m4⟩ := obj_cells5 hT.2.1; obtain ⟨n0, n1, n2, n3, n4⟩ := obj_cells5 hT.2.2.1; obtain ⟨o0, o1, o2⟩ := obj_cells3 hQ; clear hT hX hQ); go_simp; try (with_reducible rfl))
      try simp only [Act.put, List.setIfInBounds_toArray, List.set_cons_zero, List.set_cons_succ]
      refine wpAnyH_ready (rs := [24, 25]) (by kernel_rfl) (by simp) (arm_call (i := 24) 16 #[.agg #[.int .i64 1, .int .i64 1, .slice A 3 3]] rfl (by rfl) (aw_set A _ (HW9.out.below hS).2.2.2.2) ?_ ?_ (arm_slice (i := 25) (.cells #[.int .i64 2, .int .i64 3, .int .i64 4] 3) 3 rfl (by rfl) ?_ ?_ AllReadyH.nil))
      · (go_simp; try (with_reducible rfl))
      · intro u' hb
        have hS' : (fun u => Below wc.heap.size wc u) u' := hbt hS hb
        refine ⟨hS', ?_⟩
        clear hS hb
        have hS := hS'; clear hS'
        rename World => u
        try simp only [Act.put, List.setIfInBounds_toArray, List.set_cons_zero, List.set_cons_succ]
        refine wpAnyH_ready (rs := [25]) (by kernel_rfl) (by simp) (arm_slice (i := 25) (.cells #[.int .i64 2, .int .i64 3, .int .i64 4] 3) 3 rfl (by rfl) ?_ ?_ AllReadyH.nil)
        · (go_simp; try (with_reducible rfl))
        · intro p25 u' hb ho25 hp25
          replace hp25 := Nat.le_trans (hS.size) hp25
          have hS' : (fun u => Below wc.heap.size wc u) u' := hbt hS hb
          refine ⟨hS', ?_⟩
          clear hS hb
          have hS := hS'; clear hS'
          rename World => u
          try simp only [Act.put, List.setIfInBounds_toArray, List.set_cons_zero, List.set_cons_succ]
          refine only_call (i := 26) 24 #[.slice (some ⟨p25, 0, none⟩) 3 3] rfl (by kernel_rfl) (by rfl) ((aw_of234 _ _ ho25).mono fun e w' he => ⟨he.1, hbt hS he.2⟩) ?_ ?_
          · (go_simp; try (with_reducible rfl))
          clear hS
          intro w26 hS
          try simp only [Act.put, List.setIfInBounds_toArray, List.set_cons_zero, List.set_cons_succ]
          refine give_val (i := 27) (v := ?_) rfl (by kernel_rfl) (by kernel_rfl) (by kernel_rfl) (fun _ _ _ h => h) (by rfl) (fun u hu => ?_) hS ?_
          rotate_left
          · ((have hT := HW9.out.below hu; have hX := obj_below HX9.out hu; have hQ := HR9.out.below hu; obtain ⟨a', ha', k0, k1, k2, k3, k4⟩ := aw_second (HS9.out.below hu); injection ha' with ha'; subst ha'; obtain ⟨l0, l1, l2, l3, l4⟩ := obj_cells5 hX; obtain ⟨b0, b1, b2⟩ := obj_cells3 hT.2.2.2.1; obtain ⟨m0, m1, m2, m3, m4⟩ := obj_cells5 hT.2.1; obtain ⟨n0, n1, n2, n3, n4⟩ := obj_cells5 hT.2.2.1; obtain ⟨o0, o1, o2⟩ := obj_cells3 hQ; clear hT hX hQ); go_simp; try (with_reducible rfl))
          try simp only [Act.put, List.setIfInBounds_toArray, List.set_cons_zero, List.set_cons_succ]
          refine give_val (i := 28) (v := ?_) rfl (by kernel_rfl) (by kernel_rfl) (by kernel_rfl) (fun _ _ _ h => h) (by rfl) (fun u hu => ?_) hS ?_
          rotate_left
          · ((have hT := HW9.out.below hu; have hX := obj_below HX9.out hu; have hQ := HR9.out.below hu; obtain ⟨a', ha', k0, k1, k2, k3, k4⟩ := aw_second (HS9.out.below hu); injection ha' with ha'; subst ha'; obtain ⟨l0, l1, l2, l3, l4⟩ := obj_cells5 hX; obtain ⟨b0, b1, b2⟩ := obj_cells3 hT.2.2.2.1; obtain ⟨m0, m1, m2, m3, m4⟩ := obj_cells5 hT.2.1; obtain ⟨n0, n1, n2, n3, n4⟩ := obj_cells5 hT.2.2.1; obtain ⟨o0, o1, o2⟩ := obj_cells3 hQ; clear hT hX hQ); go_simp; try (with_reducible rfl))
          try simp only [Act.put, List.setIfInBounds_toArray, List.set_cons_zero, List.set_cons_succ]
          refine give_val (i := 29) (v := ?_) rfl (by kernel_rfl) (by kernel_rfl) (by kernel_rfl) (fun _ _ _ h => h) (by rfl) (fun u hu => ?_) hS ?_
          rotate_left
          · ((have hT := HW9.out.below hu; have hX := obj_below HX9.out hu; have hQ := HR9.out.below hu; obtain ⟨a', ha', k0, k1, k2, k3, k4⟩ := aw_second (HS9.out.below hu); injection ha' with ha'; subst ha'; obtain ⟨l0, l1, l2, l3, l4⟩ := obj_cells5 hX; obtain ⟨b0, b1, b2⟩ := obj_cells3 hT.2.2.2.1; obtain ⟨m0, m1, m2, m3, m4⟩ := obj_cells5 hT.2.1; obtain ⟨n0, n1, n2, n3, n4⟩ := obj_cells5 hT.2.2.1; obtain ⟨o0, o1, o2⟩ := obj_cells3 hQ; clear hT hX hQ); go_simp; try (with_reducible rfl))
          try simp only [Act.put, List.setIfInBounds_toArray, List.set_cons_zero, List.set_cons_succ]
          refine give_val (i := 30) (v := ?_) rfl (by kernel_rfl) (by kernel_rfl) (by kernel_rfl) (fun _ _ _ h => h) (by rfl) (fun u hu => ?_) hS ?_
          rotate_left
          · ((have hT := HW9.out.below hu; have hX := obj_below HX9.out hu; have hQ := HR9.out.below hu; obtain ⟨a', ha', k0, k1, k2, k3, k4⟩ := aw_second (HS9.out.below hu); injection ha' with ha'; subst ha'; obtain ⟨l0, l1, l2, l3, l4⟩ := obj_cells5 hX; obtain ⟨b0, b1, b2⟩ := obj_cells3 hT.2.2.2.1; obtain ⟨m0, m1, m2, m3, m4⟩ := obj_cells5 hT.2.1; obtain ⟨n0, n1, n2, n3, n4⟩ := obj_cells5 hT.2.2.1; obtain ⟨o0, o1, o2⟩ := obj_cells3 hQ; clear hT hX hQ); go_simp; try (with_reducible rfl))
          try simp only [Act.put, List.setIfInBounds_toArray, List.set_cons_zero, List.set_cons_succ]
          refine give_val (i := 31) (v := ?_) rfl (by kernel_rfl) (by kernel_rfl) (by kernel_rfl) (fun _ _ _ h => h) (by rfl) (fun u hu => ?_) hS ?_
          rotate_left
          · ((have hT := HW9.out.below hu; have hX := obj_below HX9.out hu; have hQ := HR9.out.below hu; obtain ⟨a', ha', k0, k1, k2, k3, k4⟩ := aw_second (HS9.out.below hu); injection ha' with ha'; subst ha'; obtain ⟨l0, l1, l2, l3, l4⟩ := obj_cells5 hX; obtain ⟨b0, b1, b2⟩ := obj_cells3 hT.2.2.2.1; obtain ⟨m0, m1, m2, m3, m4⟩ := obj_cells5 hT.2.1; obtain ⟨n0, n1, n2, n3, n4⟩ := obj_cells5 hT.2.2.1; obtain ⟨o0, o1, o2⟩ := obj_cells3 hQ; clear hT hX hQ); go_simp; try (with_reducible rfl))
          try simp only [Act.put, List.setIfInBounds_toArray, List.set_cons_zero, List.set_cons_succ]
          refine give_val (i := 32) (v := ?_) rfl (by kernel_rfl) (by kernel_rfl) (by kernel_rfl) (fun _ _ _ h => h) (by rfl) (fun u hu => ?_) hS ?_
          rotate_left
          · ((have hT := HW9.out.below hu; have hX := obj_below HX9.out hu; have hQ := HR9.out.below hu; obtain ⟨a', ha', k0, k1, k2, k3, k4⟩ := aw_second (HS9.out.below hu); injection ha' with ha'; subst ha'; obtain ⟨l0, l1, l2, l3, l4⟩ := obj_cells5 hX; obtain ⟨b0, b1, b2⟩ := obj_cells3 hT.2.2.2.1; obtain ⟨m0, m1, m2, m3, m4⟩ := obj_cells5 hT.2.1; obtain ⟨n0, n1, n2, n3, n4⟩ := obj_cells5 hT.2.2.1; obtain ⟨o0, o1, o2⟩ := obj_cells3 hQ; clear hT hX hQ); go_simp; try (with_reducible rfl))
          try simp only [Act.put, List.setIfInBounds_toArray, List.set_cons_zero, List.set_cons_succ]
          refine give_val (i := 33) (v := ?_) rfl (by kernel_rfl) (by kernel_rfl) (by kernel_rfl) (fun _ _ _ h => h) (by rfl) (fun u hu => ?_) hS ?_
          rotate_left
          · ((have hT := HW9.out.below hu; have hX := obj_below HX9.out hu; have hQ := HR9.out.below hu; obtain ⟨a', ha', k0, k1, k2, k3, k4⟩ := aw_second (HS9.out.below hu); injection ha' with ha'; subst ha'; obtain ⟨l0, l1, l2, l3, l4⟩ := obj_cells5 hX; obtain ⟨b0, b1, b2⟩ := obj_cells3 hT.2.2.2.1; obtain ⟨m0, m1, m2, m3, m4⟩ := obj_cells5 hT.2.1; obtain ⟨n0, n1, n2, n3, n4⟩ := obj_cells5 hT.2.2.1; obtain ⟨o0, o1, o2⟩ := obj_cells3 hQ; clear hT hX hQ); go_simp; try (with_reducible rfl))
          try simp only [Act.put, List.setIfInBounds_toArray, List.set_cons_zero, List.set_cons_succ]
          refine give_val (i := 34) (v := ?_) rfl (by kernel_rfl) (by kernel_rfl) (by kernel_rfl) (fun _ _ _ h => h) (by rfl) (fun u hu => ?_) hS ?_
          rotate_left
          · ((have hT := HW9.out.below hu; have hX := obj_below HX9.out hu; have hQ := HR9.out.below hu; obtain ⟨a', ha', k0, k1, k2, k3, k4⟩ := aw_second (HS9.out.below hu); injection ha' with ha'; subst ha'; obtain ⟨l0, l1, l2, l3, l4⟩ := obj_cells5 hX; obtain ⟨b0, b1, b2⟩ := obj_cells3 hT.2.2.2.1; obtain ⟨m0, m1, m2, m3, m4⟩ := obj_cells5 hT.2.1; obtain ⟨n0, n1, n2, n3, n4⟩ := obj_cells5 hT.2.2.1; obtain ⟨o0, o1, o2⟩ := obj_cells3 hQ; clear hT hX hQ); go_simp; try (with_reducible rfl))
          try simp only [Act.put, List.setIfInBounds_toArray, List.set_cons_zero, List.set_cons_succ]
          refine give_val (i := 35) (v := ?_) rfl (by kernel_rfl) (by kernel_rfl) (by kernel_rfl) (fun _ _ _ h => h) (by rfl) (fun u hu => ?_) hS ?_
          rotate_left
          · ((have hT := HW9.out.below hu; have hX := obj_below HX9.out hu; have hQ := HR9.out.below hu; obtain ⟨a', ha', k0, k1, k2, k3, k4⟩ := aw_second (HS9.out.below hu); injection ha' with ha'; subst ha'; obtain ⟨l0, l1, l2, l3, l4⟩ := obj_cells5 hX; obtain ⟨b0, b1, b2⟩ := obj_cells3 hT.2.2.2.1; obtain ⟨m0, m1, m2, m3, m4⟩ := obj_cells5 hT.2.1; obtain ⟨n0, n1, n2, n3, n4⟩ := obj_cells5 hT.2.2.1; obtain ⟨o0, o1, o2⟩ := obj_cells3 hQ; clear hT hX hQ); go_simp; try (with_reducible rfl))
          try simp only [Act.put, List.setIfInBounds_toArray, List.set_cons_zero, List.set_cons_succ]
          refine give_val (i := 36) (v := ?_) rfl (by kernel_rfl) (by kernel_rfl) (by kernel_rfl) (fun _ _ _ h => h) (by rfl) (fun u hu => ?_) hS ?_
          rotate_left
          · ((have hT := HW9.out.below hu; have hX := obj_below HX9.out hu; have hQ := HR9.out.below hu; obtain ⟨a', ha', k0, k1, k2, k3, k4⟩ := aw_second (HS9.out.below hu); injection ha' with ha'; subst ha'; obtain ⟨l0, l1, l2, l3, l4⟩ := obj_cells5 hX; obtain ⟨b0, b1, b2⟩ := obj_cells3 hT.2.2.2.1; obtain ⟨m0, m1, m2, m3, m4⟩ := obj_cells5 hT.2.1; obtain ⟨n0, n1, n2, n3, n4⟩ := obj_cells5 hT.2.2.1; obtain ⟨o0, o1, o2⟩ := obj_cells3 hQ; clear hT hX hQ); go_simp; try (with_reducible rfl))
          try simp only [Act.put, List.setIfInBounds_toArray, List.set_cons_zero, List.set_cons_succ]
          refine give_val (i := 37) (v := ?_) rfl (by kernel_rfl) (by kernel_rfl) (by kernel_rfl) (fun _ _ _ h => h) (by rfl) (fun u hu => ?_) hS ?_
          rotate_left
          · ((have hT := HW9.out.below hu; have hX := obj_below HX9.out hu; have hQ := HR9.out.below hu; obtain ⟨a', ha', k0, k1, k2, k3, k4⟩ := aw_second (HS9.out.below hu); injection ha' with ha'; subst ha'; obtain ⟨l0, l1, l2, l3, l4⟩ := obj_cells5 hX; obtain ⟨b0, b1, b2⟩ := obj_cells3 hT.2.2.2.1; obtain ⟨m0, m1, m2, m3, m4⟩ := obj_cells5 hT.2.1; obtain ⟨n0, n1, n2, n3, n4⟩ := obj_cells5 hT.2.2.1; obtain ⟨o0, o1, o2⟩ := obj_cells3 hQ; clear hT hX hQ); go_simp; try (with_reducible rfl))
          try simp only [Act.put, List.setIfInBounds_toArray, List.set_cons_zero, List.set_cons_succ]
          refine give_val (i := 38) (v := ?_) rfl (by kernel_rfl) (by kernel_rfl) (by kernel_rfl) (fun _ _ _ h => h) (by rfl) (fun u hu => ?_) hS ?_
          rotate_left
          · ((have hT := HW9.out.below hu; have hX := obj_below HX9.out hu; have hQ := HR9.out.below hu; obtain ⟨a', ha', k0, k1, k2, k3, k4⟩ := aw_second (HS9.out.below hu); injection ha' with ha'; subst ha'; obtain ⟨l0, l1, l2, l3, l4⟩ := obj_cells5 hX; obtain ⟨b0, b1, b2⟩ := obj_cells3 hT.2.2.2.1; obtain ⟨m0, m1, m2, m3, m4⟩ := obj_cells5 hT.2.1; obtain ⟨n0, n1, n2, n3, n4⟩ := obj_cells5 hT.2.2.1; obtain ⟨o0, o1, o2⟩ := obj_cells3 hQ; clear hT hX hQ); go_simp; try (with_reducible rfl))
          try simp only [Act.put, List.setIfInBounds_toArray, List.set_cons_zero, List.set_cons_succ]
          refine give_val (i := 39) (v := ?_) rfl (by kernel_rfl) (by kernel_rfl) (by kernel_rfl) (fun _ _ _ h => h) (by rfl) (fun u hu => ?_) hS ?_
          rotate_left
          · ((have hT := HW9.out.below hu; have hX := obj_below HX9.out hu; have hQ := HR9.out.below hu; obtain ⟨a', ha', k0, k1, k2, k3, k4⟩ := aw_second (HS9.out.below hu); injection ha' with ha'; subst ha'; obtain ⟨l0, l1, l2, l3, l4⟩ := obj_cells5 hX; obtain ⟨b0, b1, b2⟩ := obj_cells3 hT.2.2.2.1; obtain ⟨m0, m1, m2, m3, m4⟩ := obj_cells5 hT.2.1; obtain ⟨n0, n1, n2, n3, n4⟩ := obj_cells5 hT.2.2.1; obtain ⟨o0, o1, o2⟩ := obj_cells3 hQ; clear hT hX hQ); go_simp; try (with_reducible rfl))
          try simp only [Act.put, List.setIfInBounds_toArray, List.set_cons_zero, List.set_cons_succ]
          refine give_val (i := 40) (v := ?_) rfl (by kernel_rfl) (by kernel_rfl) (by kernel_rfl) (fun _ _ _ h => h) (by rfl) (fun u hu => ?_) hS ?_
          rotate_left
          · ((have hT := HW9.out.below hu; have hX := obj_below HX9.out hu; have hQ := HR9.out.below hu; obtain ⟨a', ha', k0, k1, k2, k3, k4⟩ := aw_second (HS9.out.below hu); injection ha' with ha'; subst ha'; obtain ⟨l0, l1, l2, l3, l4⟩ := obj_cells5 hX; obtain ⟨b0, b1, b2⟩ := obj_cells3 hT.2.2.2.1; obtain ⟨m0, m1, m2, m3, m4⟩ := obj_cells5 hT.2.1; obtain ⟨n0, n1, n2, n3, n4⟩ := obj_cells5 hT.2.2.1; obtain ⟨o0, o1, o2⟩ := obj_cells3 hQ; clear hT hX hQ); go_simp; try (with_reducible rfl))
          try simp only [Act.put, List.setIfInBounds_toArray, List.set_cons_zero, List.set_cons_succ]
          refine give_val (i := 41) (v := ?_) rfl (by kernel_rfl) (by kernel_rfl) (by kernel_rfl) (fun _ _ _ h => h) (by rfl) (fun u hu => ?_) hS ?_
          rotate_left
          · ((have hT := HW9.out.below hu; have hX := obj_below HX9.out hu; have hQ := HR9.out.below hu; obtain ⟨a', ha', k0, k1, k2, k3, k4⟩ := aw_second (HS9.out.below hu); injection ha' with ha'; subst ha'; obtain ⟨l0, l1, l2, l3, l4⟩ := obj_cells5 hX; obtain ⟨b0, b1, b2⟩ := obj_cells3 hT.2.2.2.1; obtain ⟨m0, m1, m2, m3, m4⟩ := obj_cells5 hT.2.1; obtain ⟨n0, n1, n2, n3, n4⟩ := obj_cells5 hT.2.2.1; obtain ⟨o0, o1, o2⟩ := obj_cells3 hQ; clear hT hX hQ); go_simp; try (with_reducible rfl))
          try simp only [Act.put, List.setIfInBounds_toArray, List.set_cons_zero, List.set_cons_succ]
          refine give_val (i := 42) (v := ?_) rfl (by kernel_rfl) (by kernel_rfl) (by kernel_rfl) (fun _ _ _ h => h) (by rfl) (fun u hu => ?_) hS ?_
          rotate_left
          · ((have hT := HW9.out.below hu; have hX := obj_below HX9.out hu; have hQ := HR9.out.below hu; obtain ⟨a', ha', k0, k1, k2, k3, k4⟩ := aw_second (HS9.out.below hu); injection ha' with ha'; subst ha'; obtain ⟨l0, l1, l2, l3, l4⟩ := obj_cells5 hX; obtain ⟨b0, b1, b2⟩ := obj_cells3 hT.2.2.2.1; obtain ⟨m0, m1, m2, m3, m4⟩ := obj_cells5 hT.2.1; obtain ⟨n0, n1, n2, n3, n4⟩ := obj_cells5 hT.2.2.1; obtain ⟨o0, o1, o2⟩ := obj_cells3 hQ; clear hT hX hQ); go_simp; try (with_reducible rfl))
          try simp only [Act.put, List.setIfInBounds_toArray, List.set_cons_zero, List.set_cons_succ]
          refine give_val (i := 43) (v := ?_) rfl (by kernel_rfl) (by kernel_rfl) (by kernel_rfl) (fun _ _ _ h => h) (by rfl) (fun u hu => ?_) hS ?_
          rotate_left
          · ((have hT := HW9.out.below hu; have hX := obj_below HX9.out hu; have hQ := HR9.out.below hu; obtain ⟨a', ha', k0, k1, k2, k3, k4⟩ := aw_second (HS9.out.below hu); injection ha' with ha'; subst ha'; obtain ⟨l0, l1, l2, l3, l4⟩ := obj_cells5 hX; obtain ⟨b0, b1, b2⟩ := obj_cells3 hT.2.2.2.1; obtain ⟨m0, m1, m2, m3, m4⟩ := obj_cells5 hT.2.1; obtain ⟨n0, n1, n2, n3, n4⟩ := obj_cells5 hT.2.2.1; obtain ⟨o0, o1, o2⟩ := obj_cells3 hQ; clear hT hX hQ); go_simp; try (with_reducible rfl))
          try simp only [Act.put, List.setIfInBounds_toArray, List.set_cons_zero, List.set_cons_succ]
          refine give_val (i := 44) (v := ?_) rfl (by kernel_rfl) (by kernel_rfl) (by kernel_rfl) (fun _ _ _ h => h) (by rfl) (fun u hu => ?_) hS ?_
          rotate_left
          · ((have hT := HW9.out.below hu; have hX := obj_below HX9.out hu; have hQ := HR9.out.below hu; obtain ⟨a', ha', k0, k1, k2, k3, k4⟩ := aw_second (HS9.out.below hu); injection ha' with ha'; subst ha'; obtain ⟨l0, l1, l2, l3, l4⟩ := obj_cells5 hX; obtain ⟨b0, b1, b2⟩ := obj_cells3 hT.2.2.2.1; obtain ⟨m0, m1, m2, m3, m4⟩ := obj_cells5 hT.2.1; obtain ⟨n0, n1, n2, n3, n4⟩ := obj_cells5 hT.2.2.1; obtain ⟨o0, o1, o2⟩ := obj_cells3 hQ; clear hT hX hQ); go_simp; try (with_reducible rfl))
          try simp only [Act.put, List.setIfInBounds_toArray, List.set_cons_zero, List.set_cons_succ]
          refine give_val (i := 45) (v := ?_) rfl (by kernel_rfl) (by kernel_rfl) (by kernel_rfl) (fun _ _ _ h => h) (by rfl) (fun u hu => ?_) hS ?_
          rotate_left
          · ((have hT := HW9.out.below hu; have hX := obj_below HX9.out hu; have hQ := HR9.out.below hu; obtain ⟨a', ha', k0, k1, k2, k3, k4⟩ := aw_second (HS9.out.below hu); injection ha' with ha'; subst ha'; obtain ⟨l0, l1, l2, l3, l4⟩ := obj_cells5 hX; obtain ⟨b0, b1, b2⟩ := obj_cells3 hT.2.2.2.1; obtain ⟨m0, m1, m2, m3, m4⟩ := obj_cells5 hT.2.1; obtain ⟨n0, n1, n2, n3, n4⟩ := obj_cells5 hT.2.2.1; obtain ⟨o0, o1, o2⟩ := obj_cells3 hQ; clear hT hX hQ); go_simp; try (with_reducible rfl))
          try simp only [Act.put, List.setIfInBounds_toArray, List.set_cons_zero, List.set_cons_succ]
          refine give_val (i := 46) (v := ?_) rfl (by kernel_rfl) (by kernel_rfl) (by kernel_rfl) (fun _ _ _ h => h) (by rfl) (fun u hu => ?_) hS ?_
          rotate_left
          · ((have hT := HW9.out.below hu; have hX := obj_below HX9.out hu; have hQ := HR9.out.below hu; obtain ⟨a', ha', k0, k1, k2, k3, k4⟩ := aw_second (HS9.out.below hu); injection ha' with ha'; subst ha'; obtain ⟨l0, l1, l2, l3, l4⟩ := obj_cells5 hX; obtain ⟨b0, b1, b2⟩ := obj_cells3 hT.2.2.2.1; obtain ⟨m0, m1, m2, m3, m4⟩ := obj_cells5 hT.2.1; obtain ⟨n0, n1, n2, n3, n4⟩ := obj_cells5 hT.2.2.1; obtain ⟨o0, o1, o2⟩ := obj_cells3 hQ; clear hT hX hQ); go_simp; try (with_reducible rfl))
          try simp only [Act.put, List.setIfInBounds_toArray, List.set_cons_zero, List.set_cons_succ]
          refine give_val (i := 47) (v := ?_) rfl (by kernel_rfl) (by kernel_rfl) (by kernel_rfl) (fun _ _ _ h => h) (by rfl) (fun u hu => ?_) hS ?_
          rotate_left
          · ((have hT := HW9.out.below hu; have hX := obj_below HX9.out hu; have hQ := HR9.out.below hu; obtain ⟨a', ha', k0, k1, k2, k3, k4⟩ := aw_second (HS9.out.below hu); injection ha' with ha'; subst ha'; obtain ⟨l0, l1, l2, l3, l4⟩ := obj_cells5 hX; obtain ⟨b0, b1, b2⟩ := obj_cells3 hT.2.2.2.1; obtain ⟨m0, m1, m2, m3, m4⟩ := obj_cells5 hT.2.1; obtain ⟨n0, n1, n2, n3, n4⟩ := obj_cells5 hT.2.2.1; obtain ⟨o0, o1, o2⟩ := obj_cells3 hQ; clear hT hX hQ); go_simp; try (with_reducible rfl))
          try simp only [Act.put, List.setIfInBounds_toArray, List.set_cons_zero, List.set_cons_succ]
          refine give_val (i := 48) (v := ?_) rfl (by kernel_rfl) (by kernel_rfl) (by kernel_rfl) (fun _ _ _ h => h) (by rfl) (fun u hu => ?_) hS ?_
          rotate_left
          · ((have hT := HW9.out.below hu; have hX := obj_below HX9.out hu; have hQ := HR9.out.below hu; obtain ⟨a', ha', k0, k1, k2, k3, k4⟩ := aw_second (HS9.out.below hu); injection ha' with ha'; subst ha'; obtain ⟨l0, l1, l2, l3, l4⟩ := obj_cells5 hX; obtain ⟨b0, b1, b2⟩ := obj_cells3 hT.2.2.2.1; obtain ⟨m0, m1, m2, m3, m4⟩ := obj_cells5 hT.2.1; obtain ⟨n0, n1, n2, n3, n4⟩ := obj_cells5 hT.2.2.1; obtain ⟨o0, o1, o2⟩ := obj_cells3 hQ; clear hT hX hQ); go_simp; try (with_reducible rfl))
          try simp only [Act.put, List.setIfInBounds_toArray, List.set_cons_zero, List.set_cons_succ]
          refine give_val (i := 49) (v := ?_) rfl (by kernel_rfl) (by kernel_rfl) (by kernel_rfl) (fun _ _ _ h => h) (by rfl) (fun u hu => ?_) hS ?_
          rotate_left
          · ((have hT := HW9.out.below hu; have hX := obj_below HX9.out hu; have hQ := HR9.out.below hu; obtain ⟨a', ha', k0, k1, k2, k3, k4⟩ := aw_second (HS9.out.below hu); injection ha' with ha'; subst ha'; obtain ⟨l0, l1, l2, l3, l4⟩ := obj_cells5 hX; obtain ⟨b0, b1, b2⟩ := obj_cells3 hT.2.2.2.1; obtain ⟨m0, m1, m2, m3, m4⟩ := obj_cells5 hT.2.1; obtain ⟨n0, n1, n2, n3, n4⟩ := obj_cells5 hT.2.2.1; obtain ⟨o0, o1, o2⟩ := obj_cells3 hQ; clear hT hX hQ); go_simp; try (with_reducible rfl))
          try simp only [Act.put, List.setIfInBounds_toArray, List.set_cons_zero, List.set_cons_succ]
          refine give_val (i := 50) (v := ?_) rfl (by kernel_rfl) (by kernel_rfl) (by kernel_rfl) (fun _ _ _ h => h) (by rfl) (fun u hu => ?_) hS ?_
          rotate_left
          · ((have hT := HW9.out.below hu; have hX := obj_below HX9.out hu; have hQ := HR9.out.below hu; obtain ⟨a', ha', k0, k1, k2, k3, k4⟩ := aw_second (HS9.out.below hu); injection ha' with ha'; subst ha'; obtain ⟨l0, l1, l2, l3, l4⟩ := obj_cells5 hX; obtain ⟨b0, b1, b2⟩ := obj_cells3 hT.2.2.2.1; obtain ⟨m0, m1, m2, m3, m4⟩ := obj_cells5 hT.2.1; obtain ⟨n0, n1, n2, n3, n4⟩ := obj_cells5 hT.2.2.1; obtain ⟨o0, o1, o2⟩ := obj_cells3 hQ; clear hT hX hQ); go_simp; try (with_reducible rfl))
          try simp only [Act.put, List.setIfInBounds_toArray, List.set_cons_zero, List.set_cons_succ]
          refine only_some (i := 51) 10 #[.agg #[.int .i64 1, .int .i64 1, .slice A 3 3]] rfl (by kernel_rfl) (by rfl) ((aw_copy A _ (HW9.out.below hS).2.2.2.2)) ?_ ?_
          · (go_simp; try (with_reducible rfl))
          intro v51 w51 hT
          obtain ⟨A51, c51, rfl, ht51, hb⟩ := hT
          have hS' := hbt hS hb
          refine ⟨hS', ?_⟩
          clear hS
          have hS := hS'; clear hS'
          try simp only [Act.put, List.setIfInBounds_toArray, List.set_cons_zero, List.set_cons_succ]
          refine only_call (i := 52) 23 #[.agg #[.int .i64 1, .int .i64 1, .slice A 3 3], .agg #[.int .i64 1, .int .i64 1, .slice A51 3 c51]] rfl (by kernel_rfl) (by rfl) ((aw_same1 A A51 c51 _ (HW9.out.below hS).2.2.2.2 ht51).mono fun e w' he => ⟨he.1, hbt hS he.2⟩) ?_ ?_
          · (go_simp; try (with_reducible rfl))
          clear hS
          intro w52 hS
          try simp only [Act.put, List.setIfInBounds_toArray, List.set_cons_zero, List.set_cons_succ]
          refine give_val (i := 53) (v := ?_) rfl (by kernel_rfl) (by kernel_rfl) (by kernel_rfl) (fun _ _ _ h => h) (by rfl) (fun u hu => ?_) hS ?_
          rotate_left
          · ((have hT := HW9.out.below hu; have hX := obj_below HX9.out hu; have hQ := HR9.out.below hu; obtain ⟨a', ha', k0, k1, k2, k3, k4⟩ := aw_second (HS9.out.below hu); injection ha' with ha'; subst ha'; obtain ⟨l0, l1, l2, l3, l4⟩ := obj_cells5 hX; obtain ⟨b0, b1, b2⟩ := obj_cells3 hT.2.2.2.1; obtain ⟨m0, m1, m2, m3, m4⟩ := obj_cells5 hT.2.1; obtain ⟨n0, n1, n2, n3, n4⟩ := obj_cells5 hT.2.2.1; obtain ⟨o0, o1, o2⟩ := obj_cells3 hQ; clear hT hX hQ); go_simp; try (with_reducible rfl))
          try simp only [Act.put, List.setIfInBounds_toArray, List.set_cons_zero, List.set_cons_succ]
          refine give_val (i := 54) (v := ?_) rfl (by kernel_rfl) (by kernel_rfl) (by kernel_rfl) (fun _ _ _ h => h) (by rfl) (fun u hu => ?_) hS ?_
          rotate_left
          · ((have hT := HW9.out.below hu; have hX := obj_below HX9.out hu; have hQ := HR9.out.below hu; obtain ⟨a', ha', k0, k1, k2, k3, k4⟩ := aw_second (HS9.out.below hu); injection ha' with ha'; subst ha'; obtain ⟨l0, l1, l2, l3, l4⟩ := obj_cells5 hX; obtain ⟨b0, b1, b2⟩ := obj_cells3 hT.2.2.2.1; obtain ⟨m0, m1, m2, m3, m4⟩ := obj_cells5 hT.2.1; obtain ⟨n0, n1, n2, n3, n4⟩ := obj_cells5 hT.2.2.1; obtain ⟨o0, o1, o2⟩ := obj_cells3 hQ; clear hT hX hQ); go_simp; try (with_reducible rfl))
          try simp only [Act.put, List.setIfInBounds_toArray, List.set_cons_zero, List.set_cons_succ]
          refine give_val (i := 55) (v := ?_) rfl (by kernel_rfl) (by kernel_rfl) (by kernel_rfl) (fun _ _ _ h => h) (by rfl) (fun u hu => ?_) hS ?_
          rotate_left
          · ((have hT := HW9.out.below hu; have hX := obj_below HX9.out hu; have hQ := HR9.out.below hu; obtain ⟨a', ha', k0, k1, k2, k3, k4⟩ := aw_second (HS9.out.below hu); injection ha' with ha'; subst ha'; obtain ⟨l0, l1, l2, l3, l4⟩ := obj_cells5 hX; obtain ⟨b0, b1, b2⟩ := obj_cells3 hT.2.2.2.1; obtain ⟨m0, m1, m2, m3, m4⟩ := obj_cells5 hT.2.1; obtain ⟨n0, n1, n2, n3, n4⟩ := obj_cells5 hT.2.2.1; obtain ⟨o0, o1, o2⟩ := obj_cells3 hQ; clear hT hX hQ); go_simp; try (with_reducible rfl))
          try simp only [Act.put, List.setIfInBounds_toArray, List.set_cons_zero, List.set_cons_succ]
          refine give_val (i := 56) (v := ?_) rfl (by kernel_rfl) (by kernel_rfl) (by kernel_rfl) (fun _ _ _ h => h) (by rfl) (fun u hu => ?_) hS ?_
          rotate_left
          · ((have hT := HW9.out.below hu; have hX := obj_below HX9.out hu; have hQ := HR9.out.below hu; obtain ⟨a', ha', k0, k1, k2, k3, k4⟩ := aw_second (HS9.out.below hu); injection ha' with ha'; subst ha'; obtain ⟨l0, l1, l2, l3, l4⟩ := obj_cells5 hX; obtain ⟨b0, b1, b2⟩ := obj_cells3 hT.2.2.2.1; obtain ⟨m0, m1, m2, m3, m4⟩ := obj_cells5 hT.2.1; obtain ⟨n0, n1, n2, n3, n4⟩ := obj_cells5 hT.2.2.1; obtain ⟨o0, o1, o2⟩ := obj_cells3 hQ; clear hT hX hQ); go_simp; try (with_reducible rfl))
          try simp only [Act.put, List.setIfInBounds_toArray, List.set_cons_zero, List.set_cons_succ]
          refine only_call (i := 57) 23 #[.agg #[.int .i64 1, .int .i64 1, .slice A 3 3], .agg #[.int .i64 1, .int .i64 1, .slice (some a) 2 c]] rfl (by kernel_rfl) (by rfl) ((aw_same2 A (some a) c _ (HW9.out.below hS).2.2.2.2 (HS9.out.below hS)).mono fun e w' he => ⟨he.1, hbt hS he.2⟩) ?_ ?_
          · (go_simp; try (with_reducible rfl))
          clear hS
          intro w57 hS
          try simp only [Act.put, List.setIfInBounds_toArray, List.set_cons_zero, List.set_cons_succ]
          refine give_val (i := 58) (v := ?_) rfl (by kernel_rfl) (by kernel_rfl) (by kernel_rfl) (fun _ _ _ h => h) (by rfl) (fun u hu => ?_) hS ?_
          rotate_left
          · ((have hT := HW9.out.below hu; have hX := obj_below HX9.out hu; have hQ := HR9.out.below hu; obtain ⟨a', ha', k0, k1, k2, k3, k4⟩ := aw_second (HS9.out.below hu); injection ha' with ha'; subst ha'; obtain ⟨l0, l1, l2, l3, l4⟩ := obj_cells5 hX; obtain ⟨b0, b1, b2⟩ := obj_cells3 hT.2.2.2.1; obtain ⟨m0, m1, m2, m3, m4⟩ := obj_cells5 hT.2.1; obtain ⟨n0, n1, n2, n3, n4⟩ := obj_cells5 hT.2.2.1; obtain ⟨o0, o1, o2⟩ := obj_cells3 hQ; clear hT hX hQ); go_simp; try (with_reducible rfl))
          try simp only [Act.put, List.setIfInBounds_toArray, List.set_cons_zero, List.set_cons_succ]
          refine give_val (i := 59) (v := ?_) rfl (by kernel_rfl) (by kernel_rfl) (by kernel_rfl) (fun _ _ _ h => h) (by rfl) (fun u hu => ?_) hS ?_
          rotate_left
          · ((have hT := HW9.out.below hu; have hX := obj_below HX9.out hu; have hQ := HR9.out.below hu; obtain ⟨a', ha', k0, k1, k2, k3, k4⟩ := aw_second (HS9.out.below hu); injection ha' with ha'; subst ha'; obtain ⟨l0, l1, l2, l3, l4⟩ := obj_cells5 hX; obtain ⟨b0, b1, b2⟩ := obj_cells3 hT.2.2.2.1; obtain ⟨m0, m1, m2, m3, m4⟩ := obj_cells5 hT.2.1; obtain ⟨n0, n1, n2, n3, n4⟩ := obj_cells5 hT.2.2.1; obtain ⟨o0, o1, o2⟩ := obj_cells3 hQ; clear hT hX hQ); go_simp; try (with_reducible rfl))
          try simp only [Act.put, List.setIfInBounds_toArray, List.set_cons_zero, List.set_cons_succ]
          refine give_val (i := 60) (v := ?_) rfl (by kernel_rfl) (by kernel_rfl) (by kernel_rfl) (fun _ _ _ h => h) (by rfl) (fun u hu => ?_) hS ?_
          rotate_left
          · (go_simp; try (with_reducible rfl))
          try simp only [Act.put, List.setIfInBounds_toArray, List.set_cons_zero]
          refine wpAnyH_done (by kernel_rfl) (NoPanic.normal ?_) _
          go_wp2
          go_ret
          exact ⟨rfl, hbt HW9.out.1 hS⟩
      · (go_simp; try (with_reducible rfl))
      · intro p25 u' hb ho25 hp25
        replace hp25 := Nat.le_trans (hS.size) hp25
        have hS' : (fun u => Below wc.heap.size wc u) u' := hbt hS hb
        refine ⟨hS', ?_⟩
        clear hS hb
        have hS := hS'; clear hS'
        rename World => u
        try simp only [Act.put, List.setIfInBounds_toArray, List.set_cons_zero, List.set_cons_succ]
        refine wpAnyH_ready (rs := [24]) (by kernel_rfl) (by simp) (arm_call (i := 24) 16 #[.agg #[.int .i64 1, .int .i64 1, .slice A 3 3]] rfl (by rfl) (aw_set A _ (HW9.out.below hS).2.2.2.2) ?_ ?_ AllReadyH.nil)
        · (go_simp; try (with_reducible rfl))
        · intro u' hb
          have hS' : (fun u => Below wc.heap.size wc u) u' := hbt hS hb
          refine ⟨hS', ?_⟩
          replace ho25 := obj_below ho25 hb
          clear hS hb
          have hS := hS'; clear hS'
          rename World => u
          try simp only [Act.put, List.setIfInBounds_toArray, List.set_cons_zero, List.set_cons_succ]
          refine only_call (i := 26) 24 #[.slice (some ⟨p25, 0, none⟩) 3 3] rfl (by kernel_rfl) (by rfl) ((aw_of234 _ _ ho25).mono fun e w' he => ⟨he.1, hbt hS he.2⟩) ?_ ?_
          · (go_simp; try (with_reducible rfl))
          clear hS
          intro w26 hS
          try simp only [Act.put, List.setIfInBounds_toArray, List.set_cons_zero, List.set_cons_succ]
          refine give_val (i := 27) (v := ?_) rfl (by kernel_rfl) (by kernel_rfl) (by kernel_rfl) (fun _ _ _ h => h) (by rfl) (fun u hu => ?_) hS ?_
          rotate_left
          · ((have hT := HW9.out.below hu; have hX := obj_below HX9.out hu; have hQ := HR9.out.below hu; obtain ⟨a', ha', k0, k1, k2, k3, k4⟩ := aw_second (HS9.out.below hu); injection ha' with ha'; subst ha'; obtain ⟨l0, l1, l2, l3, l4⟩ := obj_cells5 hX; obtain ⟨b0, b1, b2⟩ := obj_cells3 hT.2.2.2.1; obtain ⟨m0, m1, m2, m3, m4⟩ := obj_cells5 hT.2.1; obtain ⟨n0, n1, n2, n3, n4⟩ := obj_cells5 hT.2.2.1; obtain ⟨o0, o1, o2⟩ := obj_cells3 hQ; clear hT hX hQ); go_simp; try (with_reducible rfl))
          try simp only [Act.put, List.setIfInBounds_toArray, List.set_cons_zero, List.set_cons_succ]
          refine give_val (i := 28) (v := ?_) rfl (by kernel_rfl) (by kernel_rfl) (by kernel_rfl) (fun _ _ _ h => h) (by rfl) (fun u hu => ?_) hS ?_
          rotate_left
          · ((have hT := HW9.out.below hu; have hX := obj_below HX9.out hu; have hQ := HR9.out.below hu; obtain ⟨a', ha', k0, k1, k2, k3, k4⟩ := aw_second (HS9.out.below hu); injection ha' with ha'; subst ha'; obtain ⟨l0, l1, l2, l3, l4⟩ := obj_cells5 hX; obtain ⟨b0, b1, b2⟩ := obj_cells3 hT.2.2.2.1; obtain ⟨m0, m1, m2, m3, m4⟩ := obj_cells5 hT.2.1; obtain ⟨n0, n1, n2, n3, n4⟩ := obj_cells5 hT.2.2.1; obtain ⟨o0, o1, o2⟩ := obj_cells3 hQ; clear hT hX hQ); go_simp; try (with_reducible rfl))
          try simp only [Act.put, List.setIfInBounds_toArray, List.set_cons_zero, List.set_cons_succ]
          refine give_val (i := 29) (v := ?_) rfl (by kernel_rfl) (by kernel_rfl) (by kernel_rfl) (fun _ _ _ h => h) (by rfl) (fun u hu => ?_) hS ?_
          rotate_left
          · ((have hT := HW9.out.below hu; have hX := obj_below HX9.out hu; have hQ := HR9.out.below hu; obtain ⟨a', ha', k0, k1, k2, k3, k4⟩ := aw_second (HS9.out.below hu); injection ha' with ha'; subst ha'; obtain ⟨l0, l1, l2, l3, l4⟩ := obj_cells5 hX; obtain ⟨b0, b1, b2⟩ := obj_cells3 hT.2.2.2.1; obtain ⟨m0, m1, m2, m3, m4⟩ := obj_cells5 hT.2.1; obtain ⟨n0, n1, n2, n3, n4⟩ := obj_cells5 hT.2.2.1; obtain ⟨o0, o1, o2⟩ := obj_cells3 hQ; clear hT hX hQ); go_simp; try (with_reducible rfl))
          try simp only [Act.put, List.setIfInBounds_toArray, List.set_cons_zero, List.set_cons_succ]
          refine give_val (i := 30) (v := ?_) rfl (by kernel_rfl) (by kernel_rfl) (by kernel_rfl) (fun _ _ _ h => h) (by rfl) (fun u hu => ?_) hS ?_
          rotate_left
          · ((have hT := HW9.out.below hu; have hX := obj_below HX9.out hu; have hQ := HR9.out.below hu; obtain ⟨a', ha', k0, k1, k2, k3, k4⟩ := aw_second (HS9.out.below hu); injection ha' with ha'; subst ha'; obtain ⟨l0, l1, l2, l3, l4⟩ := obj_cells5 hX; obtain ⟨b0, b1, b2⟩ := obj_cells3 hT.2.2.2.1; obtain ⟨m0, m1, m2, m3, m4⟩ := obj_cells5 hT.2.1; obtain ⟨n0, n1, n2, n3, n4⟩ := obj_cells5 hT.2.2.1; obtain ⟨o0, o1, o2⟩ := obj_cells3 hQ; clear hT hX hQ); go_simp; try (with_reducible rfl))
          try simp only [Act.put, List.setIfInBounds_toArray, List.set_cons_zero, List.set_cons_succ]
          refine give_val (i := 31) (v := ?_) rfl (by kernel_rfl) (by kernel_rfl) (by kernel_rfl) (fun _ _ _ h => h) (by rfl) (fun u hu => ?_) hS ?_
          rotate_left
          · ((have hT := HW9.out.below hu; have hX := obj_below HX9.out hu; have hQ := HR9.out.below hu; obtain ⟨a', ha', k0, k1, k2, k3, k4⟩ := aw_second (HS9.out.below hu); injection ha' with ha'; subst ha'; obtain ⟨l0, l1, l2, l3, l4⟩ := obj_cells5 hX; obtain ⟨b0, b1, b2⟩ := obj_cells3 hT.2.2.2.1; obtain ⟨m0, m1, m2, m3, m4⟩ := obj_cells5 hT.2.1; obtain ⟨n0, n1, n2, n3, n4⟩ := obj_cells5 hT.2.2.1; obtain ⟨o0, o1, o2⟩ := obj_cells3 hQ; clear hT hX hQ); go_simp; try (with_reducible rfl))
          try simp only [Act.put, List.setIfInBounds_toArray, List.set_cons_zero, List.set_cons_succ]
          refine give_val (i := 32) (v := ?_) rfl (by kernel_rfl) (by kernel_rfl) (by kernel_rfl) (fun _ _ _ h => h) (by rfl) (fun u hu => ?_) hS ?_
          rotate_left
          · ((have hT := HW9.out.below hu; have hX := obj_below HX9.out hu; have hQ := HR9.out.below hu; obtain ⟨a', ha', k0, k1, k2, k3, k4⟩ := aw_second (HS9.out.below hu); injection ha' with ha'; subst ha'; obtain ⟨l0, l1, l2, l3, l4⟩ := obj_cells5 hX; obtain ⟨b0, b1, b2⟩ := obj_cells3 hT.2.2.2.1; obtain ⟨m0, m1, m2, m3, m4⟩ := obj_cells5 hT.2.1; obtain ⟨n0, n1, n2, n3, n4⟩ := obj_cells5 hT.2.2.1; obtain ⟨o0, o1, o2⟩ := obj_cells3 hQ; clear hT hX hQ); go_simp; try (with_reducible rfl))
          try simp only [Act.put, List.setIfInBounds_toArray, List.set_cons_zero, List.set_cons_succ]
          refine give_val (i := 33) (v := ?_) rfl (by kernel_rfl) (by kernel_rfl) (by kernel_rfl) (fun _ _ _ h => h) (by rfl) (fun u hu => ?_) hS ?_
          rotate_left
          · ((have hT := HW9.out.below hu; have hX := obj_below HX9.out hu; have hQ := HR9.out.below hu; obtain ⟨a', ha', k0, k1, k2, k3, k4⟩ := aw_second (HS9.out.below hu); injection ha' with ha'; subst ha'; obtain ⟨l0, l1, l2, l3, l4⟩ := obj_cells5 hX; obtain ⟨b0, b1, b2⟩ := obj_cells3 hT.2.2.2.1; obtain ⟨m0, m1, m2, m3, m4⟩ := obj_cells5 hT.2.1; obtain ⟨n0, n1, n2, n3, n4⟩ := obj_cells5 hT.2.2.1; obtain ⟨o0, o1, o2⟩ := obj_cells3 hQ; clear hT hX hQ); go_simp; try (with_reducible rfl))
          try simp only [Act.put, List.setIfInBounds_toArray, List.set_cons_zero, List.set_cons_succ]
          refine give_val (i := 34) (v := ?_) rfl (by kernel_rfl) (by kernel_rfl) (by kernel_rfl) (fun _ _ _ h => h) (by rfl) (fun u hu => ?_) hS ?_
          rotate_left
          · ((have hT := HW9.out.below hu; have hX := obj_below HX9.out hu; have hQ := HR9.out.below hu; obtain ⟨a', ha', k0, k1, k2, k3, k4⟩ := aw_second (HS9.out.below hu); injection ha' with ha'; subst ha'; obtain ⟨l0, l1, l2, l3, l4⟩ := obj_cells5 hX; obtain ⟨b0, b1, b2⟩ := obj_cells3 hT.2.2.2.1; obtain ⟨m0, m1, m2, m3, m4⟩ := obj_cells5 hT.2.1; obtain ⟨n0, n1, n2, n3, n4⟩ := obj_cells5 hT.2.2.1; obtain ⟨o0, o1, o2⟩ := obj_cells3 hQ; clear hT hX hQ); go_simp; try (with_reducible rfl))
          try simp only [Act.put, List.setIfInBounds_toArray, List.set_cons_zero, List.set_cons_succ]
          refine give_val (i := 35) (v := ?_) rfl (by kernel_rfl) (by kernel_rfl) (by kernel_rfl) (fun _ _ _ h => h) (by rfl) (fun u hu => ?_) hS ?_
          rotate_left
          · ((have hT := HW9.out.below hu; have hX := obj_below HX9.out hu; have hQ := HR9.out.below hu; obtain ⟨a', ha', k0, k1, k2, k3, k4⟩ := aw_second (HS9.out.below hu); injection ha' with ha'; subst ha'; obtain ⟨l0, l1, l2, l3, l4⟩ := obj_cells5 hX; obtain ⟨b0, b1, b2⟩ := obj_cells3 hT.2.2.2.1; obtain ⟨m0, m1, m2, m3, m4⟩ := obj_cells5 hT.2.1; obtain ⟨n0, n1, n2, n3, n4⟩ := obj_cells5 hT.2.2.1; obtain ⟨o0, o1, o2⟩ := obj_cells3 hQ; clear hT hX hQ); go_simp; try (with_reducible rfl))
          try simp only [Act.put, List.setIfInBounds_toArray, List.set_cons_zero, List.set_cons_succ]
          refine give_val (i := 36) (v := ?_) rfl (by kernel_rfl) (by kernel_rfl) (by kernel_rfl) (fun _ _ _ h => h) (by rfl) (fun u hu => ?_) hS ?_
          rotate_left
          · ((have hT := HW9.out.below hu; have hX := obj_below HX9.out hu; have hQ := HR9.out.below hu; obtain ⟨a', ha', k0, k1, k2, k3, k4⟩ := aw_second (HS9.out.below hu); injection ha' with ha'; subst ha'; obtain ⟨l0, l1, l2, l3, l4⟩ := obj_cells5 hX; obtain ⟨b0, b1, b2⟩ := obj_cells3 hT.2.2.2.1; obtain ⟨m0, m1, m2, m3, m4⟩ := obj_cells5 hT.2.1; obtain ⟨n0, n1, n2, n3, n4⟩ := obj_cells5 hT.2.2.1; obtain ⟨o0, o1, o2⟩ := obj_cells3 hQ; clear hT hX hQ); go_simp; try (with_reducible rfl))
          try simp only [Act.put, List.setIfInBounds_toArray, List.set_cons_zero, List.set_cons_succ]
          refine give_val (i := 37) (v := ?_) rfl (by kernel_rfl) (by kernel_rfl) (by kernel_rfl) (fun _ _ _ h => h) (by rfl) (fun u hu => ?_) hS ?_
          rotate_left
          · ((have hT := HW9.out.below hu; have hX := obj_below HX9.out hu; have hQ := HR9.out.below hu; obtain ⟨a', ha', k0, k1, k2, k3, k4⟩ := aw_second (HS9.out.below hu); injection ha' with ha'; subst ha'; obtain ⟨l0, l1, l2, l3, l4⟩ := obj_cells5 hX; obtain ⟨b0, b1, b2⟩ := obj_cells3 hT.2.2.2.1; obtain ⟨m0, m1, m2, m3, m4⟩ := obj_cells5 hT.2.1; obtain ⟨n0, n1, n2, n3, n4⟩ := obj_cells5 hT.2.2.1; obtain ⟨o0, o1, o2⟩ := obj_cells3 hQ; clear hT hX hQ); go_simp; try (with_reducible rfl))
          try simp only [Act.put, List.setIfInBounds_toArray, List.set_cons_zero, List.set_cons_succ]
          refine give_val (i := 38) (v := ?_) rfl (by kernel_rfl) (by kernel_rfl) (by kernel_rfl) (fun _ _ _ h => h) (by rfl) (fun u hu => ?_) hS ?_
          rotate_left
          · ((have hT := HW9.out.below hu; have hX := obj_below HX9.out hu; have hQ := HR9.out.below hu; obtain ⟨a', ha', k0, k1, k2, k3, k4⟩ := aw_second (HS9.out.below hu); injection ha' with ha'; subst ha'; obtain ⟨l0, l1, l2, l3, l4⟩ := obj_cells5 hX; obtain ⟨b0, b1, b2⟩ := obj_cells3 hT.2.2.2.1; obtain ⟨m0, m1, m2, m3, m4⟩ := obj_cells5 hT.2.1; obtain ⟨n0, n1, n2, n3, n4⟩ := obj_cells5 hT.2.2.1; obtain ⟨o0, o1, o2⟩ := obj_cells3 hQ; clear hT hX hQ); go_simp; try (with_reducible rfl))
          try simp only [Act.put, List.setIfInBounds_toArray, List.set_cons_zero, List.set_cons_succ]
          refine give_val (i := 39) (v := ?_) rfl (by kernel_rfl) (by kernel_rfl) (by kernel_rfl) (fun _ _ _ h => h) (by rfl) (fun u hu => ?_) hS ?_
          rotate_left
          · ((have hT := HW9.out.below hu; have hX := obj_below HX9.out hu; have hQ := HR9.out.below hu; obtain ⟨a', ha', k0, k1, k2, k3, k4⟩ := aw_second (HS9.out.below hu); injection ha' with ha'; subst ha'; obtain ⟨l0, l1, l2, l3, l4⟩ := obj_cells5 hX; obtain ⟨b0, b1, b2⟩ := obj_cells3 hT.2.2.2.1; obtain ⟨m0, m1, m2, m3, m4⟩ := obj_cells5 hT.2.1; obtain ⟨n0, n1, n2, n3, n4⟩ := obj_cells5 hT.2.2.1; obtain ⟨o0, o1, o2⟩ := obj_cells3 hQ; clear hT hX hQ); go_simp; try (with_reducible rfl))
          try simp only [Act.put, List.setIfInBounds_toArray, List.set_cons_zero, List.set_cons_succ]
          refine give_val (i := 40) (v := ?_) rfl (by kernel_rfl) (by kernel_rfl) (by kernel_rfl) (fun _ _ _ h => h) (by rfl) (fun u hu => ?_) hS ?_
          rotate_left
          · ((have hT := HW9.out.below hu; have hX := obj_below HX9.out hu; have hQ := HR9.out.below hu; obtain ⟨a', ha', k0, k1, k2, k3, k4⟩ := aw_second (HS9.out.below hu); injection ha' with ha'; subst ha'; obtain ⟨l0, l1, l2, l3, l4⟩ := obj_cells5 hX; obtain ⟨b0, b1, b2⟩ := obj_cells3 hT.2.2.2.1; obtain ⟨m0, m1, m2, m3, m4⟩ := obj_cells5 hT.2.1; obtain ⟨n0, n1, n2, n3, n4⟩ := obj_cells5 hT.2.2.1; obtain ⟨o0, o1, o2⟩ := obj_cells3 hQ; clear hT hX hQ); go_simp; try (with_reducible rfl))
          try simp only [Act.put, List.setIfInBounds_toArray, List.set_cons_zero, List.set_cons_succ]
          refine give_val (i := 41) (v := ?_) rfl (by kernel_rfl) (by kernel_rfl) (by kernel_rfl) (fun _ _ _ h => h) (by rfl) (fun u hu => ?_) hS ?_
          rotate_left
          · ((have hT := HW9.out.below hu; have hX := obj_below HX9.out hu; have hQ := HR9.out.below hu; obtain ⟨a', ha', k0, k1, k2, k3, k4⟩ := aw_second (HS9.out.below hu); injection ha' with ha'; subst ha'; obtain ⟨l0, l1, l2, l3, l4⟩ := obj_cells5 hX; obtain ⟨b0, b1, b2⟩ := obj_cells3 hT.2.2.2.1; obtain ⟨m0, m1, m2, m3, m4⟩ := obj_cells5 hT.2.1; obtain ⟨n0, n1, n2, n3, n4⟩ := obj_cells5 hT.2.2.1; obtain ⟨o0, o1, o2⟩ := obj_cells3 hQ; clear hT hX hQ); go_simp; try (with_reducible rfl))
          try simp only [Act.put, List.setIfInBounds_toArray, List.set_cons_zero, List.set_cons_succ]
          refine give_val (i := 42) (v := ?_) rfl (by kernel_rfl) (by kernel_rfl) (by kernel_rfl) (fun _ _ _ h => h) (by rfl) (fun u hu => ?_) hS ?_
          rotate_left
          · ((have hT := HW9.out.below hu; have hX := obj_below HX9.out hu; have hQ := HR9.out.below hu; obtain ⟨a', ha', k0, k1, k2, k3, k4⟩ := aw_second (HS9.out.below hu); injection ha' with ha'; subst ha'; obtain ⟨l0, l1, l2, l3, l4⟩ := obj_cells5 hX; obtain ⟨b0, b1, b2⟩ := obj_cells3 hT.2.2.2.1; obtain ⟨m0, m1, m2, m3, m4⟩ := obj_cells5 hT.2.1; obtain ⟨n0, n1, n2, n3, n4⟩ := obj_cells5 hT.2.2.1; obtain ⟨o0, o1, o2⟩ := obj_cells3 hQ; clear hT hX hQ); go_simp; try (with_reducible rfl))
          try simp only [Act.put, List.setIfInBounds_toArray, List.set_cons_zero, List.set_cons_succ]
          refine give_val (i := 43) (v := ?_) rfl (by kernel_rfl) (by kernel_rfl) (by kernel_rfl) (fun _ _ _ h => h) (by rfl) (fun u hu => ?_) hS ?_
          rotate_left
          · ((have hT := HW9.out.below hu; have hX := obj_below HX9.out hu; have hQ := HR9.out.below hu; obtain ⟨a', ha', k0, k1, k2, k3, k4⟩ := aw_second (HS9.out.below hu); injection ha' with ha'; subst ha'; obtain ⟨l0, l1, l2, l3, l4⟩ := obj_cells5 hX; obtain ⟨b0, b1, b2⟩ := obj_cells3 hT.2.2.2.1; obtain ⟨m0, m1, m2, m3, m4⟩ := obj_cells5 hT.2.1; obtain ⟨n0, n1, n2, n3, n4⟩ := obj_cells5 hT.2.2.1; obtain ⟨o0, o1, o2⟩ := obj_cells3 hQ; clear hT hX hQ); go_simp; try (with_reducible rfl))
          try simp only [Act.put, List.setIfInBounds_toArray, List.set_cons_zero, List.set_cons_succ]
          refine give_val (i := 44) (v := ?_) rfl (by kernel_rfl) (by kernel_rfl) (by kernel_rfl) (fun _ _ _ h => h) (by rfl) (fun u hu => ?_) hS ?_
          rotate_left
          · ((have hT := HW9.out.below hu; have hX := obj_below HX9.out hu; have hQ := HR9.out.below hu; obtain ⟨a', ha', k0, k1, k2, k3, k4⟩ := aw_second (HS9.out.below hu); injection ha' with ha'; subst ha'; obtain ⟨l0, l1, l2, l3, l4⟩ := obj_cells5 hX; obtain ⟨b0, b1, b2⟩ := obj_cells3 hT.2.2.2.1; obtain ⟨m0, m1, m2, m3, m4⟩ := obj_cells5 hT.2.1; obtain ⟨n0, n1, n2, n3, n4⟩ := obj_cells5 hT.2.2.1; obtain ⟨o0, o1, o2⟩ := obj_cells3 hQ; clear hT hX hQ); go_simp; try (with_reducible rfl))
          try simp only [Act.put, List.setIfInBounds_toArray, List.set_cons_zero, List.set_cons_succ]
          refine give_val (i := 45) (v := ?_) rfl (by kernel_rfl) (by kernel_rfl) (by kernel_rfl) (fun _ _ _ h => h) (by rfl) (fun u hu => ?_) hS ?_
          rotate_left
          · ((have hT := HW9.out.below hu; have hX := obj_below HX9.out hu; have hQ := HR9.out.below hu; obtain ⟨a', ha', k0, k1, k2, k3, k4⟩ := aw_second (HS9.out.below hu); injection ha' with ha'; subst ha'; obtain ⟨l0, l1, l2, l3, l4⟩ := obj_cells5 hX; obtain ⟨b0, b1, b2⟩ := obj_cells3 hT.2.2.2.1; obtain ⟨m0, m1, m2, m3, m4⟩ := obj_cells5 hT.2.1; obtain ⟨n0, n1, n2, n3, n4⟩ := obj_cells5 hT.2.2.1; obtain ⟨o0, o1, o2⟩ := obj_cells3 hQ; clear hT hX hQ); go_simp; try (with_reducible rfl))
          try simp only [Act.put, List.setIfInBounds_toArray, List.set_cons_zero, List.set_cons_succ]
          refine give_val (i := 46) (v := ?_) rfl (by kernel_rfl) (by kernel_rfl) (by kernel_rfl) (fun _ _ _ h => h) (by rfl) (fun u hu => ?_) hS ?_
          rotate_left
          · ((have hT := HW9.out.below hu; have hX := obj_below HX9.out hu; have hQ := HR9.out.below hu; obtain ⟨a', ha', k0, k1, k2, k3, k4⟩ := aw_second (HS9.out.below hu); injection ha' with ha'; subst ha'; obtain ⟨l0, l1, l2, l3, l4⟩ := obj_cells5 hX; obtain ⟨b0, b1, b2⟩ := obj_cells3 hT.2.2.2.1; obtain ⟨m0, m1, m2, m3, m4⟩ := obj_cells5 hT.2.1; obtain ⟨n0, n1, n2, n3, n4⟩ := obj_cells5 hT.2.2.1; obtain ⟨o0, o1, o2⟩ := obj_cells3 hQ; clear hT hX hQ); go_simp; try (with_reducible rfl))
          try simp only [Act.put, List.setIfInBounds_toArray, List.set_cons_zero, List.set_cons_succ]
          refine give_val (i := 47) (v := ?_) rfl (by kernel_rfl) (by kernel_rfl) (by kernel_rfl) (fun _ _ _ h => h) (by rfl) (fun u hu => ?_) hS ?_
          rotate_left
          · ((have hT := HW9.out.below hu; have hX := obj_below HX9.out hu; have hQ := HR9.out.below hu; obtain ⟨a', ha', k0, k1, k2, k3, k4⟩ := aw_second (HS9.out.below hu); injection ha' with ha'; subst ha'; obtain ⟨l0, l1, l2, l3, l4⟩ := obj_cells5 hX; obtain ⟨b0, b1, b2⟩ := obj_cells3 hT.2.2.2.1; obtain ⟨m0, m1, m2, m3, m4⟩ := obj_cells5 hT.2.1; obtain ⟨n0, n1, n2, n3, n4⟩ := obj_cells5 hT.2.2.1; obtain ⟨o0, o1, o2⟩ := obj_cells3 hQ; clear hT hX hQ); go_simp; try (with_reducible rfl))
          try simp only [Act.put, List.setIfInBounds_toArray, List.set_cons_zero, List.set_cons_succ]
          refine give_val (i := 48) (v := ?_) rfl (by kernel_rfl) (by kernel_rfl) (by kernel_rfl) (fun _ _ _ h => h) (by rfl) (fun u hu => ?_) hS ?_
          rotate_left
          · ((have hT := HW9.out.below hu; have hX := obj_below HX9.out hu; have hQ := HR9.out.below hu; obtain ⟨a', ha', k0, k1, k2, k3, k4⟩ := aw_second (HS9.out.below hu); injection ha' with ha'; subst ha'; obtain ⟨l0, l1, l2, l3, l4⟩ := obj_cells5 hX; obtain ⟨b0, b1, b2⟩ := obj_cells3 hT.2.2.2.1; obtain ⟨m0, m1, m2, m3, m4⟩ := obj_cells5 hT.2.1; obtain ⟨n0, n1, n2, n3, n4⟩ := obj_cells5 hT.2.2.1; obtain ⟨o0, o1, o2⟩ := obj_cells3 hQ; clear hT hX hQ); go_simp; try (with_reducible rfl))
          try simp only [Act.put, List.setIfInBounds_toArray, List.set_cons_zero, List.set_cons_succ]
          refine give_val (i := 49) (v := ?_) rfl (by kernel_rfl) (by kernel_rfl) (by kernel_rfl) (fun _ _ _ h => h) (by rfl) (fun u hu => ?_) hS ?_
          rotate_left
          · ((have hT := HW9.out.below hu; have hX := obj_below HX9.out hu; have hQ := HR9.out.below hu; obtain ⟨a', ha', k0, k1, k2, k3, k4⟩ := aw_second (HS9.out.below hu); injection ha' with ha'; subst ha'; obtain ⟨l0, l1, l2, l3, l4⟩ := obj_cells5 hX; obtain ⟨b0, b1, b2⟩ := obj_cells3 hT.2.2.2.1; obtain ⟨m0, m1, m2, m3, m4⟩ := obj_cells5 hT.2.1; obtain ⟨n0, n1, n2, n3, n4⟩ := obj_cells5 hT.2.2.1; obtain ⟨o0, o1, o2⟩ := obj_cells3 hQ; clear hT hX hQ); go_simp; try (with_reducible rfl))
          try simp only [Act.put, List.setIfInBounds_toArray, List.set_cons_zero, List.set_cons_succ]
          refine give_val (i := 50) (v := ?_) rfl (by kernel_rfl) (by kernel_rfl) (by kernel_rfl) (fun _ _ _ h => h) (by rfl) (fun u hu => ?_) hS ?_
          rotate_left
          · ((have hT := HW9.out.below hu; have hX := obj_below HX9.out hu; have hQ := HR9.out.below hu; obtain ⟨a', ha', k0, k1, k2, k3, k4⟩ := aw_second (HS9.out.below hu); injection ha' with ha'; subst ha'; obtain ⟨l0, l1, l2, l3, l4⟩ := obj_cells5 hX; obtain ⟨b0, b1, b2⟩ := obj_cells3 hT.2.2.2.1; obtain ⟨m0, m1, m2, m3, m4⟩ := obj_cells5 hT.2.1; obtain ⟨n0, n1, n2, n3, n4⟩ := obj_cells5 hT.2.2.1; obtain ⟨o0, o1, o2⟩ := obj_cells3 hQ; clear hT hX hQ); go_simp; try (with_reducible rfl))
          try simp only [Act.put, List.setIfInBounds_toArray, List.set_cons_zero, List.set_cons_succ]
          refine only_some (i := 51) 10 #[.agg #[.int .i64 1, .int .i64 1, .slice A 3 3]] rfl (by kernel_rfl) (by rfl) ((aw_copy A _ (HW9.out.below hS).2.2.2.2)) ?_ ?_
          · (go_simp; try (with_reducible rfl))
          intro v51 w51 hT
          obtain ⟨A51, c51, rfl, ht51, hb⟩ := hT
          have hS' := hbt hS hb
          refine ⟨hS', ?_⟩
          clear hS
          have hS := hS'; clear hS'
          try simp only [Act.put, List.setIfInBounds_toArray, List.set_cons_zero, List.set_cons_succ]
          refine only_call (i := 52) 23 #[.agg #[.int .i64 1, .int .i64 1, .slice A 3 3], .agg #[.int .i64 1, .int .i64 1, .slice A51 3 c51]] rfl (by kernel_rfl) (by rfl) ((aw_same1 A A51 c51 _ (HW9.out.below hS).2.2.2.2 ht51).mono fun e w' he => ⟨he.1, hbt hS he.2⟩) ?_ ?_
          · (go_simp; try (with_reducible rfl))
          clear hS
          intro w52 hS
          try simp only [Act.put, List.setIfInBounds_toArray, List.set_cons_zero, List.set_cons_succ]
          refine give_val (i := 53) (v := ?_) rfl (by kernel_rfl) (by kernel_rfl) (by kernel_rfl) (fun _ _ _ h => h) (by rfl) (fun u hu => ?_) hS ?_
          rotate_left
          · ((have hT := HW9.out.below hu; have hX := obj_below HX9.out hu; have hQ := HR9.out.below hu; obtain ⟨a', ha', k0, k1, k2, k3, k4⟩ := aw_second (HS9.out.below hu); injection ha' with ha'; subst ha'; obtain ⟨l0, l1, l2, l3, l4⟩ := obj_cells5 hX; obtain ⟨b0, b1, b2⟩ := obj_cells3 hT.2.2.2.1; obtain ⟨m0, m1, m2, m3, m4⟩ := obj_cells5 hT.2.1; obtain ⟨n0, n1, n2, n3, n4⟩ := obj_cells5 hT.2.2.1; obtain ⟨o0, o1, o2⟩ := obj_cells3 hQ; clear hT hX hQ); go_simp; try (with_reducible rfl))
          try simp only [Act.put, List.setIfInBounds_toArray, List.set_cons_zero, List.set_cons_succ]
          refine give_val (i := 54) (v := ?_) rfl (by kernel_rfl) (by kernel_rfl) (by kernel_rfl) (fun _ _ _ h => h) (by rfl) (fun u hu => ?_) hS ?_
          rotate_left
          · ((have hT := HW9.out.below hu; have hX := obj_below HX9.out hu; have hQ := HR9.out.below hu; obtain ⟨a', ha', k0, k1, k2, k3, k4⟩ := aw_second (HS9.out.below hu); injection ha' with ha'; subst ha'; obtain ⟨l0, l1, l2, l3, l4⟩ := obj_cells5 hX; obtain ⟨b0, b1, b2⟩ := obj_cells3 hT.2.2.2.1; obtain ⟨m0, m1, m2, m3, m4⟩ := obj_cells5 hT.2.1; obtain ⟨n0, n1, n2, n3, n4⟩ := obj_cells5 hT.2.2.1; obtain ⟨o0, o1, o2⟩ := obj_cells3 hQ; clear hT hX hQ); go_simp; try (with_reducible rfl))
          try simp only [Act.put, List.setIfInBounds_toArray, List.set_cons_zero, List.set_cons_succ]
          refine give_val (i := 55) (v := ?_) rfl (by kernel_rfl) (by kernel_rfl) (by kernel_rfl) (fun _ _ _ h => h) (by rfl) (fun u hu => ?_) hS ?_
          rotate_left
          · ((have hT := HW9.out.below hu; have hX := obj_below HX9.out hu; have hQ := HR9.out.below hu; obtain ⟨a', ha', k0, k1, k2, k3, k4⟩ := aw_second (HS9.out.below hu); injection ha' with ha'; subst ha'; obtain ⟨l0, l1, l2, l3, l4⟩ := obj_cells5 hX; obtain ⟨b0, b1, b2⟩ := obj_cells3 hT.2.2.2.1; obtain ⟨m0, m1, m2, m3, m4⟩ := obj_cells5 hT.2.1; obtain ⟨n0, n1, n2, n3, n4⟩ := obj_cells5 hT.2.2.1; obtain ⟨o0, o1, o2⟩ := obj_cells3 hQ; clear hT hX hQ); go_simp; try (with_reducible rfl))
          try simp only [Act.put, List.setIfInBounds_toArray, List.set_cons_zero, List.set_cons_succ]
          refine give_val (i := 56) (v := ?_) rfl (by kernel_rfl) (by kernel_rfl) (by kernel_rfl) (fun _ _ _ h => h) (by rfl) (fun u hu => ?_) hS ?_
          rotate_left
          · ((have hT := HW9.out.below hu; have hX := obj_below HX9.out hu; have hQ := HR9.out.below hu; obtain ⟨a', ha', k0, k1, k2, k3, k4⟩ := aw_second (HS9.out.below hu); injection ha' with ha'; subst ha'; obtain ⟨l0, l1, l2, l3, l4⟩ := obj_cells5 hX; obtain ⟨b0, b1, b2⟩ := obj_cells3 hT.2.2.2.1; obtain ⟨m0, m1, m2, m3, m4⟩ := obj_cells5 hT.2.1; obtain ⟨n0, n1, n2, n3, n4⟩ := obj_cells5 hT.2.2.1; obtain ⟨o0, o1, o2⟩ := obj_cells3 hQ; clear hT hX hQ); go_simp; try (with_reducible rfl))
          try simp only [Act.put, List.setIfInBounds_toArray, List.set_cons_zero, List.set_cons_succ]
          refine only_call (i := 57) 23 #[.agg #[.int .i64 1, .int .i64 1, .slice A 3 3], .agg #[.int .i64 1, .int .i64 1, .slice (some a) 2 c]] rfl (by kernel_rfl) (by rfl) ((aw_same2 A (some a) c _ (HW9.out.below hS).2.2.2.2 (HS9.out.below hS)).mono fun e w' he => ⟨he.1, hbt hS he.2⟩) ?_ ?_
          · (go_simp; try (with_reducible rfl))
          clear hS
          intro w57 hS
          try simp only [Act.put, List.setIfInBounds_toArray, List.set_cons_zero, List.set_cons_succ]
          refine give_val (i := 58) (v := ?_) rfl (by kernel_rfl) (by kernel_rfl) (by kernel_rfl) (fun _ _ _ h => h) (by rfl) (fun u hu => ?_) hS ?_
          rotate_left
          · ((have hT := HW9.out.below hu; have hX := obj_below HX9.out hu; have hQ := HR9.out.below hu; obtain ⟨a', ha', k0, k1, k2, k3, k4⟩ := aw_second (HS9.out.below hu); injection ha' with ha'; subst ha'; obtain ⟨l0, l1, l2, l3, l4⟩ := obj_cells5 hX; obtain ⟨b0, b1, b2⟩ := obj_cells3 hT.2.2.2.1; obtain ⟨m0, m1, m2, m3, m4⟩ := obj_cells5 hT.2.1; obtain ⟨n0, n1, n2, n3, n4⟩ := obj_cells5 hT.2.2.1; obtain ⟨o0, o1, o2⟩ := obj_cells3 hQ; clear hT hX hQ); go_simp; try (with_reducible rfl))
          try simp only [Act.put, List.setIfInBounds_toArray, List.set_cons_zero, List.set_cons_succ]
          refine give_val (i := 59) (v := ?_) rfl (by kernel_rfl) (by kernel_rfl) (by kernel_rfl) (fun _ _ _ h => h) (by rfl) (fun u hu => ?_) hS ?_
          rotate_left
          · ((have hT := HW9.out.below hu; have hX := obj_below HX9.out hu; have hQ := HR9.out.below hu; obtain ⟨a', ha', k0, k1, k2, k3, k4⟩ := aw_second (HS9.out.below hu); injection ha' with ha'; subst ha'; obtain ⟨l0, l1, l2, l3, l4⟩ := obj_cells5 hX; obtain ⟨b0, b1, b2⟩ := obj_cells3 hT.2.2.2.1; obtain ⟨m0, m1, m2, m3, m4⟩ := obj_cells5 hT.2.1; obtain ⟨n0, n1, n2, n3, n4⟩ := obj_cells5 hT.2.2.1; obtain ⟨o0, o1, o2⟩ := obj_cells3 hQ; clear hT hX hQ); go_simp; try (with_reducible rfl))
          try simp only [Act.put, List.setIfInBounds_toArray, List.set_cons_zero, List.set_cons_succ]
          refine give_val (i := 60) (v := ?_) rfl (by kernel_rfl) (by kernel_rfl) (by kernel_rfl) (fun _ _ _ h => h) (by rfl) (fun u hu => ?_) hS ?_
          rotate_left
          · (go_simp; try (with_reducible rfl))
          try simp only [Act.put, List.setIfInBounds_toArray, List.set_cons_zero]
          refine wpAnyH_done (by kernel_rfl) (NoPanic.normal ?_) _
          go_wp2
          go_ret
          exact ⟨rfl, hbt HW9.out.1 hS⟩

end Go.Proofs.Ytiifkcemieblkaa
