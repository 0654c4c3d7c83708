/-
  What Next answers: for every set and number, in every world.
-/
import Derived.Test.YtlkpiapmdflahaaDoorPackFld
import Derived.Test.YtlkpiapmdflahaaDoorShelf
import Derived.Deep.DeepCutAuto
namespace Go.Proofs.YtlkpiapmdflahaaDoor
open Go.RowKit Go.Lib

theorem lead_any (p : Nat) (b : p < M64) (w : World) :
    Calls Tryd.prog 75 #[.int .u64 (p : Int)] w fun e w' => e = .returned (.int .i64 (64 - (Lib.bitLen p : Int))) ∧ w' = w :=
  Tryd.bits_LeadingZeros64 (p : Int) w (by omega) (by have : p < 18446744073709551616 := b; omega)

set_option maxRecDepth 100000 in
set_option maxHeartbeats 800000 in
theorem next_any (h l : Nat) (n : Int) (w : World) (b1 : h < M64) (b2 : l < M64) (b : n ≤ 9223372036854775807) :
    Calls Tryd.prog 45 #[setV h l, .int .i64 n] w fun e w' => e = .returned (.int .i64 (nextN h l n : Int)) ∧ Below w.heap.size w w' := by
  have HA := Lib.hid (fun W => above_any n W b)
  have HB := Lib.hid (fun W => both_any h l (bH n) (bL n) W b1 b2 (bH_lt n) (bL_lt n))
  have hN : nextN h l n = if h &&& bH n ≠ 0 then 64 - Lib.bitLen (h &&& bH n) + 1 else if l &&& bL n ≠ 0 then 64 - Lib.bitLen (l &&& bL n) + 64 + 1 else 0 := rfl
  have hp : h &&& bH n < M64 := and_lt b1
  have hq : l &&& bL n < M64 := and_lt b2
  clear b1 b2
  unfold setV at *
  generalize nextN h l n = r at *
  generalize bH n = x at *
  generalize bL n = y at *
  generalize h &&& x = p at *
  generalize l &&& y = q at *
  have HN := Lib.hid hN
  have HP := Lib.hid hp
  have HQ := Lib.hid hq
  clear hN hp hq
  go_enter Tryd.func45, Tryd.ntmps45
  go_upto_region 1 with fail
  go_cut [5] (fun s5 wx => ∃ g : Nat, s5 = .pointer (some ⟨g, 0, none⟩) ∧ wx.heap[g]? = some (setO p q) ∧ Below w.heap.size w wx)
  case first =>
    refine wp_region_noPanic ?_
    refine wp_region_held_drew (S := (fun u => Below w.heap.size w u ∧ u.heap[w.heap.size]? = some (setO h l))) (by kernel_rfl) (⟨(below_al _ _).drew, heap_alloc_new _ _⟩) (fun hS => ?_)
    refine give_val (i := 0) (v := ?_) rfl (by kernel_rfl) (by kernel_rfl) (by kernel_rfl) (fun _ _ _ h => h) (by rfl) (fun u hu => ?_) hS ?_
    rotate_left
    · ((obtain ⟨_, hu2⟩ := hu; obtain ⟨c0, c1, _, _⟩ := obj_cells hu2; clear hu2); go_simp; try (with_reducible rfl))
    try simp only [Act.put, List.setIfInBounds_toArray, List.set_cons_zero, List.set_cons_succ]
    refine give_val (i := 1) (v := ?_) rfl (by kernel_rfl) (by kernel_rfl) (by kernel_rfl) (fun _ _ _ h => h) (by rfl) (fun u hu => ?_) hS ?_
    rotate_left
    · ((obtain ⟨_, hu2⟩ := hu; obtain ⟨c0, c1, _, _⟩ := obj_cells hu2; clear hu2); go_simp; try (with_reducible rfl))
    try simp only [Act.put, List.setIfInBounds_toArray, List.set_cons_zero, List.set_cons_succ]
    refine wpAnyH_ready (rs := [2, 4]) (by kernel_rfl) (by simp) (arm_call (i := 2) 74 #[.int .i64 n] rfl (by rfl) (HA.out _) ?_ ?_ (arm_alloc (i := 4) (.cells #[.int .u64 0, .int .u64 0] 52) rfl (by rfl) ?_ ?_ AllReadyH.nil))
    · (go_simp; try (with_reducible rfl))
    · intro u' hb
      have hS' : (fun u => Below w.heap.size w u ∧ u.heap[w.heap.size]? = some (setO h l)) u' := ⟨hbt hS.1 hb, obj_below hS.2 hb⟩
      refine ⟨hS', ?_⟩
      clear hS hb
      have hS := hS'; clear hS'
      rename World => u
      try simp only [Act.put, List.setIfInBounds_toArray, List.set_cons_zero, List.set_cons_succ]
      refine wpAnyH_ready (rs := [3, 4]) (by kernel_rfl) (by simp) (arm_call (i := 3) 73 #[.agg #[.int .u64 (h : Int), .int .u64 (l : Int)], .agg #[.int .u64 (x : Int), .int .u64 (y : Int)]] rfl (by rfl) (HB.out _) ?_ ?_ (arm_alloc (i := 4) (.cells #[.int .u64 0, .int .u64 0] 52) rfl (by rfl) ?_ ?_ AllReadyH.nil))
      · (go_simp; try (with_reducible rfl))
      · intro u' hb
        have hS' : (fun u => Below w.heap.size w u ∧ u.heap[w.heap.size]? = some (setO h l)) u' := ⟨hbt hS.1 hb, obj_below hS.2 hb⟩
        refine ⟨hS', ?_⟩
        clear hS hb
        have hS := hS'; clear hS'
        rename World => u
        try simp only [Act.put, List.setIfInBounds_toArray, List.set_cons_zero, List.set_cons_succ]
        refine wpAnyH_ready (rs := [4]) (by kernel_rfl) (by simp) (arm_alloc (i := 4) (.cells #[.int .u64 0, .int .u64 0] 52) rfl (by rfl) ?_ ?_ AllReadyH.nil)
        · (go_simp; try (with_reducible rfl))
        · intro p4 u' hb ho4 hp4
          replace hp4 := Nat.le_trans (obj_lt hS.2) hp4
          have hS' : (fun u => Below w.heap.size w u ∧ u.heap[w.heap.size]? = some (setO h l)) u' := ⟨hbt hS.1 hb, obj_below hS.2 hb⟩
          refine ⟨hS', ?_⟩
          clear hS hb
          have hS := hS'; clear hS'
          rename World => u
          try simp only [Act.put, List.setIfInBounds_toArray, List.set_cons_zero, List.set_cons_succ]
          obtain ⟨c0, c1, f0, f1⟩ := obj_cells ho4
          have hr := obj_set2 ho4 (.int .u64 (p : Int)) (.int .u64 (q : Int))
          have hb : Below w.heap.size w ((u.setCell ⟨p4, 0, none⟩ (.int .u64 (p : Int))).setCell ⟨p4, 1, none⟩ (.int .u64 (q : Int))) := (hS.1.setCell (p := ⟨p4, 0, none⟩) (Nat.le_of_lt hp4) _).setCell (p := ⟨p4, 1, none⟩) (Nat.le_of_lt hp4) _
          refine only (i := 5) rfl (by kernel_rfl) (by rfl) (fun K hK => ?_)
          go_simp
          refine hK.out _ _ ⟨hb, by rw [heap_setCell_other _ _ _ _ (Nat.ne_of_lt hp4), heap_setCell_other _ _ _ _ (Nat.ne_of_lt hp4)]; exact hS.2⟩ ?_
          clear hK
          try simp only [Act.put, List.setIfInBounds_toArray, List.set_cons_zero, List.set_cons_succ]
          refine wpAnyH_done (by kernel_rfl) (NoPanic.normal ?_) _
          go_wp2_with fail
          go_meet
          exact ⟨p4, rfl, hr, hb⟩
      · (go_simp; try (with_reducible rfl))
      · intro p4 u' hb ho4 hp4
        replace hp4 := Nat.le_trans (obj_lt hS.2) hp4
        have hS' : (fun u => Below w.heap.size w u ∧ u.heap[w.heap.size]? = some (setO h l)) u' := ⟨hbt hS.1 hb, obj_below hS.2 hb⟩
        refine ⟨hS', ?_⟩
        clear hS hb
        have hS := hS'; clear hS'
        rename World => u
        try simp only [Act.put, List.setIfInBounds_toArray, List.set_cons_zero, List.set_cons_succ]
        refine wpAnyH_ready (rs := [3]) (by kernel_rfl) (by simp) (arm_call (i := 3) 73 #[.agg #[.int .u64 (h : Int), .int .u64 (l : Int)], .agg #[.int .u64 (x : Int), .int .u64 (y : Int)]] rfl (by rfl) (HB.out _) ?_ ?_ AllReadyH.nil)
        · (go_simp; try (with_reducible rfl))
        · intro u' hb
          have hS' : (fun u => Below w.heap.size w u ∧ u.heap[w.heap.size]? = some (setO h l)) u' := ⟨hbt hS.1 hb, obj_below hS.2 hb⟩
          refine ⟨hS', ?_⟩
          replace ho4 := obj_below ho4 hb
          clear hS hb
          have hS := hS'; clear hS'
          rename World => u
          try simp only [Act.put, List.setIfInBounds_toArray, List.set_cons_zero, List.set_cons_succ]
          obtain ⟨c0, c1, f0, f1⟩ := obj_cells ho4
          have hr := obj_set2 ho4 (.int .u64 (p : Int)) (.int .u64 (q : Int))
          have hb : Below w.heap.size w ((u.setCell ⟨p4, 0, none⟩ (.int .u64 (p : Int))).setCell ⟨p4, 1, none⟩ (.int .u64 (q : Int))) := (hS.1.setCell (p := ⟨p4, 0, none⟩) (Nat.le_of_lt hp4) _).setCell (p := ⟨p4, 1, none⟩) (Nat.le_of_lt hp4) _
          refine only (i := 5) rfl (by kernel_rfl) (by rfl) (fun K hK => ?_)
          go_simp
          refine hK.out _ _ ⟨hb, by rw [heap_setCell_other _ _ _ _ (Nat.ne_of_lt hp4), heap_setCell_other _ _ _ _ (Nat.ne_of_lt hp4)]; exact hS.2⟩ ?_
          clear hK
          try simp only [Act.put, List.setIfInBounds_toArray, List.set_cons_zero, List.set_cons_succ]
          refine wpAnyH_done (by kernel_rfl) (NoPanic.normal ?_) _
          go_wp2_with fail
          go_meet
          exact ⟨p4, rfl, hr, hb⟩
    · (go_simp; try (with_reducible rfl))
    · intro p4 u' hb ho4 hp4
      replace hp4 := Nat.le_trans (obj_lt hS.2) hp4
      have hS' : (fun u => Below w.heap.size w u ∧ u.heap[w.heap.size]? = some (setO h l)) u' := ⟨hbt hS.1 hb, obj_below hS.2 hb⟩
      refine ⟨hS', ?_⟩
      clear hS hb
      have hS := hS'; clear hS'
      rename World => u
      try simp only [Act.put, List.setIfInBounds_toArray, List.set_cons_zero, List.set_cons_succ]
      refine wpAnyH_ready (rs := [2]) (by kernel_rfl) (by simp) (arm_call (i := 2) 74 #[.int .i64 n] rfl (by rfl) (HA.out _) ?_ ?_ AllReadyH.nil)
      · (go_simp; try (with_reducible rfl))
      · intro u' hb
        have hS' : (fun u => Below w.heap.size w u ∧ u.heap[w.heap.size]? = some (setO h l)) u' := ⟨hbt hS.1 hb, obj_below hS.2 hb⟩
        refine ⟨hS', ?_⟩
        replace ho4 := obj_below ho4 hb
        clear hS hb
        have hS := hS'; clear hS'
        rename World => u
        try simp only [Act.put, List.setIfInBounds_toArray, List.set_cons_zero, List.set_cons_succ]
        refine wpAnyH_ready (rs := [3]) (by kernel_rfl) (by simp) (arm_call (i := 3) 73 #[.agg #[.int .u64 (h : Int), .int .u64 (l : Int)], .agg #[.int .u64 (x : Int), .int .u64 (y : Int)]] rfl (by rfl) (HB.out _) ?_ ?_ AllReadyH.nil)
        · (go_simp; try (with_reducible rfl))
        · intro u' hb
          have hS' : (fun u => Below w.heap.size w u ∧ u.heap[w.heap.size]? = some (setO h l)) u' := ⟨hbt hS.1 hb, obj_below hS.2 hb⟩
          refine ⟨hS', ?_⟩
          replace ho4 := obj_below ho4 hb
          clear hS hb
          have hS := hS'; clear hS'
          rename World => u
          try simp only [Act.put, List.setIfInBounds_toArray, List.set_cons_zero, List.set_cons_succ]
          obtain ⟨c0, c1, f0, f1⟩ := obj_cells ho4
          have hr := obj_set2 ho4 (.int .u64 (p : Int)) (.int .u64 (q : Int))
          have hb : Below w.heap.size w ((u.setCell ⟨p4, 0, none⟩ (.int .u64 (p : Int))).setCell ⟨p4, 1, none⟩ (.int .u64 (q : Int))) := (hS.1.setCell (p := ⟨p4, 0, none⟩) (Nat.le_of_lt hp4) _).setCell (p := ⟨p4, 1, none⟩) (Nat.le_of_lt hp4) _
          refine only (i := 5) rfl (by kernel_rfl) (by rfl) (fun K hK => ?_)
          go_simp
          refine hK.out _ _ ⟨hb, by rw [heap_setCell_other _ _ _ _ (Nat.ne_of_lt hp4), heap_setCell_other _ _ _ _ (Nat.ne_of_lt hp4)]; exact hS.2⟩ ?_
          clear hK
          try simp only [Act.put, List.setIfInBounds_toArray, List.set_cons_zero, List.set_cons_succ]
          refine wpAnyH_done (by kernel_rfl) (NoPanic.normal ?_) _
          go_wp2_with fail
          go_meet
          exact ⟨p4, rfl, hr, hb⟩
  case rest =>
    obtain ⟨g, rfl, hg, hb⟩ := hcut
    obtain ⟨c0, c1, _, _⟩ := obj_cells hg
    have HS := Lib.hid hb
    clear hb hg
    by_cases p0 : p = 0
    · subst p0
      by_cases q0 : q = 0
      · subst q0
        go_wp2
        go_ret
        exact ⟨by have := HN.out; simp at this; simp [this], HS.out⟩
      · have hq := bitLen_top HQ.out q0
        have HL := Lib.hid (fun W => lead_any q HQ.out W)
        have e1 : 1 ≤ Lib.bitLen q := hq.1
        have e2 : Lib.bitLen q ≤ 64 := hq.2.1
        clear hq
        generalize Lib.bitLen q = z at *
        go_wp2_with fail
        refine (HL.out _).mono ?_
        rintro e w1 ⟨rfl, rfl⟩
        go_wp2
        go_ret
        refine ⟨?_, HS.out⟩
        have := HN.out
        simp [q0] at this
        subst this
        simp
        omega
    · have hq := bitLen_top HP.out p0
      have HL := Lib.hid (fun W => lead_any p HP.out W)
      have e1 : 1 ≤ Lib.bitLen p := hq.1
      have e2 : Lib.bitLen p ≤ 64 := hq.2.1
      clear hq
      generalize Lib.bitLen p = z at *
      go_wp2_with fail
      refine (HL.out _).mono ?_
      rintro e w1 ⟨rfl, rfl⟩
      go_wp2
      go_ret
      refine ⟨?_, HS.out⟩
      have := HN.out
      simp [p0] at this
      subst this
      simp
      omega

end Go.Proofs.YtlkpiapmdflahaaDoor
