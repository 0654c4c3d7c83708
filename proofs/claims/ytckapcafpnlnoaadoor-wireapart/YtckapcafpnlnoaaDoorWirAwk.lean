/-
  The law's awake answers true, in every world that holds the table of kinds.
-/
import Derived.Test.YtckapcafpnlnoaaDoorWirEnc
import Derived.Test.YtckapcafpnlnoaaDoorPackDia
import Derived.Test.YtckapcafpnlnoaaDoorPackBase
import Derived.Deep.DeepCutAuto
namespace Go.Proofs.YtckapcafpnlnoaaDoor
open Go.RowKit

abbrev wa0 : ByteArray := ⟨#[48, 56, 48, 48]⟩
abbrev wa1 : ByteArray := ⟨#[49, 56, 48, 48]⟩
abbrev wd1 : ByteArray := ⟨#[49, 50, 51, 52, 53, 54]⟩
abbrev wd2 : ByteArray := ⟨#[51, 48, 49]⟩
abbrev waM : List Item := [(11, wd1), (70, wd2)]
abbrev waA : ByteArray := ⟨#[48, 56, 48, 48, 56, 48, 50, 48, 48, 48, 48, 48, 48, 48, 48, 48, 48, 48, 48, 48, 48, 52, 48, 48, 48, 48, 48, 48, 48, 48, 48, 48, 48, 48, 48, 48, 49, 50, 51, 52, 53, 54, 51, 48, 49]⟩
abbrev waB : ByteArray := ⟨#[24, 0, 128, 32, 0, 0, 0, 0, 0, 0, 4, 0, 0, 0, 0, 0, 0, 0, 18, 52, 86, 3, 1]⟩

theorem waw_sizes : ∀ x ∈ waM, x.2.size ≤ maxLen := fun x hx => by
  have h : (waM.all fun x => decide (x.2.size ≤ 6)) = true := by decide
  have := of_decide_eq_true (List.all_eq_true.1 h x hx)
  unfold maxLen
  omega
theorem waw_ok1 : msgN 1 0 (refL 0 diaT) wa0 waM = (0, 0) ∧ encS 1 0 (refL 0 diaT) wa0 waM = waA := by decide +kernel
theorem waw_ok2 : msgN 2 1 (refL 1 diaT) wa1 waM = (0, 0) ∧ encS 2 1 (refL 1 diaT) wa1 waM = waB := by decide +kernel
theorem waw_ok3 : msgN 1 0 (refL 0 diaT) wa1 waM = (7, 0) ∧ encS 1 0 (refL 0 diaT) wa1 waM = ⟨#[]⟩ := by decide +kernel
theorem waw_len : (refL 0 diaT).length ≤ 1000 ∧ (refL 1 diaT).length ≤ 1000 := by decide +kernel

theorem waw_enc1 (A B : Option Addr) (c : Nat) (W : World) (hK : Kinds W) (h : Spl W A (refL 0 diaT)) (k : Tlvs W B waM) : Calls Tryd.prog 13 #[.agg #[.int .i64 1, .int .i64 0, .slice A (refL 0 diaT).length c], .agg #[.string wa0, .slice B 2 2]] W fun e w' => e = .returned (.tuple #[.string waA, .agg #[.int .i64 0, .int .i64 0]]) ∧ Below W.heap.size W w' := by
  have := wenc_any 1 0 A c (refL 0 diaT) wa0 B 2 waM W hK h k waw_len.1 (by simp) waw_sizes
  rw [waw_ok1.1, waw_ok1.2] at this
  exact this
theorem waw_enc2 (A B : Option Addr) (c : Nat) (W : World) (hK : Kinds W) (h : Spl W A (refL 1 diaT)) (k : Tlvs W B waM) : Calls Tryd.prog 13 #[.agg #[.int .i64 2, .int .i64 1, .slice A (refL 1 diaT).length c], .agg #[.string wa1, .slice B 2 2]] W fun e w' => e = .returned (.tuple #[.string waB, .agg #[.int .i64 0, .int .i64 0]]) ∧ Below W.heap.size W w' := by
  have := wenc_any 2 1 A c (refL 1 diaT) wa1 B 2 waM W hK h k waw_len.2 (by simp) waw_sizes
  rw [waw_ok2.1, waw_ok2.2] at this
  exact this
theorem waw_enc3 (A B : Option Addr) (c : Nat) (W : World) (hK : Kinds W) (h : Spl W A (refL 0 diaT)) (k : Tlvs W B waM) : Calls Tryd.prog 13 #[.agg #[.int .i64 1, .int .i64 0, .slice A (refL 0 diaT).length c], .agg #[.string wa1, .slice B 2 2]] W fun e w' => e = .returned (.tuple #[.string ⟨#[]⟩, .agg #[.int .i64 7, .int .i64 0]]) ∧ Below W.heap.size W w' := by
  have := wenc_any 1 0 A c (refL 0 diaT) wa1 B 2 waM W hK h k waw_len.1 (by simp) waw_sizes
  rw [waw_ok3.1, waw_ok3.2] at this
  exact this

/-- What stands in the first two blocks: the fields, and the message. -/
def WAw (w : World) (m : ByteArray) (u : World) : Prop :=
  Below w.heap.size w u ∧ u.heap[w.heap.size]? = some (.cells #[.int .i64 11, .string wd1, .int .i64 70, .string wd2] 51) ∧ MBox u (w.heap.size + 1) m (some ⟨w.heap.size, 0, none⟩) 2 2
theorem WAw.below {w : World} {m : ByteArray} {u u' : World} (h : WAw w m u) (hb : Below u.heap.size u u') : WAw w m u' := ⟨hbt h.1 hb, obj_below h.2.1 hb, h.2.2.below hb⟩
theorem WAw.vals {w : World} {m : ByteArray} {u : World} (h : WAw w m u) : Tlvs u (some ⟨w.heap.size, 0, none⟩) waM := vals_row h.2.1 rfl
theorem WAw.store {w : World} {m : ByteArray} {u : World} (h : WAw w m u) (m' : ByteArray) : WAw w m' (u.setCell ⟨w.heap.size + 1, 0, none⟩ (.string m')) :=
  ⟨h.1.setCell (p := ⟨w.heap.size + 1, 0, none⟩) (Nat.le_succ _) _, (heap_setCell_other _ _ _ _ (by show w.heap.size ≠ w.heap.size + 1; omega)).trans h.2.1, heap_setCell_same _ _ 0 _ _ _ h.2.2⟩
theorem waw_new (w : World) : WAw w wa0 ((w.alloc (.cells #[.int .i64 11, .string wd1, .int .i64 70, .string wd2] 51)).alloc (.cells #[.string wa0, .slice (some ⟨w.heap.size, 0, none⟩) 2 2] 33)) :=
  ⟨hbt (below_al _ _) (below_al _ _), obj_below (heap_alloc_new _ _) (below_al _ _), heap_al _ _ _ (by simp)⟩

set_option maxRecDepth 100000 in
set_option maxHeartbeats 12800000 in
theorem wawake_any (w : World) (hK : Kinds w) : Calls Tryd.prog 8 #[] w fun e w' => e = .returned (.bool true) ∧ Below w.heap.size w w' := by
  have HK := Lib.hid hK
  have HT := Lib.hid (waw_new w)
  have HS0 : Hid (∀ W, Calls Tryd.prog 26 #[.int .i64 0] W fun e w' => ∃ x, e = .returned x ∧ ∃ A c, x = .agg #[.int .i64 1, .int .i64 0, .slice A (refL 0 diaT).length c] ∧ Spl w' A (refL 0 diaT) ∧ Below W.heap.size W w') := fun W => (refsch_0 W).mono fun e w' ⟨A, c, he, ht, _, hb⟩ => ⟨_, he, A, c, rfl, ht, hb⟩
  have HS1 : Hid (∀ W, Calls Tryd.prog 26 #[.int .i64 1] W fun e w' => ∃ x, e = .returned x ∧ ∃ A c, x = .agg #[.int .i64 2, .int .i64 1, .slice A (refL 1 diaT).length c] ∧ Spl w' A (refL 1 diaT) ∧ Below W.heap.size W w') := fun W => (refsch_1 W).mono fun e w' ⟨A, c, he, ht, _, hb⟩ => ⟨_, he, A, c, rfl, ht, hb⟩
  have HE1 := Lib.hid (waw_enc1)
  have HE2 := Lib.hid (waw_enc2)
  have HE3 := Lib.hid (waw_enc3)
  clear hK
  generalize (refL 0 diaT).length = n0 at *
  generalize (refL 1 diaT).length = n1 at *
  generalize refL 0 diaT = L0 at *
  generalize refL 1 diaT = L1 at *
  go_enter Tryd.func8, Tryd.ntmps8
  go_upto_region 2 with fail
  generalize (w.alloc (.cells #[.int .i64 11, .string wd1, .int .i64 70, .string wd2] 51)).alloc (.cells #[.string wa0, .slice (some ⟨w.heap.size, 0, none⟩) 2 2] 33) = U at *
  go_cut [2, 3] (fun s2 s3 wx => ∃ p : Nat, s2 = .string waA ∧ s3 = .pointer (some ⟨p, 0, none⟩) ∧ U.heap.size ≤ p ∧ wx.heap[p]? = some (.cells #[.int .i64 0, .int .i64 0] 37) ∧ Below U.heap.size U wx)
  case first =>
    refine wp_region_noPanic ?_
    refine wp_region_held_drew (S := (fun u => Below U.heap.size U u)) (by kernel_rfl) ((Below.refl _ _).drew) (fun hS => ?_)
    refine give_val (i := 1) (v := ?_) rfl (by kernel_rfl) (by kernel_rfl) (by kernel_rfl) (fun _ _ _ h => h) (by rfl) (fun u hu => ?_) hS ?_
    rotate_left
    · ((have hT := (HT.out.below hu).2.2; obtain ⟨b0, b1, _, _⟩ := obj_cells hT; clear hT); go_simp; try (with_reducible rfl))
    try simp only [Act.put, List.setIfInBounds_toArray, List.set_cons_zero, List.set_cons_succ]
    refine wpAnyH_ready (rs := [0, 6]) (by kernel_rfl) (by simp) (arm_some (i := 0) 26 #[.int .i64 0] rfl (by rfl) (HS0.out _) ?_ ?_ (arm_alloc (i := 6) (.cells #[.int .i64 0, .int .i64 0] 37) rfl (by rfl) ?_ ?_ AllReadyH.nil))
    · (go_simp; try (with_reducible rfl))
    · intro v0 u' hT
      obtain ⟨A0, c0, rfl, ht0, hb⟩ := hT
      have hS' : (fun u => Below U.heap.size U u) u' := hbt hS hb
      refine ⟨hS', ?_⟩
      clear hS hb
      have hS := hS'; clear hS'
      rename World => u
      try simp only [Act.put, List.setIfInBounds_toArray, List.set_cons_zero, List.set_cons_succ]
      refine wpAnyH_ready (rs := [2, 6]) (by kernel_rfl) (by simp) (arm_call (i := 2) 13 #[.agg #[.int .i64 1, .int .i64 0, .slice A0 n0 c0], .agg #[.string wa0, .slice (some ⟨w.heap.size, 0, none⟩) 2 2]] rfl (by rfl) (HE1.out A0 _ c0 _ (HK.out.below (HT.out.below hS).1) ht0 (HT.out.below hS).vals) ?_ ?_ (arm_alloc (i := 6) (.cells #[.int .i64 0, .int .i64 0] 37) rfl (by rfl) ?_ ?_ AllReadyH.nil))
      · (go_simp; try (with_reducible rfl))
      · intro u' hb
        have hS' : (fun u => Below U.heap.size U u) u' := hbt hS hb
        refine ⟨hS', ?_⟩
        replace ht0 := ht0.below hb
        clear hS hb
        have hS := hS'; clear hS'
        rename World => u
        try simp only [Act.put, List.setIfInBounds_toArray, List.set_cons_zero, List.set_cons_succ]
        refine give_val (i := 3) (v := ?_) rfl (by kernel_rfl) (by kernel_rfl) (by kernel_rfl) (fun _ _ _ h => h) (by rfl) (fun u hu => ?_) hS ?_
        rotate_left
        · ((have hT := (HT.out.below hu).2.2; obtain ⟨b0, b1, _, _⟩ := obj_cells hT; clear hT); go_simp; try (with_reducible rfl))
        try simp only [Act.put, List.setIfInBounds_toArray, List.set_cons_zero, List.set_cons_succ]
        refine give_val (i := 4) (v := ?_) rfl (by kernel_rfl) (by kernel_rfl) (by kernel_rfl) (fun _ _ _ h => h) (by rfl) (fun u hu => ?_) hS ?_
        rotate_left
        · ((have hT := (HT.out.below hu).2.2; obtain ⟨b0, b1, _, _⟩ := obj_cells hT; clear hT); go_simp; try (with_reducible rfl))
        try simp only [Act.put, List.setIfInBounds_toArray, List.set_cons_zero, List.set_cons_succ]
        refine give_val (i := 5) (v := ?_) rfl (by kernel_rfl) (by kernel_rfl) (by kernel_rfl) (fun _ _ _ h => h) (by rfl) (fun u hu => ?_) hS ?_
        rotate_left
        · ((have hT := (HT.out.below hu).2.2; obtain ⟨b0, b1, _, _⟩ := obj_cells hT; clear hT); go_simp; try (with_reducible rfl))
        try simp only [Act.put, List.setIfInBounds_toArray, List.set_cons_zero, List.set_cons_succ]
        refine wpAnyH_ready (rs := [6]) (by kernel_rfl) (by simp) (arm_alloc (i := 6) (.cells #[.int .i64 0, .int .i64 0] 37) rfl (by rfl) ?_ ?_ AllReadyH.nil)
        · (go_simp; try (with_reducible rfl))
        · intro p6 u' hb ho6 hp6
          replace hp6 := Nat.le_trans (hS.size) hp6
          have hS' : (fun u => Below U.heap.size U u) u' := hbt hS hb
          refine ⟨hS', ?_⟩
          replace ht0 := ht0.below hb
          clear hS hb
          have hS := hS'; clear hS'
          rename World => u
          try simp only [Act.put, List.setIfInBounds_toArray, List.set_cons_zero, List.set_cons_succ]
          obtain ⟨d0, d1, f0, f1⟩ := obj_cells ho6
          have hr6 := obj_set2 ho6 (.int .i64 0) (.int .i64 0)
          have hS4 : Below U.heap.size U _ := below_set2 hS hp6 (.int .i64 0) (.int .i64 0)
          refine give_val (i := 7) (v := ?_) rfl (by kernel_rfl) (by kernel_rfl) (by kernel_rfl) (fun _ _ _ h => h) (by rfl) (fun u hu => ?_) hS ?_
          rotate_left
          · ((have hT := (HT.out.below hu).2.2; obtain ⟨b0, b1, _, _⟩ := obj_cells hT; clear hT); go_simp; try (with_reducible rfl))
          try simp only [Act.put, List.setIfInBounds_toArray, List.set_cons_zero, List.set_cons_succ]
          refine only (i := 8) rfl (by kernel_rfl) (by rfl) (fun K hK => ?_)
          go_simp
          refine hK.out _ _ hS4 ?_
          clear hK
          try simp only [Act.put, List.setIfInBounds_toArray, List.set_cons_zero, List.set_cons_succ]
          refine wpAnyH_done (by kernel_rfl) (NoPanic.normal ?_) _
          go_wp2_with fail
          go_meet
          exact ⟨p6, rfl, rfl, hp6, hr6, hS4⟩
      · (go_simp; try (with_reducible rfl))
      · intro p6 u' hb ho6 hp6
        replace hp6 := Nat.le_trans (hS.size) hp6
        have hS' : (fun u => Below U.heap.size U u) u' := hbt hS hb
        refine ⟨hS', ?_⟩
        replace ht0 := ht0.below hb
        clear hS hb
        have hS := hS'; clear hS'
        rename World => u
        try simp only [Act.put, List.setIfInBounds_toArray, List.set_cons_zero, List.set_cons_succ]
        refine wpAnyH_ready (rs := [2]) (by kernel_rfl) (by simp) (arm_call (i := 2) 13 #[.agg #[.int .i64 1, .int .i64 0, .slice A0 n0 c0], .agg #[.string wa0, .slice (some ⟨w.heap.size, 0, none⟩) 2 2]] rfl (by rfl) (HE1.out A0 _ c0 _ (HK.out.below (HT.out.below hS).1) ht0 (HT.out.below hS).vals) ?_ ?_ AllReadyH.nil)
        · (go_simp; try (with_reducible rfl))
        · intro u' hb
          have hS' : (fun u => Below U.heap.size U u) u' := hbt hS hb
          refine ⟨hS', ?_⟩
          replace ho6 := obj_below ho6 hb
          replace ht0 := ht0.below hb
          clear hS hb
          have hS := hS'; clear hS'
          rename World => u
          try simp only [Act.put, List.setIfInBounds_toArray, List.set_cons_zero, List.set_cons_succ]
          refine give_val (i := 3) (v := ?_) rfl (by kernel_rfl) (by kernel_rfl) (by kernel_rfl) (fun _ _ _ h => h) (by rfl) (fun u hu => ?_) hS ?_
          rotate_left
          · ((have hT := (HT.out.below hu).2.2; obtain ⟨b0, b1, _, _⟩ := obj_cells hT; clear hT); go_simp; try (with_reducible rfl))
          try simp only [Act.put, List.setIfInBounds_toArray, List.set_cons_zero, List.set_cons_succ]
          refine give_val (i := 4) (v := ?_) rfl (by kernel_rfl) (by kernel_rfl) (by kernel_rfl) (fun _ _ _ h => h) (by rfl) (fun u hu => ?_) hS ?_
          rotate_left
          · ((have hT := (HT.out.below hu).2.2; obtain ⟨b0, b1, _, _⟩ := obj_cells hT; clear hT); go_simp; try (with_reducible rfl))
          try simp only [Act.put, List.setIfInBounds_toArray, List.set_cons_zero, List.set_cons_succ]
          refine give_val (i := 5) (v := ?_) rfl (by kernel_rfl) (by kernel_rfl) (by kernel_rfl) (fun _ _ _ h => h) (by rfl) (fun u hu => ?_) hS ?_
          rotate_left
          · ((have hT := (HT.out.below hu).2.2; obtain ⟨b0, b1, _, _⟩ := obj_cells hT; clear hT); go_simp; try (with_reducible rfl))
          try simp only [Act.put, List.setIfInBounds_toArray, List.set_cons_zero, List.set_cons_succ]
          obtain ⟨d0, d1, f0, f1⟩ := obj_cells ho6
          have hr6 := obj_set2 ho6 (.int .i64 0) (.int .i64 0)
          have hS4 : Below U.heap.size U _ := below_set2 hS hp6 (.int .i64 0) (.int .i64 0)
          refine give_val (i := 7) (v := ?_) rfl (by kernel_rfl) (by kernel_rfl) (by kernel_rfl) (fun _ _ _ h => h) (by rfl) (fun u hu => ?_) hS ?_
          rotate_left
          · ((have hT := (HT.out.below hu).2.2; obtain ⟨b0, b1, _, _⟩ := obj_cells hT; clear hT); go_simp; try (with_reducible rfl))
          try simp only [Act.put, List.setIfInBounds_toArray, List.set_cons_zero, List.set_cons_succ]
          refine only (i := 8) rfl (by kernel_rfl) (by rfl) (fun K hK => ?_)
          go_simp
          refine hK.out _ _ hS4 ?_
          clear hK
          try simp only [Act.put, List.setIfInBounds_toArray, List.set_cons_zero, List.set_cons_succ]
          refine wpAnyH_done (by kernel_rfl) (NoPanic.normal ?_) _
          go_wp2_with fail
          go_meet
          exact ⟨p6, rfl, rfl, hp6, hr6, hS4⟩
    · (go_simp; try (with_reducible rfl))
    · intro p6 u' hb ho6 hp6
      replace hp6 := Nat.le_trans (hS.size) hp6
      have hS' : (fun u => Below U.heap.size U u) u' := hbt hS hb
      refine ⟨hS', ?_⟩
      clear hS hb
      have hS := hS'; clear hS'
      rename World => u
      try simp only [Act.put, List.setIfInBounds_toArray, List.set_cons_zero, List.set_cons_succ]
      refine wpAnyH_ready (rs := [0]) (by kernel_rfl) (by simp) (arm_some (i := 0) 26 #[.int .i64 0] rfl (by rfl) (HS0.out _) ?_ ?_ AllReadyH.nil)
      · (go_simp; try (with_reducible rfl))
      · intro v0 u' hT
        obtain ⟨A0, c0, rfl, ht0, hb⟩ := hT
        have hS' : (fun u => Below U.heap.size U u) u' := hbt hS hb
        refine ⟨hS', ?_⟩
        replace ho6 := obj_below ho6 hb
        clear hS hb
        have hS := hS'; clear hS'
        rename World => u
        try simp only [Act.put, List.setIfInBounds_toArray, List.set_cons_zero, List.set_cons_succ]
        refine wpAnyH_ready (rs := [2]) (by kernel_rfl) (by simp) (arm_call (i := 2) 13 #[.agg #[.int .i64 1, .int .i64 0, .slice A0 n0 c0], .agg #[.string wa0, .slice (some ⟨w.heap.size, 0, none⟩) 2 2]] rfl (by rfl) (HE1.out A0 _ c0 _ (HK.out.below (HT.out.below hS).1) ht0 (HT.out.below hS).vals) ?_ ?_ AllReadyH.nil)
        · (go_simp; try (with_reducible rfl))
        · intro u' hb
          have hS' : (fun u => Below U.heap.size U u) u' := hbt hS hb
          refine ⟨hS', ?_⟩
          replace ho6 := obj_below ho6 hb
          replace ht0 := ht0.below hb
          clear hS hb
          have hS := hS'; clear hS'
          rename World => u
          try simp only [Act.put, List.setIfInBounds_toArray, List.set_cons_zero, List.set_cons_succ]
          refine give_val (i := 3) (v := ?_) rfl (by kernel_rfl) (by kernel_rfl) (by kernel_rfl) (fun _ _ _ h => h) (by rfl) (fun u hu => ?_) hS ?_
          rotate_left
          · ((have hT := (HT.out.below hu).2.2; obtain ⟨b0, b1, _, _⟩ := obj_cells hT; clear hT); go_simp; try (with_reducible rfl))
          try simp only [Act.put, List.setIfInBounds_toArray, List.set_cons_zero, List.set_cons_succ]
          refine give_val (i := 4) (v := ?_) rfl (by kernel_rfl) (by kernel_rfl) (by kernel_rfl) (fun _ _ _ h => h) (by rfl) (fun u hu => ?_) hS ?_
          rotate_left
          · ((have hT := (HT.out.below hu).2.2; obtain ⟨b0, b1, _, _⟩ := obj_cells hT; clear hT); go_simp; try (with_reducible rfl))
          try simp only [Act.put, List.setIfInBounds_toArray, List.set_cons_zero, List.set_cons_succ]
          refine give_val (i := 5) (v := ?_) rfl (by kernel_rfl) (by kernel_rfl) (by kernel_rfl) (fun _ _ _ h => h) (by rfl) (fun u hu => ?_) hS ?_
          rotate_left
          · ((have hT := (HT.out.below hu).2.2; obtain ⟨b0, b1, _, _⟩ := obj_cells hT; clear hT); go_simp; try (with_reducible rfl))
          try simp only [Act.put, List.setIfInBounds_toArray, List.set_cons_zero, List.set_cons_succ]
          obtain ⟨d0, d1, f0, f1⟩ := obj_cells ho6
          have hr6 := obj_set2 ho6 (.int .i64 0) (.int .i64 0)
          have hS4 : Below U.heap.size U _ := below_set2 hS hp6 (.int .i64 0) (.int .i64 0)
          refine give_val (i := 7) (v := ?_) rfl (by kernel_rfl) (by kernel_rfl) (by kernel_rfl) (fun _ _ _ h => h) (by rfl) (fun u hu => ?_) hS ?_
          rotate_left
          · ((have hT := (HT.out.below hu).2.2; obtain ⟨b0, b1, _, _⟩ := obj_cells hT; clear hT); go_simp; try (with_reducible rfl))
          try simp only [Act.put, List.setIfInBounds_toArray, List.set_cons_zero, List.set_cons_succ]
          refine only (i := 8) rfl (by kernel_rfl) (by rfl) (fun K hK => ?_)
          go_simp
          refine hK.out _ _ hS4 ?_
          clear hK
          try simp only [Act.put, List.setIfInBounds_toArray, List.set_cons_zero, List.set_cons_succ]
          refine wpAnyH_done (by kernel_rfl) (NoPanic.normal ?_) _
          go_wp2_with fail
          go_meet
          exact ⟨p6, rfl, rfl, hp6, hr6, hS4⟩
  case rest =>
    obtain ⟨p, rfl, rfl, hp, hf, hb⟩ := hcut
    have HT1 := Lib.hid ((HT.out.below hb).store wa1)
    have hm := (HT.out.below hb).2.2
    obtain ⟨b0, b1, f0, f1⟩ := obj_cells hm
    have hlt := obj_lt HT.out.2.2
    have HF1 := Lib.hid ((heap_setCell_other wc ⟨w.heap.size + 1, 0, none⟩ p (.string wa1) (by show p ≠ w.heap.size + 1; omega)).trans hf)
    clear hf hb hm HT hlt hp HE1
    go_upto_region 4 with fail
    generalize wc.setCell ⟨w.heap.size + 1, 0, none⟩ (.string wa1) = W1 at *
    clear b0 b1 f0 f1
    go_cut [4, 5] (fun s4 s5 wx => ∃ q : Nat, s4 = .string waB ∧ s5 = .pointer (some ⟨q, 0, none⟩) ∧ wx.heap[q]? = some (.cells #[.int .i64 0, .int .i64 0] 37) ∧ Below W1.heap.size W1 wx)
    case first =>
      refine wp_region_noPanic ?_
      refine wp_region_held_drew (S := (fun u => Below W1.heap.size W1 u)) (by kernel_rfl) ((Below.refl _ _).drew) (fun hS => ?_)
      refine give_val (i := 1) (v := ?_) rfl (by kernel_rfl) (by kernel_rfl) (by kernel_rfl) (fun _ _ _ h => h) (by rfl) (fun u hu => ?_) hS ?_
      rotate_left
      · ((have hT := (HT1.out.below hu).2.2; obtain ⟨b0, b1, _, _⟩ := obj_cells hT; clear hT); go_simp; try (with_reducible rfl))
      try simp only [Act.put, List.setIfInBounds_toArray, List.set_cons_zero, List.set_cons_succ]
      refine wpAnyH_ready (rs := [0, 6]) (by kernel_rfl) (by simp) (arm_some (i := 0) 26 #[.int .i64 1] rfl (by rfl) (HS1.out _) ?_ ?_ (arm_alloc (i := 6) (.cells #[.int .i64 0, .int .i64 0] 37) rfl (by rfl) ?_ ?_ AllReadyH.nil))
      · (go_simp; try (with_reducible rfl))
      · intro v0 u' hT
        obtain ⟨A0, c0, rfl, ht0, hb⟩ := hT
        have hS' : (fun u => Below W1.heap.size W1 u) u' := hbt hS hb
        refine ⟨hS', ?_⟩
        clear hS hb
        have hS := hS'; clear hS'
        rename World => u
        try simp only [Act.put, List.setIfInBounds_toArray, List.set_cons_zero, List.set_cons_succ]
        refine wpAnyH_ready (rs := [2, 6]) (by kernel_rfl) (by simp) (arm_call (i := 2) 13 #[.agg #[.int .i64 2, .int .i64 1, .slice A0 n1 c0], .agg #[.string wa1, .slice (some ⟨w.heap.size, 0, none⟩) 2 2]] rfl (by rfl) (HE2.out A0 _ c0 _ (HK.out.below (HT1.out.below hS).1) ht0 (HT1.out.below hS).vals) ?_ ?_ (arm_alloc (i := 6) (.cells #[.int .i64 0, .int .i64 0] 37) rfl (by rfl) ?_ ?_ AllReadyH.nil))
        · (go_simp; try (with_reducible rfl))
        · intro u' hb
          have hS' : (fun u => Below W1.heap.size W1 u) u' := hbt hS hb
          refine ⟨hS', ?_⟩
          replace ht0 := ht0.below hb
          clear hS hb
          have hS := hS'; clear hS'
          rename World => u
          try simp only [Act.put, List.setIfInBounds_toArray, List.set_cons_zero, List.set_cons_succ]
          refine give_val (i := 3) (v := ?_) rfl (by kernel_rfl) (by kernel_rfl) (by kernel_rfl) (fun _ _ _ h => h) (by rfl) (fun u hu => ?_) hS ?_
          rotate_left
          · ((have hT := (HT1.out.below hu).2.2; obtain ⟨b0, b1, _, _⟩ := obj_cells hT; clear hT); go_simp; try (with_reducible rfl))
          try simp only [Act.put, List.setIfInBounds_toArray, List.set_cons_zero, List.set_cons_succ]
          refine give_val (i := 4) (v := ?_) rfl (by kernel_rfl) (by kernel_rfl) (by kernel_rfl) (fun _ _ _ h => h) (by rfl) (fun u hu => ?_) hS ?_
          rotate_left
          · ((have hT := (HT1.out.below hu).2.2; obtain ⟨b0, b1, _, _⟩ := obj_cells hT; clear hT); go_simp; try (with_reducible rfl))
          try simp only [Act.put, List.setIfInBounds_toArray, List.set_cons_zero, List.set_cons_succ]
          refine give_val (i := 5) (v := ?_) rfl (by kernel_rfl) (by kernel_rfl) (by kernel_rfl) (fun _ _ _ h => h) (by rfl) (fun u hu => ?_) hS ?_
          rotate_left
          · ((have hT := (HT1.out.below hu).2.2; obtain ⟨b0, b1, _, _⟩ := obj_cells hT; clear hT); go_simp; try (with_reducible rfl))
          try simp only [Act.put, List.setIfInBounds_toArray, List.set_cons_zero, List.set_cons_succ]
          refine wpAnyH_ready (rs := [6]) (by kernel_rfl) (by simp) (arm_alloc (i := 6) (.cells #[.int .i64 0, .int .i64 0] 37) rfl (by rfl) ?_ ?_ AllReadyH.nil)
          · (go_simp; try (with_reducible rfl))
          · intro p6 u' hb ho6 hp6
            replace hp6 := Nat.le_trans (hS.size) hp6
            have hS' : (fun u => Below W1.heap.size W1 u) u' := hbt hS hb
            refine ⟨hS', ?_⟩
            replace ht0 := ht0.below hb
            clear hS hb
            have hS := hS'; clear hS'
            rename World => u
            try simp only [Act.put, List.setIfInBounds_toArray, List.set_cons_zero, List.set_cons_succ]
            obtain ⟨d0, d1, f0, f1⟩ := obj_cells ho6
            have hr6 := obj_set2 ho6 (.int .i64 0) (.int .i64 0)
            have hS4 : Below W1.heap.size W1 _ := below_set2 hS hp6 (.int .i64 0) (.int .i64 0)
            refine give_val (i := 7) (v := ?_) rfl (by kernel_rfl) (by kernel_rfl) (by kernel_rfl) (fun _ _ _ h => h) (by rfl) (fun u hu => ?_) hS ?_
            rotate_left
            · ((have hT := (HT1.out.below hu).2.2; obtain ⟨b0, b1, _, _⟩ := obj_cells hT; clear hT); go_simp; try (with_reducible rfl))
            try simp only [Act.put, List.setIfInBounds_toArray, List.set_cons_zero, List.set_cons_succ]
            refine only (i := 8) rfl (by kernel_rfl) (by rfl) (fun K hK => ?_)
            go_simp
            refine hK.out _ _ hS4 ?_
            clear hK
            try simp only [Act.put, List.setIfInBounds_toArray, List.set_cons_zero, List.set_cons_succ]
            refine wpAnyH_done (by kernel_rfl) (NoPanic.normal ?_) _
            go_wp2_with fail
            go_meet
            exact ⟨p6, rfl, rfl, hr6, hS4⟩
        · (go_simp; try (with_reducible rfl))
        · intro p6 u' hb ho6 hp6
          replace hp6 := Nat.le_trans (hS.size) hp6
          have hS' : (fun u => Below W1.heap.size W1 u) u' := hbt hS hb
          refine ⟨hS', ?_⟩
          replace ht0 := ht0.below hb
          clear hS hb
          have hS := hS'; clear hS'
          rename World => u
          try simp only [Act.put, List.setIfInBounds_toArray, List.set_cons_zero, List.set_cons_succ]
          refine wpAnyH_ready (rs := [2]) (by kernel_rfl) (by simp) (arm_call (i := 2) 13 #[.agg #[.int .i64 2, .int .i64 1, .slice A0 n1 c0], .agg #[.string wa1, .slice (some ⟨w.heap.size, 0, none⟩) 2 2]] rfl (by rfl) (HE2.out A0 _ c0 _ (HK.out.below (HT1.out.below hS).1) ht0 (HT1.out.below hS).vals) ?_ ?_ AllReadyH.nil)
          · (go_simp; try (with_reducible rfl))
          · intro u' hb
            have hS' : (fun u => Below W1.heap.size W1 u) u' := hbt hS hb
            refine ⟨hS', ?_⟩
            replace ho6 := obj_below ho6 hb
            replace ht0 := ht0.below hb
            clear hS hb
            have hS := hS'; clear hS'
            rename World => u
            try simp only [Act.put, List.setIfInBounds_toArray, List.set_cons_zero, List.set_cons_succ]
            refine give_val (i := 3) (v := ?_) rfl (by kernel_rfl) (by kernel_rfl) (by kernel_rfl) (fun _ _ _ h => h) (by rfl) (fun u hu => ?_) hS ?_
            rotate_left
            · ((have hT := (HT1.out.below hu).2.2; obtain ⟨b0, b1, _, _⟩ := obj_cells hT; clear hT); go_simp; try (with_reducible rfl))
            try simp only [Act.put, List.setIfInBounds_toArray, List.set_cons_zero, List.set_cons_succ]
            refine give_val (i := 4) (v := ?_) rfl (by kernel_rfl) (by kernel_rfl) (by kernel_rfl) (fun _ _ _ h => h) (by rfl) (fun u hu => ?_) hS ?_
            rotate_left
            · ((have hT := (HT1.out.below hu).2.2; obtain ⟨b0, b1, _, _⟩ := obj_cells hT; clear hT); go_simp; try (with_reducible rfl))
            try simp only [Act.put, List.setIfInBounds_toArray, List.set_cons_zero, List.set_cons_succ]
            refine give_val (i := 5) (v := ?_) rfl (by kernel_rfl) (by kernel_rfl) (by kernel_rfl) (fun _ _ _ h => h) (by rfl) (fun u hu => ?_) hS ?_
            rotate_left
            · ((have hT := (HT1.out.below hu).2.2; obtain ⟨b0, b1, _, _⟩ := obj_cells hT; clear hT); go_simp; try (with_reducible rfl))
            try simp only [Act.put, List.setIfInBounds_toArray, List.set_cons_zero, List.set_cons_succ]
            obtain ⟨d0, d1, f0, f1⟩ := obj_cells ho6
            have hr6 := obj_set2 ho6 (.int .i64 0) (.int .i64 0)
            have hS4 : Below W1.heap.size W1 _ := below_set2 hS hp6 (.int .i64 0) (.int .i64 0)
            refine give_val (i := 7) (v := ?_) rfl (by kernel_rfl) (by kernel_rfl) (by kernel_rfl) (fun _ _ _ h => h) (by rfl) (fun u hu => ?_) hS ?_
            rotate_left
            · ((have hT := (HT1.out.below hu).2.2; obtain ⟨b0, b1, _, _⟩ := obj_cells hT; clear hT); go_simp; try (with_reducible rfl))
            try simp only [Act.put, List.setIfInBounds_toArray, List.set_cons_zero, List.set_cons_succ]
            refine only (i := 8) rfl (by kernel_rfl) (by rfl) (fun K hK => ?_)
            go_simp
            refine hK.out _ _ hS4 ?_
            clear hK
            try simp only [Act.put, List.setIfInBounds_toArray, List.set_cons_zero, List.set_cons_succ]
            refine wpAnyH_done (by kernel_rfl) (NoPanic.normal ?_) _
            go_wp2_with fail
            go_meet
            exact ⟨p6, rfl, rfl, hr6, hS4⟩
      · (go_simp; try (with_reducible rfl))
      · intro p6 u' hb ho6 hp6
        replace hp6 := Nat.le_trans (hS.size) hp6
        have hS' : (fun u => Below W1.heap.size W1 u) u' := hbt hS hb
        refine ⟨hS', ?_⟩
        clear hS hb
        have hS := hS'; clear hS'
        rename World => u
        try simp only [Act.put, List.setIfInBounds_toArray, List.set_cons_zero, List.set_cons_succ]
        refine wpAnyH_ready (rs := [0]) (by kernel_rfl) (by simp) (arm_some (i := 0) 26 #[.int .i64 1] rfl (by rfl) (HS1.out _) ?_ ?_ AllReadyH.nil)
        · (go_simp; try (with_reducible rfl))
        · intro v0 u' hT
          obtain ⟨A0, c0, rfl, ht0, hb⟩ := hT
          have hS' : (fun u => Below W1.heap.size W1 u) u' := hbt hS hb
          refine ⟨hS', ?_⟩
          replace ho6 := obj_below ho6 hb
          clear hS hb
          have hS := hS'; clear hS'
          rename World => u
          try simp only [Act.put, List.setIfInBounds_toArray, List.set_cons_zero, List.set_cons_succ]
          refine wpAnyH_ready (rs := [2]) (by kernel_rfl) (by simp) (arm_call (i := 2) 13 #[.agg #[.int .i64 2, .int .i64 1, .slice A0 n1 c0], .agg #[.string wa1, .slice (some ⟨w.heap.size, 0, none⟩) 2 2]] rfl (by rfl) (HE2.out A0 _ c0 _ (HK.out.below (HT1.out.below hS).1) ht0 (HT1.out.below hS).vals) ?_ ?_ AllReadyH.nil)
          · (go_simp; try (with_reducible rfl))
          · intro u' hb
            have hS' : (fun u => Below W1.heap.size W1 u) u' := hbt hS hb
            refine ⟨hS', ?_⟩
            replace ho6 := obj_below ho6 hb
            replace ht0 := ht0.below hb
            clear hS hb
            have hS := hS'; clear hS'
            rename World => u
            try simp only [Act.put, List.setIfInBounds_toArray, List.set_cons_zero, List.set_cons_succ]
            refine give_val (i := 3) (v := ?_) rfl (by kernel_rfl) (by kernel_rfl) (by kernel_rfl) (fun _ _ _ h => h) (by rfl) (fun u hu => ?_) hS ?_
            rotate_left
            · ((have hT := (HT1.out.below hu).2.2; obtain ⟨b0, b1, _, _⟩ := obj_cells hT; clear hT); go_simp; try (with_reducible rfl))
            try simp only [Act.put, List.setIfInBounds_toArray, List.set_cons_zero, List.set_cons_succ]
            refine give_val (i := 4) (v := ?_) rfl (by kernel_rfl) (by kernel_rfl) (by kernel_rfl) (fun _ _ _ h => h) (by rfl) (fun u hu => ?_) hS ?_
            rotate_left
            · ((have hT := (HT1.out.below hu).2.2; obtain ⟨b0, b1, _, _⟩ := obj_cells hT; clear hT); go_simp; try (with_reducible rfl))
            try simp only [Act.put, List.setIfInBounds_toArray, List.set_cons_zero, List.set_cons_succ]
            refine give_val (i := 5) (v := ?_) rfl (by kernel_rfl) (by kernel_rfl) (by kernel_rfl) (fun _ _ _ h => h) (by rfl) (fun u hu => ?_) hS ?_
            rotate_left
            · ((have hT := (HT1.out.below hu).2.2; obtain ⟨b0, b1, _, _⟩ := obj_cells hT; clear hT); go_simp; try (with_reducible rfl))
            try simp only [Act.put, List.setIfInBounds_toArray, List.set_cons_zero, List.set_cons_succ]
            obtain ⟨d0, d1, f0, f1⟩ := obj_cells ho6
            have hr6 := obj_set2 ho6 (.int .i64 0) (.int .i64 0)
            have hS4 : Below W1.heap.size W1 _ := below_set2 hS hp6 (.int .i64 0) (.int .i64 0)
            refine give_val (i := 7) (v := ?_) rfl (by kernel_rfl) (by kernel_rfl) (by kernel_rfl) (fun _ _ _ h => h) (by rfl) (fun u hu => ?_) hS ?_
            rotate_left
            · ((have hT := (HT1.out.below hu).2.2; obtain ⟨b0, b1, _, _⟩ := obj_cells hT; clear hT); go_simp; try (with_reducible rfl))
            try simp only [Act.put, List.setIfInBounds_toArray, List.set_cons_zero, List.set_cons_succ]
            refine only (i := 8) rfl (by kernel_rfl) (by rfl) (fun K hK => ?_)
            go_simp
            refine hK.out _ _ hS4 ?_
            clear hK
            try simp only [Act.put, List.setIfInBounds_toArray, List.set_cons_zero, List.set_cons_succ]
            refine wpAnyH_done (by kernel_rfl) (NoPanic.normal ?_) _
            go_wp2_with fail
            go_meet
            exact ⟨p6, rfl, rfl, hr6, hS4⟩
    case rest =>
      obtain ⟨q, rfl, rfl, hg, hb⟩ := hcut
      rename World => W2
      have HT2 := Lib.hid (HT1.out.below hb)
      have HF2 := Lib.hid (obj_below HF1.out hb)
      have HG2 := Lib.hid hg
      clear hg hb HT1 HF1 HE2 HS1
      go_upto_region 5 with fail
      go_cut [6, 7] (fun s6 s7 wx => ∃ r : Nat, s6 = .string ⟨#[]⟩ ∧ s7 = .pointer (some ⟨r, 0, none⟩) ∧ wx.heap[r]? = some (.cells #[.int .i64 7, .int .i64 0] 37) ∧ Below W2.heap.size W2 wx)
      case first =>
        refine wp_region_noPanic ?_
        refine wp_region_held_drew (S := (fun u => Below W2.heap.size W2 u)) (by kernel_rfl) ((Below.refl _ _).drew) (fun hS => ?_)
        refine give_val (i := 1) (v := ?_) rfl (by kernel_rfl) (by kernel_rfl) (by kernel_rfl) (fun _ _ _ h => h) (by rfl) (fun u hu => ?_) hS ?_
        rotate_left
        · ((have hT := (HT2.out.below hu).2.2; obtain ⟨b0, b1, _, _⟩ := obj_cells hT; clear hT); go_simp; try (with_reducible rfl))
        try simp only [Act.put, List.setIfInBounds_toArray, List.set_cons_zero, List.set_cons_succ]
        refine wpAnyH_ready (rs := [0, 6]) (by kernel_rfl) (by simp) (arm_some (i := 0) 26 #[.int .i64 0] rfl (by rfl) (HS0.out _) ?_ ?_ (arm_alloc (i := 6) (.cells #[.int .i64 0, .int .i64 0] 37) rfl (by rfl) ?_ ?_ AllReadyH.nil))
        · (go_simp; try (with_reducible rfl))
        · intro v0 u' hT
          obtain ⟨A0, c0, rfl, ht0, hb⟩ := hT
          have hS' : (fun u => Below W2.heap.size W2 u) u' := hbt hS hb
          refine ⟨hS', ?_⟩
          clear hS hb
          have hS := hS'; clear hS'
          rename World => u
          try simp only [Act.put, List.setIfInBounds_toArray, List.set_cons_zero, List.set_cons_succ]
          refine wpAnyH_ready (rs := [2, 6]) (by kernel_rfl) (by simp) (arm_call (i := 2) 13 #[.agg #[.int .i64 1, .int .i64 0, .slice A0 n0 c0], .agg #[.string wa1, .slice (some ⟨w.heap.size, 0, none⟩) 2 2]] rfl (by rfl) (HE3.out A0 _ c0 _ (HK.out.below (HT2.out.below hS).1) ht0 (HT2.out.below hS).vals) ?_ ?_ (arm_alloc (i := 6) (.cells #[.int .i64 0, .int .i64 0] 37) rfl (by rfl) ?_ ?_ AllReadyH.nil))
          · (go_simp; try (with_reducible rfl))
          · intro u' hb
            have hS' : (fun u => Below W2.heap.size W2 u) u' := hbt hS hb
            refine ⟨hS', ?_⟩
            replace ht0 := ht0.below hb
            clear hS hb
            have hS := hS'; clear hS'
            rename World => u
            try simp only [Act.put, List.setIfInBounds_toArray, List.set_cons_zero, List.set_cons_succ]
            refine give_val (i := 3) (v := ?_) rfl (by kernel_rfl) (by kernel_rfl) (by kernel_rfl) (fun _ _ _ h => h) (by rfl) (fun u hu => ?_) hS ?_
            rotate_left
            · ((have hT := (HT2.out.below hu).2.2; obtain ⟨b0, b1, _, _⟩ := obj_cells hT; clear hT); go_simp; try (with_reducible rfl))
            try simp only [Act.put, List.setIfInBounds_toArray, List.set_cons_zero, List.set_cons_succ]
            refine give_val (i := 4) (v := ?_) rfl (by kernel_rfl) (by kernel_rfl) (by kernel_rfl) (fun _ _ _ h => h) (by rfl) (fun u hu => ?_) hS ?_
            rotate_left
            · ((have hT := (HT2.out.below hu).2.2; obtain ⟨b0, b1, _, _⟩ := obj_cells hT; clear hT); go_simp; try (with_reducible rfl))
            try simp only [Act.put, List.setIfInBounds_toArray, List.set_cons_zero, List.set_cons_succ]
            refine give_val (i := 5) (v := ?_) rfl (by kernel_rfl) (by kernel_rfl) (by kernel_rfl) (fun _ _ _ h => h) (by rfl) (fun u hu => ?_) hS ?_
            rotate_left
            · ((have hT := (HT2.out.below hu).2.2; obtain ⟨b0, b1, _, _⟩ := obj_cells hT; clear hT); go_simp; try (with_reducible rfl))
            try simp only [Act.put, List.setIfInBounds_toArray, List.set_cons_zero, List.set_cons_succ]
            refine wpAnyH_ready (rs := [6]) (by kernel_rfl) (by simp) (arm_alloc (i := 6) (.cells #[.int .i64 0, .int .i64 0] 37) rfl (by rfl) ?_ ?_ AllReadyH.nil)
            · (go_simp; try (with_reducible rfl))
            · intro p6 u' hb ho6 hp6
              replace hp6 := Nat.le_trans (hS.size) hp6
              have hS' : (fun u => Below W2.heap.size W2 u) u' := hbt hS hb
              refine ⟨hS', ?_⟩
              replace ht0 := ht0.below hb
              clear hS hb
              have hS := hS'; clear hS'
              rename World => u
              try simp only [Act.put, List.setIfInBounds_toArray, List.set_cons_zero, List.set_cons_succ]
              obtain ⟨d0, d1, f0, f1⟩ := obj_cells ho6
              have hr6 := obj_set2 ho6 (.int .i64 7) (.int .i64 0)
              have hS4 : Below W2.heap.size W2 _ := below_set2 hS hp6 (.int .i64 7) (.int .i64 0)
              refine give_val (i := 7) (v := ?_) rfl (by kernel_rfl) (by kernel_rfl) (by kernel_rfl) (fun _ _ _ h => h) (by rfl) (fun u hu => ?_) hS ?_
              rotate_left
              · ((have hT := (HT2.out.below hu).2.2; obtain ⟨b0, b1, _, _⟩ := obj_cells hT; clear hT); go_simp; try (with_reducible rfl))
              try simp only [Act.put, List.setIfInBounds_toArray, List.set_cons_zero, List.set_cons_succ]
              refine only (i := 8) rfl (by kernel_rfl) (by rfl) (fun K hK => ?_)
              go_simp
              refine hK.out _ _ hS4 ?_
              clear hK
              try simp only [Act.put, List.setIfInBounds_toArray, List.set_cons_zero, List.set_cons_succ]
              refine wpAnyH_done (by kernel_rfl) (NoPanic.normal ?_) _
              go_wp2_with fail
              go_meet
              exact ⟨p6, rfl, rfl, hr6, hS4⟩
          · (go_simp; try (with_reducible rfl))
          · intro p6 u' hb ho6 hp6
            replace hp6 := Nat.le_trans (hS.size) hp6
            have hS' : (fun u => Below W2.heap.size W2 u) u' := hbt hS hb
            refine ⟨hS', ?_⟩
            replace ht0 := ht0.below hb
            clear hS hb
            have hS := hS'; clear hS'
            rename World => u
            try simp only [Act.put, List.setIfInBounds_toArray, List.set_cons_zero, List.set_cons_succ]
            refine wpAnyH_ready (rs := [2]) (by kernel_rfl) (by simp) (arm_call (i := 2) 13 #[.agg #[.int .i64 1, .int .i64 0, .slice A0 n0 c0], .agg #[.string wa1, .slice (some ⟨w.heap.size, 0, none⟩) 2 2]] rfl (by rfl) (HE3.out A0 _ c0 _ (HK.out.below (HT2.out.below hS).1) ht0 (HT2.out.below hS).vals) ?_ ?_ AllReadyH.nil)
            · (go_simp; try (with_reducible rfl))
            · intro u' hb
              have hS' : (fun u => Below W2.heap.size W2 u) u' := hbt hS hb
              refine ⟨hS', ?_⟩
              replace ho6 := obj_below ho6 hb
              replace ht0 := ht0.below hb
              clear hS hb
              have hS := hS'; clear hS'
              rename World => u
              try simp only [Act.put, List.setIfInBounds_toArray, List.set_cons_zero, List.set_cons_succ]
              refine give_val (i := 3) (v := ?_) rfl (by kernel_rfl) (by kernel_rfl) (by kernel_rfl) (fun _ _ _ h => h) (by rfl) (fun u hu => ?_) hS ?_
              rotate_left
              · ((have hT := (HT2.out.below hu).2.2; obtain ⟨b0, b1, _, _⟩ := obj_cells hT; clear hT); go_simp; try (with_reducible rfl))
              try simp only [Act.put, List.setIfInBounds_toArray, List.set_cons_zero, List.set_cons_succ]
              refine give_val (i := 4) (v := ?_) rfl (by kernel_rfl) (by kernel_rfl) (by kernel_rfl) (fun _ _ _ h => h) (by rfl) (fun u hu => ?_) hS ?_
              rotate_left
              · ((have hT := (HT2.out.below hu).2.2; obtain ⟨b0, b1, _, _⟩ := obj_cells hT; clear hT); go_simp; try (with_reducible rfl))
              try simp only [Act.put, List.setIfInBounds_toArray, List.set_cons_zero, List.set_cons_succ]
              refine give_val (i := 5) (v := ?_) rfl (by kernel_rfl) (by kernel_rfl) (by kernel_rfl) (fun _ _ _ h => h) (by rfl) (fun u hu => ?_) hS ?_
              rotate_left
              · ((have hT := (HT2.out.below hu).2.2; obtain ⟨b0, b1, _, _⟩ := obj_cells hT; clear hT); go_simp; try (with_reducible rfl))
              try simp only [Act.put, List.setIfInBounds_toArray, List.set_cons_zero, List.set_cons_succ]
              obtain ⟨d0, d1, f0, f1⟩ := obj_cells ho6
              have hr6 := obj_set2 ho6 (.int .i64 7) (.int .i64 0)
              have hS4 : Below W2.heap.size W2 _ := below_set2 hS hp6 (.int .i64 7) (.int .i64 0)
              refine give_val (i := 7) (v := ?_) rfl (by kernel_rfl) (by kernel_rfl) (by kernel_rfl) (fun _ _ _ h => h) (by rfl) (fun u hu => ?_) hS ?_
              rotate_left
              · ((have hT := (HT2.out.below hu).2.2; obtain ⟨b0, b1, _, _⟩ := obj_cells hT; clear hT); go_simp; try (with_reducible rfl))
              try simp only [Act.put, List.setIfInBounds_toArray, List.set_cons_zero, List.set_cons_succ]
              refine only (i := 8) rfl (by kernel_rfl) (by rfl) (fun K hK => ?_)
              go_simp
              refine hK.out _ _ hS4 ?_
              clear hK
              try simp only [Act.put, List.setIfInBounds_toArray, List.set_cons_zero, List.set_cons_succ]
              refine wpAnyH_done (by kernel_rfl) (NoPanic.normal ?_) _
              go_wp2_with fail
              go_meet
              exact ⟨p6, rfl, rfl, hr6, hS4⟩
        · (go_simp; try (with_reducible rfl))
        · intro p6 u' hb ho6 hp6
          replace hp6 := Nat.le_trans (hS.size) hp6
          have hS' : (fun u => Below W2.heap.size W2 u) u' := hbt hS hb
          refine ⟨hS', ?_⟩
          clear hS hb
          have hS := hS'; clear hS'
          rename World => u
          try simp only [Act.put, List.setIfInBounds_toArray, List.set_cons_zero, List.set_cons_succ]
          refine wpAnyH_ready (rs := [0]) (by kernel_rfl) (by simp) (arm_some (i := 0) 26 #[.int .i64 0] rfl (by rfl) (HS0.out _) ?_ ?_ AllReadyH.nil)
          · (go_simp; try (with_reducible rfl))
          · intro v0 u' hT
            obtain ⟨A0, c0, rfl, ht0, hb⟩ := hT
            have hS' : (fun u => Below W2.heap.size W2 u) u' := hbt hS hb
            refine ⟨hS', ?_⟩
            replace ho6 := obj_below ho6 hb
            clear hS hb
            have hS := hS'; clear hS'
            rename World => u
            try simp only [Act.put, List.setIfInBounds_toArray, List.set_cons_zero, List.set_cons_succ]
            refine wpAnyH_ready (rs := [2]) (by kernel_rfl) (by simp) (arm_call (i := 2) 13 #[.agg #[.int .i64 1, .int .i64 0, .slice A0 n0 c0], .agg #[.string wa1, .slice (some ⟨w.heap.size, 0, none⟩) 2 2]] rfl (by rfl) (HE3.out A0 _ c0 _ (HK.out.below (HT2.out.below hS).1) ht0 (HT2.out.below hS).vals) ?_ ?_ AllReadyH.nil)
            · (go_simp; try (with_reducible rfl))
            · intro u' hb
              have hS' : (fun u => Below W2.heap.size W2 u) u' := hbt hS hb
              refine ⟨hS', ?_⟩
              replace ho6 := obj_below ho6 hb
              replace ht0 := ht0.below hb
              clear hS hb
              have hS := hS'; clear hS'
              rename World => u
              try simp only [Act.put, List.setIfInBounds_toArray, List.set_cons_zero, List.set_cons_succ]
              refine give_val (i := 3) (v := ?_) rfl (by kernel_rfl) (by kernel_rfl) (by kernel_rfl) (fun _ _ _ h => h) (by rfl) (fun u hu => ?_) hS ?_
              rotate_left
              · ((have hT := (HT2.out.below hu).2.2; obtain ⟨b0, b1, _, _⟩ := obj_cells hT; clear hT); go_simp; try (with_reducible rfl))
              try simp only [Act.put, List.setIfInBounds_toArray, List.set_cons_zero, List.set_cons_succ]
              refine give_val (i := 4) (v := ?_) rfl (by kernel_rfl) (by kernel_rfl) (by kernel_rfl) (fun _ _ _ h => h) (by rfl) (fun u hu => ?_) hS ?_
              rotate_left
              · ((have hT := (HT2.out.below hu).2.2; obtain ⟨b0, b1, _, _⟩ := obj_cells hT; clear hT); go_simp; try (with_reducible rfl))
              try simp only [Act.put, List.setIfInBounds_toArray, List.set_cons_zero, List.set_cons_succ]
              refine give_val (i := 5) (v := ?_) rfl (by kernel_rfl) (by kernel_rfl) (by kernel_rfl) (fun _ _ _ h => h) (by rfl) (fun u hu => ?_) hS ?_
              rotate_left
              · ((have hT := (HT2.out.below hu).2.2; obtain ⟨b0, b1, _, _⟩ := obj_cells hT; clear hT); go_simp; try (with_reducible rfl))
              try simp only [Act.put, List.setIfInBounds_toArray, List.set_cons_zero, List.set_cons_succ]
              obtain ⟨d0, d1, f0, f1⟩ := obj_cells ho6
              have hr6 := obj_set2 ho6 (.int .i64 7) (.int .i64 0)
              have hS4 : Below W2.heap.size W2 _ := below_set2 hS hp6 (.int .i64 7) (.int .i64 0)
              refine give_val (i := 7) (v := ?_) rfl (by kernel_rfl) (by kernel_rfl) (by kernel_rfl) (fun _ _ _ h => h) (by rfl) (fun u hu => ?_) hS ?_
              rotate_left
              · ((have hT := (HT2.out.below hu).2.2; obtain ⟨b0, b1, _, _⟩ := obj_cells hT; clear hT); go_simp; try (with_reducible rfl))
              try simp only [Act.put, List.setIfInBounds_toArray, List.set_cons_zero, List.set_cons_succ]
              refine only (i := 8) rfl (by kernel_rfl) (by rfl) (fun K hK => ?_)
              go_simp
              refine hK.out _ _ hS4 ?_
              clear hK
              try simp only [Act.put, List.setIfInBounds_toArray, List.set_cons_zero, List.set_cons_succ]
              refine wpAnyH_done (by kernel_rfl) (NoPanic.normal ?_) _
              go_wp2_with fail
              go_meet
              exact ⟨p6, rfl, rfl, hr6, hS4⟩
      case rest =>
        obtain ⟨r, rfl, rfl, hr, hb⟩ := hcut
        have HB3 := Lib.hid (HT2.out.below hb).1
        obtain ⟨c0, c1, _, _⟩ := obj_cells hr
        obtain ⟨d0, d1, _, _⟩ := obj_cells (obj_below HF2.out hb)
        obtain ⟨e0, e1, _, _⟩ := obj_cells (obj_below HG2.out hb)
        clear hr hb HT2 HF2 HG2
        go_wp2
        go_ret
        exact ⟨rfl, HB3.out⟩

end Go.Proofs.YtckapcafpnlnoaaDoor
