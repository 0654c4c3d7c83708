/-
  What the document's Check answers: for every schema and message of up to 1000 specs and fields, in every world.
-/
import Derived.Test.YtckapcafpnlnoaaDoorMsgChk
import Derived.Test.YtckapcafpnlnoaaDoorPackBase
namespace Go.Proofs.YtckapcafpnlnoaaDoor
open Go.RowKit

set_option maxRecDepth 100000 in
set_option maxHeartbeats 3200000 in
theorem mrchk_arg (st v : Int) (A : Option Addr) (ca : Nat) (sl : List Sp) (m : ByteArray) (B : Option Addr) (n cb : Nat) (w : World) (hI : Spl w A sl) (hn : sl.length ≤ 1000) (h : (schN st v sl).1 ≠ 0) :
    Calls Tryd.prog 15 #[.agg #[.int .i64 st, .int .i64 v, .slice A sl.length ca], .agg #[.string m, .slice B n cb]] w fun e w' => e = .returned (.agg #[.int .i64 1, .int .i64 (-1)]) ∧ Below w.heap.size w w' := by
  have HC := Lib.hid (fun W hW => sright_any st v A ca sl W hW hn)
  have HT := Lib.hid (trio_new w st v A sl.length ca m B n cb)
  have HI := Lib.hid (hI.below HT.out.1)
  rw [decide_eq_false h] at HC
  clear hI h
  generalize sl.length = len at *
  go_enter Tryd.func15, Tryd.ntmps15
  go_wp2_with fail
  generalize ((w.alloc (.cells #[.int .i64 st, .int .i64 v, .slice A len ca] 30)).alloc (.cells #[.string m, .slice B n cb] 33)).alloc (.cells #[.int .i64 0, .int .i64 0] 37) = U at *
  refine (HC.out _ HI.out).mono ?_
  rintro e w1 ⟨rfl, hb1⟩
  have HT1 := Lib.hid (HT.out.below hb1)
  obtain ⟨r0, r1, f0, f1⟩ := obj_cells HT1.out.2.2.2
  clear hb1
  go_wp2
  refine bodyPost_ret (results_cell_row rfl _ _ (w.heap.size + 2) _ _ _ _ rfl (obj_set2 HT1.out.2.2.2 _ _) Tryd.underlying37 rfl (by kernel_rfl)) rfl ?_
  exact ⟨rfl, below_set2 HT1.out.1 (by omega) _ _⟩
set_option maxRecDepth 100000 in
set_option maxHeartbeats 3200000 in
theorem mrchk_none (st v : Int) (A : Option Addr) (ca : Nat) (sl : List Sp) (m : ByteArray) (B : Option Addr) (n cb : Nat) (w : World) (hI : Spl w A sl) (hn : sl.length ≤ 1000) (hm : m.size ≤ maxLen) (h : (schN st v sl).1 = 0) (h2 : mtiB m.data.toList = false) :
    Calls Tryd.prog 15 #[.agg #[.int .i64 st, .int .i64 v, .slice A sl.length ca], .agg #[.string m, .slice B n cb]] w fun e w' => e = .returned (.agg #[.int .i64 7, .int .i64 0]) ∧ Below w.heap.size w w' := by
  have HC := Lib.hid (fun W hW => sright_any st v A ca sl W hW hn)
  have HM := Lib.hid (fun W => mrefRight_any m W hm)
  have HT := Lib.hid (trio_new w st v A sl.length ca m B n cb)
  have HI := Lib.hid (hI.below HT.out.1)
  rw [decide_eq_true h] at HC
  rw [h2] at HM
  clear hI h h2 hm
  generalize sl.length = len at *
  go_enter Tryd.func15, Tryd.ntmps15
  go_wp2_with fail
  generalize ((w.alloc (.cells #[.int .i64 st, .int .i64 v, .slice A len ca] 30)).alloc (.cells #[.string m, .slice B n cb] 33)).alloc (.cells #[.int .i64 0, .int .i64 0] 37) = U at *
  refine (HC.out _ HI.out).mono ?_
  rintro e w1 ⟨rfl, hb1⟩
  have HT1 := Lib.hid (HT.out.below hb1)
  clear hb1
  go_wp2_with fail
  refine wp_region_noPanic ?_
  refine wp_region_held_drew (S := (fun u => Below w1.heap.size w1 u)) (by kernel_rfl) ((Below.refl _ _).drew) (fun hS => ?_)
  refine give_val (i := 0) (v := ?_) rfl (by kernel_rfl) (by kernel_rfl) (by kernel_rfl) (fun _ _ _ h => h) (by rfl) (fun u hu => ?_) hS ?_
  rotate_left
  · ((have hT := HT1.out.below hu; obtain ⟨b0, b1, b2⟩ := obj_cells3 hT.2.1; obtain ⟨b3, b4, _, _⟩ := obj_cells hT.2.2.1; clear hT); go_simp; try (with_reducible rfl))
  try simp only [Act.put, List.setIfInBounds_toArray, List.set_cons_zero, List.set_cons_succ]
  refine give_val (i := 1) (v := ?_) rfl (by kernel_rfl) (by kernel_rfl) (by kernel_rfl) (fun _ _ _ h => h) (by rfl) (fun u hu => ?_) hS ?_
  rotate_left
  · ((have hT := HT1.out.below hu; obtain ⟨b0, b1, b2⟩ := obj_cells3 hT.2.1; obtain ⟨b3, b4, _, _⟩ := obj_cells hT.2.2.1; clear hT); go_simp; try (with_reducible rfl))
  try simp only [Act.put, List.setIfInBounds_toArray, List.set_cons_zero, List.set_cons_succ]
  refine only_call (i := 2) 10 #[.string m] rfl (by kernel_rfl) (by rfl) ((HM.out _).mono fun e w' he => ⟨he.1, he.2 ▸ hS⟩) ?_ ?_
  · (go_simp; try (with_reducible rfl))
  clear hS
  intro w2 hS
  try simp only [Act.put, List.setIfInBounds_toArray, List.set_cons_zero, List.set_cons_succ]
  refine give_val (i := 3) (v := ?_) rfl (by kernel_rfl) (by kernel_rfl) (by kernel_rfl) (fun _ _ _ h => h) (by rfl) (fun u hu => ?_) hS ?_
  rotate_left
  · ((have hT := HT1.out.below hu; obtain ⟨b0, b1, b2⟩ := obj_cells3 hT.2.1; obtain ⟨b3, b4, _, _⟩ := obj_cells hT.2.2.1; clear hT); go_simp; try (with_reducible rfl))
  try simp only [Act.put, List.setIfInBounds_toArray, List.set_cons_zero, List.set_cons_succ]
  refine give_val (i := 4) (v := ?_) rfl (by kernel_rfl) (by kernel_rfl) (by kernel_rfl) (fun _ _ _ h => h) (by rfl) (fun u hu => ?_) hS ?_
  rotate_left
  · ((have hT := HT1.out.below hu; obtain ⟨b0, b1, b2⟩ := obj_cells3 hT.2.1; obtain ⟨b3, b4, _, _⟩ := obj_cells hT.2.2.1; clear hT); go_simp; try (with_reducible rfl))
  try simp only [Act.put, List.setIfInBounds_toArray, List.set_cons_zero, List.set_cons_succ]
  refine give_skip (i := 5) rfl (by kernel_rfl) (by kernel_rfl) (by kernel_rfl) (fun _ _ _ h => h) (by rfl) hS ?_
  try simp only [Act.put, List.setIfInBounds_toArray, List.set_cons_zero, List.set_cons_succ]
  refine give_skip (i := 6) rfl (by kernel_rfl) (by kernel_rfl) (by kernel_rfl) (fun _ _ _ h => h) (by rfl) hS ?_
  try simp only [Act.put, List.setIfInBounds_toArray, List.set_cons_zero, List.set_cons_succ]
  refine give_skip (i := 7) rfl (by kernel_rfl) (by kernel_rfl) (by kernel_rfl) (fun _ _ _ h => h) (by rfl) hS ?_
  try simp only [Act.put, List.setIfInBounds_toArray, List.set_cons_zero, List.set_cons_succ]
  refine give_skip (i := 8) rfl (by kernel_rfl) (by kernel_rfl) (by kernel_rfl) (fun _ _ _ h => h) (by rfl) hS ?_
  try simp only [Act.put, List.setIfInBounds_toArray, List.set_cons_zero, List.set_cons_succ]
  refine give_skip (i := 9) rfl (by kernel_rfl) (by kernel_rfl) (by kernel_rfl) (fun _ _ _ h => h) (by rfl) hS ?_
  try simp only [Act.put, List.setIfInBounds_toArray, List.set_cons_zero, List.set_cons_succ]
  refine give_skip (i := 10) rfl (by kernel_rfl) (by kernel_rfl) (by kernel_rfl) (fun _ _ _ h => h) (by rfl) hS ?_
  try simp only [Act.put, List.setIfInBounds_toArray, List.set_cons_zero, List.set_cons_succ]
  refine give_skip (i := 11) rfl (by kernel_rfl) (by kernel_rfl) (by kernel_rfl) (fun _ _ _ h => h) (by rfl) hS ?_
  try simp only [Act.put, List.setIfInBounds_toArray, List.set_cons_zero, List.set_cons_succ]
  refine give_skip (i := 12) rfl (by kernel_rfl) (by kernel_rfl) (by kernel_rfl) (fun _ _ _ h => h) (by rfl) hS ?_
  try simp only [Act.put, List.setIfInBounds_toArray, List.set_cons_zero, List.set_cons_succ]
  refine give_val (i := 13) (v := ?_) rfl (by kernel_rfl) (by kernel_rfl) (by kernel_rfl) (fun _ _ _ h => h) (by rfl) (fun u hu => ?_) hS ?_
  rotate_left
  · ((have hT := HT1.out.below hu; obtain ⟨b0, b1, b2⟩ := obj_cells3 hT.2.1; obtain ⟨b3, b4, _, _⟩ := obj_cells hT.2.2.1; clear hT); go_simp; try (with_reducible rfl))
  try simp only [Act.put, List.setIfInBounds_toArray, List.set_cons_zero, List.set_cons_succ]
  refine wpAnyH_done (by kernel_rfl) (NoPanic.normal ?_) _
  have HT2 := Lib.hid (HT1.out.below hS)
  obtain ⟨r0, r1, f0, f1⟩ := obj_cells HT2.out.2.2.2
  clear hS
  go_wp2
  refine bodyPost_ret (results_cell_row rfl _ _ (w.heap.size + 2) _ _ _ _ rfl (obj_set2 HT2.out.2.2.2 _ _) Tryd.underlying37 rfl (by kernel_rfl)) rfl ?_
  exact ⟨rfl, below_set2 HT2.out.1 (by omega) _ _⟩
set_option maxRecDepth 100000 in
set_option maxHeartbeats 3200000 in
theorem mrchk_version (st v : Int) (A : Option Addr) (ca : Nat) (sl : List Sp) (m : ByteArray) (y : Int) (c0 : Nat) (B : Option Addr) (n cb : Nat) (w : World) (hI : Spl w A sl) (hn : sl.length ≤ 1000) (hm : m.size ≤ maxLen) (h : (schN st v sl).1 = 0) (h2 : mtiB m.data.toList = true)
    (hix : ∀ W, (Instr.index 9 (.string m) (.int .i64 0)).run Tryd.prog W = .ok (.int .u8 (c0 : Int)) W) (hc : c0 < 256) (hy : (c0 : Int) - 48 = y) (hv : y ≠ v) :
    Calls Tryd.prog 15 #[.agg #[.int .i64 st, .int .i64 v, .slice A sl.length ca], .agg #[.string m, .slice B n cb]] w fun e w' => e = .returned (.agg #[.int .i64 7, .int .i64 0]) ∧ Below w.heap.size w w' := by
  have HC := Lib.hid (fun W hW => sright_any st v A ca sl W hW hn)
  have HM := Lib.hid (fun W => mrefRight_any m W hm)
  have HT := Lib.hid (trio_new w st v A sl.length ca m B n cb)
  have HI := Lib.hid (hI.below HT.out.1)
  have tv : (y != v) = true := by simpa using hv
  have hci : (c0 : Int) < 1000 := by omega
  have HY : Hid ((c0 : Int) - 48 = y ∧ (c0 : Int) < 1000) := ⟨hy, hci⟩
  have hwr : IntKind.i64.wrap (c0 : Int) = (c0 : Int) := IntWalk.i64_in _ (by omega)
  rw [decide_eq_true h] at HC
  rw [h2] at HM
  clear hI h h2 hm hc hy hv
  generalize sl.length = len at *
  go_enter Tryd.func15, Tryd.ntmps15
  go_wp2_with fail
  generalize ((w.alloc (.cells #[.int .i64 st, .int .i64 v, .slice A len ca] 30)).alloc (.cells #[.string m, .slice B n cb] 33)).alloc (.cells #[.int .i64 0, .int .i64 0] 37) = U at *
  refine (HC.out _ HI.out).mono ?_
  rintro e w1 ⟨rfl, hb1⟩
  have HT1 := Lib.hid (HT.out.below hb1)
  clear hb1
  go_wp2_with fail
  refine wp_region_noPanic ?_
  refine wp_region_held_drew (S := (fun u => Below w1.heap.size w1 u)) (by kernel_rfl) ((Below.refl _ _).drew) (fun hS => ?_)
  refine give_val (i := 0) (v := ?_) rfl (by kernel_rfl) (by kernel_rfl) (by kernel_rfl) (fun _ _ _ h => h) (by rfl) (fun u hu => ?_) hS ?_
  rotate_left
  · ((have hT := HT1.out.below hu; obtain ⟨b0, b1, b2⟩ := obj_cells3 hT.2.1; obtain ⟨b3, b4, _, _⟩ := obj_cells hT.2.2.1; clear hT); go_simp; try (with_reducible rfl))
  try simp only [Act.put, List.setIfInBounds_toArray, List.set_cons_zero, List.set_cons_succ]
  refine give_val (i := 1) (v := ?_) rfl (by kernel_rfl) (by kernel_rfl) (by kernel_rfl) (fun _ _ _ h => h) (by rfl) (fun u hu => ?_) hS ?_
  rotate_left
  · ((have hT := HT1.out.below hu; obtain ⟨b0, b1, b2⟩ := obj_cells3 hT.2.1; obtain ⟨b3, b4, _, _⟩ := obj_cells hT.2.2.1; clear hT); go_simp; try (with_reducible rfl))
  try simp only [Act.put, List.setIfInBounds_toArray, List.set_cons_zero, List.set_cons_succ]
  refine only_call (i := 2) 10 #[.string m] rfl (by kernel_rfl) (by rfl) ((HM.out _).mono fun e w' he => ⟨he.1, he.2 ▸ hS⟩) ?_ ?_
  · (go_simp; try (with_reducible rfl))
  clear hS
  intro w2 hS
  try simp only [Act.put, List.setIfInBounds_toArray, List.set_cons_zero, List.set_cons_succ]
  refine give_val (i := 3) (v := ?_) rfl (by kernel_rfl) (by kernel_rfl) (by kernel_rfl) (fun _ _ _ h => h) (by rfl) (fun u hu => ?_) hS ?_
  rotate_left
  · ((have hT := HT1.out.below hu; obtain ⟨b0, b1, b2⟩ := obj_cells3 hT.2.1; obtain ⟨b3, b4, _, _⟩ := obj_cells hT.2.2.1; clear hT); go_simp; try (with_reducible rfl))
  try simp only [Act.put, List.setIfInBounds_toArray, List.set_cons_zero, List.set_cons_succ]
  refine give_val (i := 4) (v := ?_) rfl (by kernel_rfl) (by kernel_rfl) (by kernel_rfl) (fun _ _ _ h => h) (by rfl) (fun u hu => ?_) hS ?_
  rotate_left
  · ((have hT := HT1.out.below hu; obtain ⟨b0, b1, b2⟩ := obj_cells3 hT.2.1; obtain ⟨b3, b4, _, _⟩ := obj_cells hT.2.2.1; clear hT); go_simp; try (with_reducible rfl))
  try simp only [Act.put, List.setIfInBounds_toArray, List.set_cons_zero, List.set_cons_succ]
  refine give_val (i := 5) (v := ?_) rfl (by kernel_rfl) (by kernel_rfl) (by kernel_rfl) (fun _ _ _ h => h) (by rfl) (fun u hu => ?_) hS ?_
  rotate_left
  · ((have hT := HT1.out.below hu; obtain ⟨b0, b1, b2⟩ := obj_cells3 hT.2.1; obtain ⟨b3, b4, _, _⟩ := obj_cells hT.2.2.1; clear hT); go_simp; try (with_reducible rfl))
  try simp only [Act.put, List.setIfInBounds_toArray, List.set_cons_zero, List.set_cons_succ]
  refine give_val (i := 6) (v := ?_) rfl (by kernel_rfl) (by kernel_rfl) (by kernel_rfl) (fun _ _ _ h => h) (by rfl) (fun u hu => ?_) hS ?_
  rotate_left
  · ((have hT := HT1.out.below hu; obtain ⟨b0, b1, b2⟩ := obj_cells3 hT.2.1; obtain ⟨b3, b4, _, _⟩ := obj_cells hT.2.2.1; clear hT); go_simp; try (with_reducible rfl))
  try simp only [Act.put, List.setIfInBounds_toArray, List.set_cons_zero, List.set_cons_succ]
  refine give_val (i := 7) (v := ?_) rfl (by kernel_rfl) (by kernel_rfl) (by kernel_rfl) (fun _ _ _ h => h) (by rfl) (fun u hu => ?_) hS ?_
  rotate_left
  · ((have hT := HT1.out.below hu; obtain ⟨b0, b1, b2⟩ := obj_cells3 hT.2.1; obtain ⟨b3, b4, _, _⟩ := obj_cells hT.2.2.1; clear hT); go_simp; try (with_reducible rfl))
  try simp only [Act.put, List.setIfInBounds_toArray, List.set_cons_zero, List.set_cons_succ]
  refine give_val (i := 8) (v := ?_) rfl (by kernel_rfl) (by kernel_rfl) (by kernel_rfl) (fun _ _ _ h => h) (by rfl) (fun u hu => ?_) hS ?_
  rotate_left
  · ((have hT := HT1.out.below hu; obtain ⟨b0, b1, b2⟩ := obj_cells3 hT.2.1; obtain ⟨b3, b4, _, _⟩ := obj_cells hT.2.2.1; clear hT); go_simp; try (with_reducible rfl))
  try simp only [Act.put, List.setIfInBounds_toArray, List.set_cons_zero, List.set_cons_succ]
  refine give_val (i := 9) (v := (.int .i64 y)) rfl (by kernel_rfl) (by kernel_rfl) (by kernel_rfl) (fun _ _ _ h => h) (by rfl) (fun u hu => ?_) hS ?_
  · ((have hT := HT1.out.below hu; obtain ⟨b0, b1, b2⟩ := obj_cells3 hT.2.1; obtain ⟨b3, b4, _, _⟩ := obj_cells hT.2.2.1; clear hT); go_simp; (have h9 := HY.out; first | omega | (rw [IntWalk.i64_in _ (by omega)]; omega)))
  try simp only [Act.put, List.setIfInBounds_toArray, List.set_cons_zero, List.set_cons_succ]
  refine give_val (i := 10) (v := ?_) rfl (by kernel_rfl) (by kernel_rfl) (by kernel_rfl) (fun _ _ _ h => h) (by rfl) (fun u hu => ?_) hS ?_
  rotate_left
  · ((have hT := HT1.out.below hu; obtain ⟨b0, b1, b2⟩ := obj_cells3 hT.2.1; obtain ⟨b3, b4, _, _⟩ := obj_cells hT.2.2.1; clear hT); go_simp; try (with_reducible rfl))
  try simp only [Act.put, List.setIfInBounds_toArray, List.set_cons_zero, List.set_cons_succ]
  refine give_val (i := 11) (v := ?_) rfl (by kernel_rfl) (by kernel_rfl) (by kernel_rfl) (fun _ _ _ h => h) (by rfl) (fun u hu => ?_) hS ?_
  rotate_left
  · ((have hT := HT1.out.below hu; obtain ⟨b0, b1, b2⟩ := obj_cells3 hT.2.1; obtain ⟨b3, b4, _, _⟩ := obj_cells hT.2.2.1; clear hT); go_simp; try (with_reducible rfl))
  try simp only [Act.put, List.setIfInBounds_toArray, List.set_cons_zero, List.set_cons_succ]
  refine give_val (i := 12) (v := ?_) rfl (by kernel_rfl) (by kernel_rfl) (by kernel_rfl) (fun _ _ _ h => h) (by rfl) (fun u hu => ?_) hS ?_
  rotate_left
  · ((have hT := HT1.out.below hu; obtain ⟨b0, b1, b2⟩ := obj_cells3 hT.2.1; obtain ⟨b3, b4, _, _⟩ := obj_cells hT.2.2.1; clear hT); go_simp; try (with_reducible rfl))
  try simp only [Act.put, List.setIfInBounds_toArray, List.set_cons_zero, List.set_cons_succ]
  refine give_val (i := 13) (v := ?_) rfl (by kernel_rfl) (by kernel_rfl) (by kernel_rfl) (fun _ _ _ h => h) (by rfl) (fun u hu => ?_) hS ?_
  rotate_left
  · ((have hT := HT1.out.below hu; obtain ⟨b0, b1, b2⟩ := obj_cells3 hT.2.1; obtain ⟨b3, b4, _, _⟩ := obj_cells hT.2.2.1; clear hT); go_simp; try (with_reducible rfl))
  try simp only [Act.put, List.setIfInBounds_toArray, List.set_cons_zero, List.set_cons_succ]
  refine wpAnyH_done (by kernel_rfl) (NoPanic.normal ?_) _
  have HT2 := Lib.hid (HT1.out.below hS)
  obtain ⟨r0, r1, f0, f1⟩ := obj_cells HT2.out.2.2.2
  clear hS
  go_wp2
  refine bodyPost_ret (results_cell_row rfl _ _ (w.heap.size + 2) _ _ _ _ rfl (obj_set2 HT2.out.2.2.2 _ _) Tryd.underlying37 rfl (by kernel_rfl)) rfl ?_
  exact ⟨rfl, below_set2 HT2.out.1 (by omega) _ _⟩
set_option maxRecDepth 100000 in
set_option maxHeartbeats 12800000 in
theorem mrchk_list (st v : Int) (A : Option Addr) (ca : Nat) (sl : List Sp) (m : ByteArray) (c0 : Nat) (B : Option Addr) (cb : Nat) (l : List Item) (w : World) (hI : Spl w A sl) (hL : Tlvs w B l) (hn : sl.length ≤ 1000) (hl : l.length ≤ 1000) (hs : ∀ x ∈ l, x.2.size ≤ maxLen) (hm : m.size ≤ maxLen) (h : (schN st v sl).1 = 0) (h2 : mtiB m.data.toList = true)
    (hix : ∀ W, (Instr.index 9 (.string m) (.int .i64 0)).run Tryd.prog W = .ok (.int .u8 (c0 : Int)) W) (hc : c0 < 256) (hy : (c0 : Int) - 48 = v) :
    Calls Tryd.prog 15 #[.agg #[.int .i64 st, .int .i64 v, .slice A sl.length ca], .agg #[.string m, .slice B l.length cb]] w fun e w' => e = .returned (.agg #[.int .i64 (msgL sl 0 l).1, .int .i64 (msgL sl 0 l).2]) ∧ Below w.heap.size w w' := by
  have HC := Lib.hid (fun W hW => sright_any st v A ca sl W hW hn)
  have HM := Lib.hid (fun W => mrefRight_any m W hm)
  have HF := Lib.hid (fun (n : Int) W hW => sreffind_any st v A ca sl n W hW hn)
  have HSV : Hid (∀ (k : Nat) (n : Int) (s : ByteArray) (x1 x2 x3 x4 x5 : Int) W, k < l.length → itemAt l k = (n, s) → Calls Tryd.prog 38 #[.agg #[.int .i64 x1, .int .i64 x2, .int .i64 x3, .int .i64 x4, .int .i64 x5], .string s] W fun e w' => e = .returned (.int .i64 (spvS (x1, x2, x3, x4, x5) s)) ∧ Below W.heap.size W w') := fun k n s x1 x2 x3 x4 x5 W hk hx => sprefValue_any x1 x2 x3 x4 x5 s W (by
    have h3 := hs _ (List.getElem_mem hk)
    rw [← itemAt_get hk, hx] at h3
    exact h3)
  have HT := Lib.hid (trio_new w st v A sl.length ca m B l.length cb)
  have HI := Lib.hid (hI.below HT.out.1)
  have HL := Lib.hid (hL.below HT.out.1)
  have hci : (c0 : Int) < 1000 := by omega
  have HY : Hid ((c0 : Int) - 48 = v ∧ (c0 : Int) < 1000) := ⟨hy, hci⟩
  have hwr : IntKind.i64.wrap (c0 : Int) = (c0 : Int) := IntWalk.i64_in _ (by omega)
  rw [decide_eq_true h] at HC
  rw [h2] at HM
  clear hI hL h h2 hm hc hy hs
  generalize hsl : sl.length = len at *
  have HSL := Lib.hid hsl
  clear hsl
  generalize hlen : l.length = ln at *
  have HLEN := Lib.hid hlen
  clear hlen
  generalize hR : msgL sl 0 l = R
  have HR0 := Lib.hid hR
  clear hR
  go_enter Tryd.func15, Tryd.ntmps15
  go_wp2_with fail
  generalize ((w.alloc (.cells #[.int .i64 st, .int .i64 v, .slice A len ca] 30)).alloc (.cells #[.string m, .slice B ln cb] 33)).alloc (.cells #[.int .i64 0, .int .i64 0] 37) = U at *
  refine (HC.out _ HI.out).mono ?_
  rintro e w1 ⟨rfl, hb1⟩
  have HT1 := Lib.hid (HT.out.below hb1)
  have HI1 := Lib.hid (HI.out.below hb1)
  have HL1 := Lib.hid (HL.out.below hb1)
  clear hb1 HT HI HL HC
  go_wp2_with fail
  refine wp_region_noPanic ?_
  refine wp_region_held_drew (S := (fun u => Below w1.heap.size w1 u)) (by kernel_rfl) ((Below.refl _ _).drew) (fun hS => ?_)
  refine give_val (i := 0) (v := ?_) rfl (by kernel_rfl) (by kernel_rfl) (by kernel_rfl) (fun _ _ _ h => h) (by rfl) (fun u hu => ?_) hS ?_
  rotate_left
  · ((have hT := HT1.out.below hu; obtain ⟨b0, b1, b2⟩ := obj_cells3 hT.2.1; obtain ⟨b3, b4, _, _⟩ := obj_cells hT.2.2.1; clear hT); go_simp; try (with_reducible rfl))
  try simp only [Act.put, List.setIfInBounds_toArray, List.set_cons_zero, List.set_cons_succ]
  refine give_val (i := 1) (v := ?_) rfl (by kernel_rfl) (by kernel_rfl) (by kernel_rfl) (fun _ _ _ h => h) (by rfl) (fun u hu => ?_) hS ?_
  rotate_left
  · ((have hT := HT1.out.below hu; obtain ⟨b0, b1, b2⟩ := obj_cells3 hT.2.1; obtain ⟨b3, b4, _, _⟩ := obj_cells hT.2.2.1; clear hT); go_simp; try (with_reducible rfl))
  try simp only [Act.put, List.setIfInBounds_toArray, List.set_cons_zero, List.set_cons_succ]
  refine only_call (i := 2) 10 #[.string m] rfl (by kernel_rfl) (by rfl) ((HM.out _).mono fun e w' he => ⟨he.1, he.2 ▸ hS⟩) ?_ ?_
  · (go_simp; try (with_reducible rfl))
  clear hS
  intro w2 hS
  try simp only [Act.put, List.setIfInBounds_toArray, List.set_cons_zero, List.set_cons_succ]
  refine give_val (i := 3) (v := ?_) rfl (by kernel_rfl) (by kernel_rfl) (by kernel_rfl) (fun _ _ _ h => h) (by rfl) (fun u hu => ?_) hS ?_
  rotate_left
  · ((have hT := HT1.out.below hu; obtain ⟨b0, b1, b2⟩ := obj_cells3 hT.2.1; obtain ⟨b3, b4, _, _⟩ := obj_cells hT.2.2.1; clear hT); go_simp; try (with_reducible rfl))
  try simp only [Act.put, List.setIfInBounds_toArray, List.set_cons_zero, List.set_cons_succ]
  refine give_val (i := 4) (v := ?_) rfl (by kernel_rfl) (by kernel_rfl) (by kernel_rfl) (fun _ _ _ h => h) (by rfl) (fun u hu => ?_) hS ?_
  rotate_left
  · ((have hT := HT1.out.below hu; obtain ⟨b0, b1, b2⟩ := obj_cells3 hT.2.1; obtain ⟨b3, b4, _, _⟩ := obj_cells hT.2.2.1; clear hT); go_simp; try (with_reducible rfl))
  try simp only [Act.put, List.setIfInBounds_toArray, List.set_cons_zero, List.set_cons_succ]
  refine give_val (i := 5) (v := ?_) rfl (by kernel_rfl) (by kernel_rfl) (by kernel_rfl) (fun _ _ _ h => h) (by rfl) (fun u hu => ?_) hS ?_
  rotate_left
  · ((have hT := HT1.out.below hu; obtain ⟨b0, b1, b2⟩ := obj_cells3 hT.2.1; obtain ⟨b3, b4, _, _⟩ := obj_cells hT.2.2.1; clear hT); go_simp; try (with_reducible rfl))
  try simp only [Act.put, List.setIfInBounds_toArray, List.set_cons_zero, List.set_cons_succ]
  refine give_val (i := 6) (v := ?_) rfl (by kernel_rfl) (by kernel_rfl) (by kernel_rfl) (fun _ _ _ h => h) (by rfl) (fun u hu => ?_) hS ?_
  rotate_left
  · ((have hT := HT1.out.below hu; obtain ⟨b0, b1, b2⟩ := obj_cells3 hT.2.1; obtain ⟨b3, b4, _, _⟩ := obj_cells hT.2.2.1; clear hT); go_simp; try (with_reducible rfl))
  try simp only [Act.put, List.setIfInBounds_toArray, List.set_cons_zero, List.set_cons_succ]
  refine give_val (i := 7) (v := ?_) rfl (by kernel_rfl) (by kernel_rfl) (by kernel_rfl) (fun _ _ _ h => h) (by rfl) (fun u hu => ?_) hS ?_
  rotate_left
  · ((have hT := HT1.out.below hu; obtain ⟨b0, b1, b2⟩ := obj_cells3 hT.2.1; obtain ⟨b3, b4, _, _⟩ := obj_cells hT.2.2.1; clear hT); go_simp; try (with_reducible rfl))
  try simp only [Act.put, List.setIfInBounds_toArray, List.set_cons_zero, List.set_cons_succ]
  refine give_val (i := 8) (v := ?_) rfl (by kernel_rfl) (by kernel_rfl) (by kernel_rfl) (fun _ _ _ h => h) (by rfl) (fun u hu => ?_) hS ?_
  rotate_left
  · ((have hT := HT1.out.below hu; obtain ⟨b0, b1, b2⟩ := obj_cells3 hT.2.1; obtain ⟨b3, b4, _, _⟩ := obj_cells hT.2.2.1; clear hT); go_simp; try (with_reducible rfl))
  try simp only [Act.put, List.setIfInBounds_toArray, List.set_cons_zero, List.set_cons_succ]
  refine give_val (i := 9) (v := (.int .i64 v)) rfl (by kernel_rfl) (by kernel_rfl) (by kernel_rfl) (fun _ _ _ h => h) (by rfl) (fun u hu => ?_) hS ?_
  · ((have hT := HT1.out.below hu; obtain ⟨b0, b1, b2⟩ := obj_cells3 hT.2.1; obtain ⟨b3, b4, _, _⟩ := obj_cells hT.2.2.1; clear hT); go_simp; (have h9 := HY.out; first | omega | (rw [IntWalk.i64_in _ (by omega)]; omega)))
  try simp only [Act.put, List.setIfInBounds_toArray, List.set_cons_zero, List.set_cons_succ]
  refine give_val (i := 10) (v := ?_) rfl (by kernel_rfl) (by kernel_rfl) (by kernel_rfl) (fun _ _ _ h => h) (by rfl) (fun u hu => ?_) hS ?_
  rotate_left
  · ((have hT := HT1.out.below hu; obtain ⟨b0, b1, b2⟩ := obj_cells3 hT.2.1; obtain ⟨b3, b4, _, _⟩ := obj_cells hT.2.2.1; clear hT); go_simp; try (with_reducible rfl))
  try simp only [Act.put, List.setIfInBounds_toArray, List.set_cons_zero, List.set_cons_succ]
  refine give_val (i := 11) (v := ?_) rfl (by kernel_rfl) (by kernel_rfl) (by kernel_rfl) (fun _ _ _ h => h) (by rfl) (fun u hu => ?_) hS ?_
  rotate_left
  · ((have hT := HT1.out.below hu; obtain ⟨b0, b1, b2⟩ := obj_cells3 hT.2.1; obtain ⟨b3, b4, _, _⟩ := obj_cells hT.2.2.1; clear hT); go_simp; try (with_reducible rfl))
  try simp only [Act.put, List.setIfInBounds_toArray, List.set_cons_zero, List.set_cons_succ]
  refine give_val (i := 12) (v := ?_) rfl (by kernel_rfl) (by kernel_rfl) (by kernel_rfl) (fun _ _ _ h => h) (by rfl) (fun u hu => ?_) hS ?_
  rotate_left
  · ((have hT := HT1.out.below hu; obtain ⟨b0, b1, b2⟩ := obj_cells3 hT.2.1; obtain ⟨b3, b4, _, _⟩ := obj_cells hT.2.2.1; clear hT); go_simp; try (with_reducible rfl))
  try simp only [Act.put, List.setIfInBounds_toArray, List.set_cons_zero, List.set_cons_succ]
  refine give_val (i := 13) (v := ?_) rfl (by kernel_rfl) (by kernel_rfl) (by kernel_rfl) (fun _ _ _ h => h) (by rfl) (fun u hu => ?_) hS ?_
  rotate_left
  · ((have hT := HT1.out.below hu; obtain ⟨b0, b1, b2⟩ := obj_cells3 hT.2.1; obtain ⟨b3, b4, _, _⟩ := obj_cells hT.2.2.1; clear hT); go_simp; try (with_reducible rfl))
  try simp only [Act.put, List.setIfInBounds_toArray, List.set_cons_zero, List.set_cons_succ]
  refine wpAnyH_done (by kernel_rfl) (NoPanic.normal ?_) _
  clear hwr hix hci HY
  have HT2 := Lib.hid (HT1.out.below hS)
  have HI2 := Lib.hid (HI1.out.below hS)
  have HL2 := Lib.hid (HL1.out.below hS)
  clear hS HT1 HI1 HL1
  rename World => w2
  go_wp2_with fail
  go_loopw [5, 6] (fun y i wr => ∃ (k : Nat) (last : Int), k ≤ ln ∧ i = .int .i64 (k : Int) ∧ y = .int .i64 last ∧ msgL sl last (l.drop k) = R ∧ Below w2.heap.size w2 wr) (fun _ i _ => ln - (intOf i).toNat)
  case atStart => exact ⟨0, 0, Nat.zero_le _, rfl, rfl, HR0.out, Below.refl _ _⟩
  case round =>
    obtain ⟨k, last, hk, rfl, rfl, hrest, hb⟩ := hrel
    have HR := Lib.hid hrest
    have HT3 := Lib.hid (HT2.out.below hb)
    have HI3 := Lib.hid (HI2.out.below hb)
    have HL3 := Lib.hid (HL2.out.below hb)
    have HB := Lib.hid hb
    obtain ⟨b0, b1, b2⟩ := obj_cells3 HT3.out.2.1
    obtain ⟨b3, b4, _, _⟩ := obj_cells HT3.out.2.2.1
    clear hrest hb
    by_cases hlt : k < ln
    · have hkl : k < l.length := by have := HLEN.out; omega
      obtain ⟨a, n, s, rfl, hx, c0, c1⟩ := HL3.out.at_ hkl
      have HD := Lib.hid (drop_item hkl)
      rw [hx] at HD
      have HIT := Lib.hid hx
      have HKL := Lib.hid hkl
      have HSK := Lib.hid (fun x1 x2 x3 x4 x5 W => HSV.out k n s x1 x2 x3 x4 x5 W hlt hx)
      have HEB := Lib.hid (fun h => msgL_bad (sl := sl) (last := last) (x := (n, s)) (r := l.drop (k + 1)) h)
      have HEO := Lib.hid (fun h => msgL_ok (sl := sl) (last := last) (x := (n, s)) (r := l.drop (k + 1)) h)
      dsimp only at HEB HEO
      clear hx hkl
      by_cases ho : n ≤ last
      · have to : decide (n ≤ last) = true := by simpa using ho
        have HE := Lib.hid ((HEB.out (by rw [fldE_order ho]; decide)).trans (by rw [fldE_order ho]))
        obtain ⟨r0, r1, f0, f1⟩ := obj_cells HT3.out.2.2.2
        clear HEB HEO ho
        go_wp2
        refine bodyPost_ret (results_cell_row rfl _ _ (w.heap.size + 2) _ _ _ _ rfl (obj_set2 HT3.out.2.2.2 _ _) Tryd.underlying37 rfl (by kernel_rfl)) rfl ?_
        exact ⟨by rw [← HR.out, HD.out, HE.out], below_set2 HT3.out.1 (by omega) _ _⟩
      · have to : decide (n ≤ last) = false := by simpa using ho
        have HFN := Lib.hid (fun W hW => HF.out n W hW)
        have HN := Lib.hid (fldE_none (sl := sl) (last := last) (x := (n, s)) ho)
        have HV := Lib.hid (fldE_val (sl := sl) (last := last) (x := (n, s)) ho)
        dsimp only at HN HV
        clear ho
        rcases fnd_rel n sl 0 with ⟨g1, g2⟩ | ⟨k2, hk2, g2, g1⟩
        · rw [g2] at HFN
          have hE : fldE sl last (n, s) = 9 := HN.out (by rw [g1])
          have HE := Lib.hid ((HEB.out (by rw [hE]; decide)).trans (by rw [hE]))
          clear g1 g2 HN HV HEB HEO hE
          go_wp2_with fail
          refine (HFN.out _ HI3.out).mono ?_
          rintro e w4 ⟨rfl, hb4⟩
          have HT4 := Lib.hid (HT3.out.below hb4)
          obtain ⟨r0, r1, f0, f1⟩ := obj_cells HT4.out.2.2.2
          clear hb4 c0 c1 b0 b1 b2 b3 b4
          go_wp2
          refine bodyPost_ret (results_cell_row rfl _ _ (w.heap.size + 2) _ _ _ _ rfl (obj_set2 HT4.out.2.2.2 _ _) Tryd.underlying37 rfl (by kernel_rfl)) rfl ?_
          exact ⟨by rw [← HR.out, HD.out, HE.out], below_set2 HT4.out.1 (by omega) _ _⟩
        · rw [g2, Nat.zero_add] at HFN
          have hE : fldE sl last (n, s) = spvS (spAt sl k2) s := by rw [HV.out (by rw [g1]), g1]
          rw [hE] at HEB HEO
          have hk3 : k2 < len := by have := HSL.out; omega
          have HK2 := Lib.hid hk2
          clear g1 g2 HN HV hE hk2
          go_wp2_with fail
          refine (HFN.out _ HI3.out).mono ?_
          rintro e w4 ⟨rfl, hb4⟩
          have HT4 := Lib.hid (HT3.out.below hb4)
          have HB4 := Lib.hid (hbt HB.out hb4)
          obtain ⟨a2, x1, x2, x3, x4, x5, rfl, hx5, d0, d1, d2, d3, d4⟩ := (HI3.out.below hb4).at_ HK2.out
          rw [hx5] at HEB HEO
          have HZZ := Lib.hid (fun W => HSK.out x1 x2 x3 x4 x5 W)
          generalize spvS (x1, x2, x3, x4, x5) s = z2 at *
          have e0 := (hb4.cell (block_lt_of_cell c0)).trans c0
          have e1 := (hb4.cell (block_lt_of_cell c1)).trans c1
          clear hb4 c0 c1 b0 b1 b2 b3 b4 hx5
          go_wp2_with fail
          refine wp_region_noPanic ?_
          refine wp_region_held_drew (S := (fun u => Below w4.heap.size w4 u)) (by kernel_rfl) ((Below.refl _ _).drew) (fun hS => ?_)
          refine give_val (i := 0) (v := ?_) rfl (by kernel_rfl) (by kernel_rfl) (by kernel_rfl) (fun _ _ _ h => h) (by rfl) (fun u hu => ?_) hS ?_
          rotate_left
          · ((have hT := HT4.out.below hu; obtain ⟨b0, b1, b2⟩ := obj_cells3 hT.2.1; obtain ⟨b3, b4, _, _⟩ := obj_cells hT.2.2.1; have q0 := (hu.cell (block_lt_of_cell d0)).trans d0; have q1 := (hu.cell (block_lt_of_cell d1)).trans d1; have q2 := (hu.cell (block_lt_of_cell d2)).trans d2; have q3 := (hu.cell (block_lt_of_cell d3)).trans d3; have q4 := (hu.cell (block_lt_of_cell d4)).trans d4; have p0 := (hu.cell (block_lt_of_cell e0)).trans e0; have p1 := (hu.cell (block_lt_of_cell e1)).trans e1; clear hT); go_simp; try (with_reducible rfl))
          try simp only [Act.put, List.setIfInBounds_toArray, List.set_cons_zero, List.set_cons_succ]
          refine give_val (i := 1) (v := ?_) rfl (by kernel_rfl) (by kernel_rfl) (by kernel_rfl) (fun _ _ _ h => h) (by rfl) (fun u hu => ?_) hS ?_
          rotate_left
          · ((have hT := HT4.out.below hu; obtain ⟨b0, b1, b2⟩ := obj_cells3 hT.2.1; obtain ⟨b3, b4, _, _⟩ := obj_cells hT.2.2.1; have q0 := (hu.cell (block_lt_of_cell d0)).trans d0; have q1 := (hu.cell (block_lt_of_cell d1)).trans d1; have q2 := (hu.cell (block_lt_of_cell d2)).trans d2; have q3 := (hu.cell (block_lt_of_cell d3)).trans d3; have q4 := (hu.cell (block_lt_of_cell d4)).trans d4; have p0 := (hu.cell (block_lt_of_cell e0)).trans e0; have p1 := (hu.cell (block_lt_of_cell e1)).trans e1; clear hT); go_simp; try (with_reducible rfl))
          try simp only [Act.put, List.setIfInBounds_toArray, List.set_cons_zero, List.set_cons_succ]
          refine give_val (i := 2) (v := ?_) rfl (by kernel_rfl) (by kernel_rfl) (by kernel_rfl) (fun _ _ _ h => h) (by rfl) (fun u hu => ?_) hS ?_
          rotate_left
          · ((have hT := HT4.out.below hu; obtain ⟨b0, b1, b2⟩ := obj_cells3 hT.2.1; obtain ⟨b3, b4, _, _⟩ := obj_cells hT.2.2.1; have q0 := (hu.cell (block_lt_of_cell d0)).trans d0; have q1 := (hu.cell (block_lt_of_cell d1)).trans d1; have q2 := (hu.cell (block_lt_of_cell d2)).trans d2; have q3 := (hu.cell (block_lt_of_cell d3)).trans d3; have q4 := (hu.cell (block_lt_of_cell d4)).trans d4; have p0 := (hu.cell (block_lt_of_cell e0)).trans e0; have p1 := (hu.cell (block_lt_of_cell e1)).trans e1; clear hT); go_simp; try (with_reducible rfl))
          try simp only [Act.put, List.setIfInBounds_toArray, List.set_cons_zero, List.set_cons_succ]
          refine give_val (i := 3) (v := ?_) rfl (by kernel_rfl) (by kernel_rfl) (by kernel_rfl) (fun _ _ _ h => h) (by rfl) (fun u hu => ?_) hS ?_
          rotate_left
          · ((have hT := HT4.out.below hu; obtain ⟨b0, b1, b2⟩ := obj_cells3 hT.2.1; obtain ⟨b3, b4, _, _⟩ := obj_cells hT.2.2.1; have q0 := (hu.cell (block_lt_of_cell d0)).trans d0; have q1 := (hu.cell (block_lt_of_cell d1)).trans d1; have q2 := (hu.cell (block_lt_of_cell d2)).trans d2; have q3 := (hu.cell (block_lt_of_cell d3)).trans d3; have q4 := (hu.cell (block_lt_of_cell d4)).trans d4; have p0 := (hu.cell (block_lt_of_cell e0)).trans e0; have p1 := (hu.cell (block_lt_of_cell e1)).trans e1; clear hT); go_simp; try (with_reducible rfl))
          try simp only [Act.put, List.setIfInBounds_toArray, List.set_cons_zero, List.set_cons_succ]
          refine give_val (i := 4) (v := ?_) rfl (by kernel_rfl) (by kernel_rfl) (by kernel_rfl) (fun _ _ _ h => h) (by rfl) (fun u hu => ?_) hS ?_
          rotate_left
          · ((have hT := HT4.out.below hu; obtain ⟨b0, b1, b2⟩ := obj_cells3 hT.2.1; obtain ⟨b3, b4, _, _⟩ := obj_cells hT.2.2.1; have q0 := (hu.cell (block_lt_of_cell d0)).trans d0; have q1 := (hu.cell (block_lt_of_cell d1)).trans d1; have q2 := (hu.cell (block_lt_of_cell d2)).trans d2; have q3 := (hu.cell (block_lt_of_cell d3)).trans d3; have q4 := (hu.cell (block_lt_of_cell d4)).trans d4; have p0 := (hu.cell (block_lt_of_cell e0)).trans e0; have p1 := (hu.cell (block_lt_of_cell e1)).trans e1; clear hT); go_simp; try (with_reducible rfl))
          try simp only [Act.put, List.setIfInBounds_toArray, List.set_cons_zero, List.set_cons_succ]
          refine give_val (i := 5) (v := ?_) rfl (by kernel_rfl) (by kernel_rfl) (by kernel_rfl) (fun _ _ _ h => h) (by rfl) (fun u hu => ?_) hS ?_
          rotate_left
          · ((have hT := HT4.out.below hu; obtain ⟨b0, b1, b2⟩ := obj_cells3 hT.2.1; obtain ⟨b3, b4, _, _⟩ := obj_cells hT.2.2.1; have q0 := (hu.cell (block_lt_of_cell d0)).trans d0; have q1 := (hu.cell (block_lt_of_cell d1)).trans d1; have q2 := (hu.cell (block_lt_of_cell d2)).trans d2; have q3 := (hu.cell (block_lt_of_cell d3)).trans d3; have q4 := (hu.cell (block_lt_of_cell d4)).trans d4; have p0 := (hu.cell (block_lt_of_cell e0)).trans e0; have p1 := (hu.cell (block_lt_of_cell e1)).trans e1; clear hT); go_simp; try (with_reducible rfl))
          try simp only [Act.put, List.setIfInBounds_toArray, List.set_cons_zero, List.set_cons_succ]
          refine give_val (i := 6) (v := ?_) rfl (by kernel_rfl) (by kernel_rfl) (by kernel_rfl) (fun _ _ _ h => h) (by rfl) (fun u hu => ?_) hS ?_
          rotate_left
          · ((have hT := HT4.out.below hu; obtain ⟨b0, b1, b2⟩ := obj_cells3 hT.2.1; obtain ⟨b3, b4, _, _⟩ := obj_cells hT.2.2.1; have q0 := (hu.cell (block_lt_of_cell d0)).trans d0; have q1 := (hu.cell (block_lt_of_cell d1)).trans d1; have q2 := (hu.cell (block_lt_of_cell d2)).trans d2; have q3 := (hu.cell (block_lt_of_cell d3)).trans d3; have q4 := (hu.cell (block_lt_of_cell d4)).trans d4; have p0 := (hu.cell (block_lt_of_cell e0)).trans e0; have p1 := (hu.cell (block_lt_of_cell e1)).trans e1; clear hT); go_simp; try (with_reducible rfl))
          try simp only [Act.put, List.setIfInBounds_toArray, List.set_cons_zero, List.set_cons_succ]
          refine give_val (i := 7) (v := ?_) rfl (by kernel_rfl) (by kernel_rfl) (by kernel_rfl) (fun _ _ _ h => h) (by rfl) (fun u hu => ?_) hS ?_
          rotate_left
          · ((have hT := HT4.out.below hu; obtain ⟨b0, b1, b2⟩ := obj_cells3 hT.2.1; obtain ⟨b3, b4, _, _⟩ := obj_cells hT.2.2.1; have q0 := (hu.cell (block_lt_of_cell d0)).trans d0; have q1 := (hu.cell (block_lt_of_cell d1)).trans d1; have q2 := (hu.cell (block_lt_of_cell d2)).trans d2; have q3 := (hu.cell (block_lt_of_cell d3)).trans d3; have q4 := (hu.cell (block_lt_of_cell d4)).trans d4; have p0 := (hu.cell (block_lt_of_cell e0)).trans e0; have p1 := (hu.cell (block_lt_of_cell e1)).trans e1; clear hT); go_simp; try (with_reducible rfl))
          try simp only [Act.put, List.setIfInBounds_toArray, List.set_cons_zero, List.set_cons_succ]
          refine give_val (i := 8) (v := ?_) rfl (by kernel_rfl) (by kernel_rfl) (by kernel_rfl) (fun _ _ _ h => h) (by rfl) (fun u hu => ?_) hS ?_
          rotate_left
          · ((have hT := HT4.out.below hu; obtain ⟨b0, b1, b2⟩ := obj_cells3 hT.2.1; obtain ⟨b3, b4, _, _⟩ := obj_cells hT.2.2.1; have q0 := (hu.cell (block_lt_of_cell d0)).trans d0; have q1 := (hu.cell (block_lt_of_cell d1)).trans d1; have q2 := (hu.cell (block_lt_of_cell d2)).trans d2; have q3 := (hu.cell (block_lt_of_cell d3)).trans d3; have q4 := (hu.cell (block_lt_of_cell d4)).trans d4; have p0 := (hu.cell (block_lt_of_cell e0)).trans e0; have p1 := (hu.cell (block_lt_of_cell e1)).trans e1; clear hT); go_simp; try (with_reducible rfl))
          try simp only [Act.put, List.setIfInBounds_toArray, List.set_cons_zero, List.set_cons_succ]
          refine give_val (i := 9) (v := ?_) rfl (by kernel_rfl) (by kernel_rfl) (by kernel_rfl) (fun _ _ _ h => h) (by rfl) (fun u hu => ?_) hS ?_
          rotate_left
          · ((have hT := HT4.out.below hu; obtain ⟨b0, b1, b2⟩ := obj_cells3 hT.2.1; obtain ⟨b3, b4, _, _⟩ := obj_cells hT.2.2.1; have q0 := (hu.cell (block_lt_of_cell d0)).trans d0; have q1 := (hu.cell (block_lt_of_cell d1)).trans d1; have q2 := (hu.cell (block_lt_of_cell d2)).trans d2; have q3 := (hu.cell (block_lt_of_cell d3)).trans d3; have q4 := (hu.cell (block_lt_of_cell d4)).trans d4; have p0 := (hu.cell (block_lt_of_cell e0)).trans e0; have p1 := (hu.cell (block_lt_of_cell e1)).trans e1; clear hT); go_simp; try (with_reducible rfl))
          try simp only [Act.put, List.setIfInBounds_toArray, List.set_cons_zero, List.set_cons_succ]
          refine give_val (i := 10) (v := ?_) rfl (by kernel_rfl) (by kernel_rfl) (by kernel_rfl) (fun _ _ _ h => h) (by rfl) (fun u hu => ?_) hS ?_
          rotate_left
          · ((have hT := HT4.out.below hu; obtain ⟨b0, b1, b2⟩ := obj_cells3 hT.2.1; obtain ⟨b3, b4, _, _⟩ := obj_cells hT.2.2.1; have q0 := (hu.cell (block_lt_of_cell d0)).trans d0; have q1 := (hu.cell (block_lt_of_cell d1)).trans d1; have q2 := (hu.cell (block_lt_of_cell d2)).trans d2; have q3 := (hu.cell (block_lt_of_cell d3)).trans d3; have q4 := (hu.cell (block_lt_of_cell d4)).trans d4; have p0 := (hu.cell (block_lt_of_cell e0)).trans e0; have p1 := (hu.cell (block_lt_of_cell e1)).trans e1; clear hT); go_simp; try (with_reducible rfl))
          try simp only [Act.put, List.setIfInBounds_toArray, List.set_cons_zero, List.set_cons_succ]
          refine only_call (i := 11) 38 #[.agg #[.int .i64 x1, .int .i64 x2, .int .i64 x3, .int .i64 x4, .int .i64 x5], .string s] rfl (by kernel_rfl) (by rfl) ((HZZ.out _).mono fun e w' he => ⟨he.1, hbt hS he.2⟩) ?_ ?_
          · (go_simp; try (with_reducible rfl))
          clear hS
          intro w11 hS
          try simp only [Act.put, List.setIfInBounds_toArray, List.set_cons_zero, List.set_cons_succ]
          refine give_val (i := 12) (v := ?_) rfl (by kernel_rfl) (by kernel_rfl) (by kernel_rfl) (fun _ _ _ h => h) (by rfl) (fun u hu => ?_) hS ?_
          rotate_left
          · ((have hT := HT4.out.below hu; obtain ⟨b0, b1, b2⟩ := obj_cells3 hT.2.1; obtain ⟨b3, b4, _, _⟩ := obj_cells hT.2.2.1; have q0 := (hu.cell (block_lt_of_cell d0)).trans d0; have q1 := (hu.cell (block_lt_of_cell d1)).trans d1; have q2 := (hu.cell (block_lt_of_cell d2)).trans d2; have q3 := (hu.cell (block_lt_of_cell d3)).trans d3; have q4 := (hu.cell (block_lt_of_cell d4)).trans d4; have p0 := (hu.cell (block_lt_of_cell e0)).trans e0; have p1 := (hu.cell (block_lt_of_cell e1)).trans e1; clear hT); go_simp; try (with_reducible rfl))
          try simp only [Act.put, List.setIfInBounds_toArray, List.set_cons_zero, List.set_cons_succ]
          refine wpAnyH_done (by kernel_rfl) (NoPanic.normal ?_) _
          have HT5 := Lib.hid (HT4.out.below hS)
          have HB5 := Lib.hid (hbt HB4.out hS)
          clear hS d0 d1 d2 d3 d4 e0 e1
          by_cases hz2 : z2 = 0
          · subst hz2
            have HE := Lib.hid (HEO.out rfl)
            clear HEB HEO
            go_wp2
            go_roundw
            case rel => exact ⟨k + 1, n, by omega, by go_num, rfl, by rw [← HR.out, HD.out, HE.out], HB5.out⟩
            case measure => simp [intOf]; omega
          · have tz : (z2 != 0) = true := by simpa using hz2
            have HE := Lib.hid (HEB.out hz2)
            clear HEB HEO hz2
            obtain ⟨r0, r1, f0, f1⟩ := obj_cells HT5.out.2.2.2
            go_wp2
            refine bodyPost_ret (results_cell_row rfl _ _ (w.heap.size + 2) _ _ _ _ rfl (obj_set2 HT5.out.2.2.2 _ _) Tryd.underlying37 rfl (by kernel_rfl)) rfl ?_
            exact ⟨by rw [← HR.out, HD.out, HE.out], below_set2 HT5.out.1 (by omega) _ _⟩
    · have HE := Lib.hid (items_end (l := l) (k := k) (by have := HLEN.out; omega))
      obtain ⟨r0, r1, f0, f1⟩ := obj_cells HT3.out.2.2.2
      go_wp2
      refine bodyPost_ret (results_cell_row rfl _ _ (w.heap.size + 2) _ _ _ _ rfl (obj_set2 HT3.out.2.2.2 _ _) Tryd.underlying37 rfl (by kernel_rfl)) rfl ?_
      exact ⟨by rw [← HR.out, HE.out]; rfl, below_set2 HT3.out.1 (by omega) _ _⟩
theorem mrcheck_any (st v : Int) (A : Option Addr) (ca : Nat) (sl : List Sp) (m : ByteArray) (B : Option Addr) (cb : Nat) (l : List Item) (w : World) (hI : Spl w A sl) (hB : Tlvs w B l) (hn : sl.length ≤ 1000) (hl : l.length ≤ 1000) (hs : ∀ x ∈ l, x.2.size ≤ maxLen) (hm : m.size ≤ maxLen) :
    Calls Tryd.prog 15 #[.agg #[.int .i64 st, .int .i64 v, .slice A sl.length ca], .agg #[.string m, .slice B l.length cb]] w fun e w' => e = .returned (.agg #[.int .i64 (msgN st v sl m l).1, .int .i64 (msgN st v sl m l).2]) ∧ Below w.heap.size w w' := by
  by_cases h : (schN st v sl).1 = 0
  · cases h2 : mtiB m.data.toList
    · rw [msgN_mti h (mtiV_none h2)]; exact mrchk_none st v A ca sl m B _ cb w hI hn hm h h2
    · obtain ⟨a, b, c, d, rfl, ha, hb, hc, hd⟩ := mti_of h2
      have hlt : a.toNat < 256 := a.toNat_lt
      by_cases h3 : (a.toNat : Int) - 48 = v
      · rw [msgN_list h (by rw [mtiV_T4 h2]; simpa using h3)]
        exact mrchk_list st v A ca sl _ a.toNat B cb l w hI hB hn hl hs hm h h2 (ix_T4_0 a b c d) hlt h3
      · rw [msgN_mti h (by rw [mtiV_T4 h2]; simpa using h3)]
        exact mrchk_version st v A ca sl _ _ a.toNat B _ cb w hI hn hm h h2 (ix_T4_0 a b c d) hlt rfl h3
  · rw [msgN_arg h]; exact mrchk_arg st v A ca sl m B _ cb w hI hn h

end Go.Proofs.YtckapcafpnlnoaaDoor
