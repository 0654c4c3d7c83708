/-
  The answers that the document fixes: in every world that holds the table of kinds.
-/
import Derived.Test.YthcdolkpdbbnkaaDoorMsgIns
import Derived.Test.YthcdolkpdbbnkaaDoorMsgEq
import Derived.Test.YthcdolkpdbbnkaaDoorMsgChk
import Derived.Test.YthcdolkpdbbnkaaDoorPackFld
namespace Go.Proofs.YthcdolkpdbbnkaaDoor
open Go.RowKit

abbrev mt0 : ByteArray := ⟨#[48, 50, 48, 48]⟩
abbrev mt1 : ByteArray := ⟨#[49, 50, 48, 48]⟩
abbrev mtA : ByteArray := ⟨#[49]⟩
abbrev mtB3 : ByteArray := ⟨#[49, 50, 51]⟩
abbrev mtE : ByteArray := ⟨#[]⟩
abbrev mawS : List Sp := [(2, 1, 1, 3, 3), (4, 1, 1, 1, 1)]
abbrev mawM : List Item := [(4, mtA)]
abbrev mawN : List Item := [(2, mtB3), (4, mtA)]
abbrev mawX : List Item := [(4, mtA), (2, mtE)]
theorem maw_sizes {l : List Item} (h : (l.all fun x => decide (x.2.size ≤ 4)) = true) : ∀ x ∈ l, x.2.size ≤ maxLen := fun x hx => by
  have := of_decide_eq_true (List.all_eq_true.1 h x hx)
  unfold maxLen
  omega

theorem maw_with (A : Option Addr) (W : World) (h : Tlvs W A mawM) : Calls Tryd.prog 20 #[.agg #[.string mt0, .slice A 1 1], .int .i64 2, .string mtB3] W fun e w' => ∃ A' c', e = .returned (.agg #[.string mt0, .slice A' 2 c']) ∧ Tlvs w' A' mawN ∧ Below W.heap.size W w' := by
  have := mwith_any mt0 A 1 mawM 2 mtB3 W h (by simp)
  rw [show withL 2 mtB3 mawM = mawN by decide +kernel] at this
  exact this
theorem maw_get (A : Option Addr) (c : Nat) (W : World) (h : Tlvs W A mawN) : Calls Tryd.prog 14 #[.agg #[.string mt0, .slice A 2 c], .int .i64 2] W fun e w' => e = .returned (.tuple #[.string mtB3, .bool true]) ∧ Below W.heap.size W w' := by
  have := mget_any mt0 A c mawN 2 W h (by simp)
  rw [show findS mawN 2 = mtB3 by decide +kernel, show findB mawN 2 = true by decide +kernel] at this
  exact this
theorem maw_chk1 (A B : Option Addr) (c : Nat) (W : World) (hK : Kinds W) (h : Spl W A mawS) (k : Tlvs W B mawN) : Calls Tryd.prog 10 #[.agg #[.int .i64 1, .int .i64 0, .slice A 2 2], .agg #[.string mt0, .slice B 2 c]] W fun e w' => e = .returned (.agg #[.int .i64 0, .int .i64 0]) ∧ Below W.heap.size W w' := by
  have := mcheck_any 1 0 A 2 mawS mt0 B c mawN W hK h k (by simp) (by simp) (maw_sizes (by decide +kernel))
  rw [show msgN 1 0 mawS mt0 mawN = (0, 0) by decide +kernel] at this
  exact this
theorem maw_chk2 (A : Option Addr) (W : World) (hK : Kinds W) (h : Spl W A mawS) : Calls Tryd.prog 10 #[.agg #[.int .i64 1, .int .i64 0, .slice A 2 2], .agg #[.string mt1, .slice none 0 0]] W fun e w' => e = .returned (.agg #[.int .i64 7, .int .i64 0]) ∧ Below W.heap.size W w' := by
  have := mcheck_any 1 0 A 2 mawS mt1 none 0 [] W hK h (tlvs_nil _ _) (by simp) (by simp) (by simp)
  rw [show msgN 1 0 mawS mt1 [] = (7, 0) by decide +kernel] at this
  exact this
theorem maw_chk3 (A : Option Addr) (W : World) (p : Nat) (hK : Kinds W) (h : Spl W A mawS) (k : W.heap[p]? = some (.cells #[.int .i64 4, .string mtA, .int .i64 2, .string mtE] 50)) : Calls Tryd.prog 10 #[.agg #[.int .i64 1, .int .i64 0, .slice A 2 2], .agg #[.string mt0, .slice (some ⟨p, 0, none⟩) 2 2]] W fun e w' => e = .returned (.agg #[.int .i64 11, .int .i64 2]) ∧ Below W.heap.size W w' := by
  have := mcheck_any 1 0 A 2 mawS mt0 (some ⟨p, 0, none⟩) 2 mawX W hK h (vals_row k rfl) (by simp) (by simp) (maw_sizes (by decide +kernel))
  rw [show msgN 1 0 mawS mt0 mawX = (11, 2) by decide +kernel] at this
  exact this
theorem maw_without (A : Option Addr) (c : Nat) (W : World) (h : Tlvs W A mawN) : Calls Tryd.prog 21 #[.agg #[.string mt0, .slice A 2 c], .int .i64 2] W fun e w' => ∃ v, e = .returned v ∧ ∃ A' c', v = .agg #[.string mt0, .slice A' 1 c'] ∧ Tlvs w' A' mawM ∧ Below W.heap.size W w' := by
  have := mwithout_any mt0 A c mawN 2 W h (by simp)
  rw [show outL 2 mawN = mawM by decide +kernel] at this
  exact this.mono fun e w' ⟨A', c', he, ht, hb⟩ => ⟨_, he, A', c', rfl, ht, hb⟩
theorem maw_same (A B : Option Addr) (c d : Nat) (W : World) (h : Tlvs W A mawM) (k : Tlvs W B mawM) : Calls Tryd.prog 25 #[.agg #[.string mt0, .slice A 1 c], .agg #[.string mt0, .slice B 1 d]] W fun e w' => e = .returned (.bool true) ∧ Below W.heap.size W w' := by
  have := msame_any mt0 A c mawM mt0 B d mawM W h k (by simp)
  rw [sameM_refl] at this
  exact this
theorem maw_set (A : Option Addr) (c : Nat) (W : World) (h : Tlvs W A mawN) : Calls Tryd.prog 18 #[.agg #[.string mt0, .slice A 2 c]] W fun e w' => e = .returned (.agg #[.int .u64 5764607523034234880, .int .u64 0]) ∧ Below W.heap.size W w' := by
  have := mset_any mt0 A c mawN W h (by simp)
  rw [show ofH (tagsOf mawN) = 5764607523034234880 by decide +kernel, show ofL (tagsOf mawN) = 0 by decide +kernel] at this
  exact this
theorem maw_of (W : World) (p : Nat) (h : W.heap[p]? = some (.cells #[.int .i64 2, .int .i64 4] 3)) : Calls Tryd.prog 26 #[.slice (some ⟨p, 0, none⟩) 2 2] W fun e w' => e = .returned (.agg #[.int .u64 5764607523034234880, .int .u64 0]) ∧ Below W.heap.size W w' := by
  have hI : Ints W (some ⟨p, 0, none⟩) [2, 4] := by
    intro i hi
    refine ⟨_, rfl, ?_⟩
    rw [show (⟨p, 0, none⟩ : Addr).add i = ⟨p, i, none⟩ from by rw [Addr.add_lit, Nat.zero_add], cell_of_row _ _ i _ _ _ h]
    match i, hi with
    | 0, _ => rfl
    | 1, _ => rfl
  have := of_any (some ⟨p, 0, none⟩) 2 [2, 4] W hI (by simp)
  rw [show ofH [2, 4] = 5764607523034234880 by decide +kernel, show ofL [2, 4] = 0 by decide +kernel] at this
  exact this

/-- What stands in the blocks: the schema, both messages, and their lists. -/
def MAw (w : World) (gs gm gn : Nat) (A B C : Option Addr) (c : Nat) (u : World) : Prop :=
  Below w.heap.size w u ∧ Kinds u ∧ Box u gs 1 0 A 2 2 ∧ Spl u A mawS ∧ MBox u gm mt0 B 1 1 ∧ Tlvs u B mawM ∧ MBox u gn mt0 C 2 c ∧ Tlvs u C mawN
theorem MAw.below {w : World} {gs gm gn : Nat} {A B C : Option Addr} {c : Nat} {u u' : World} (h : MAw w gs gm gn A B C c u) (hb : Below u.heap.size u u') : MAw w gs gm gn A B C c u' := by
  obtain ⟨h1, h2, h3, h4, h5, h6, h7, h8⟩ := h
  exact ⟨hbt h1 hb, h2.below hb, h3.below hb, h4.below hb, h5.below hb, h6.below hb, h7.below hb, h8.below hb⟩

set_option maxRecDepth 100000 in
set_option maxHeartbeats 12800000 in
theorem mawake_any (w : World) (hK : Kinds w) : Calls Tryd.prog 8 #[] w fun e w' => e = .returned (.bool true) ∧ Below w.heap.size w w' := by
  have HK := Lib.hid hK
  clear hK
  have HB0 := Lib.hid (hbt (hbt (hbt (below_al w (.cells #[.int .i64 2, .int .i64 1, .int .i64 1, .int .i64 3, .int .i64 3, .int .i64 4, .int .i64 1, .int .i64 1, .int .i64 1, .int .i64 1] 58)) (below_al _ (.cells #[.int .i64 1, .int .i64 0, .slice (some ⟨w.heap.size, 0, none⟩) 2 2] 24))) (below_al _ (.cells #[.int .i64 4, .string mtA] 50))) (below_al _ (.cells #[.string mt0, .slice (some ⟨w.heap.size + 1 + 1, 0, none⟩) 1 1] 27)))
  have HS0 := Lib.hid ((spl_row (l := mawS) (heap_alloc_new w (.cells #[.int .i64 2, .int .i64 1, .int .i64 1, .int .i64 3, .int .i64 3, .int .i64 4, .int .i64 1, .int .i64 1, .int .i64 1, .int .i64 1] 58)) rfl).below (hbt (hbt (below_al _ (.cells #[.int .i64 1, .int .i64 0, .slice (some ⟨w.heap.size, 0, none⟩) 2 2] 24)) (below_al _ (.cells #[.int .i64 4, .string mtA] 50))) (below_al _ (.cells #[.string mt0, .slice (some ⟨w.heap.size + 1 + 1, 0, none⟩) 1 1] 27))))
  have HX0 : Hid (Box ((((w.alloc (.cells #[.int .i64 2, .int .i64 1, .int .i64 1, .int .i64 3, .int .i64 3, .int .i64 4, .int .i64 1, .int .i64 1, .int .i64 1, .int .i64 1] 58)).alloc (.cells #[.int .i64 1, .int .i64 0, .slice (some ⟨w.heap.size, 0, none⟩) 2 2] 24)).alloc (.cells #[.int .i64 4, .string mtA] 50)).alloc (.cells #[.string mt0, .slice (some ⟨w.heap.size + 1 + 1, 0, none⟩) 1 1] 27)) (w.heap.size + 1) 1 0 (some ⟨w.heap.size, 0, none⟩) 2 2) := obj_below (obj_below (heap_al _ _ _ (by simp)) (below_al _ _)) (below_al _ _)
  have HV0 : Hid (Tlvs ((((w.alloc (.cells #[.int .i64 2, .int .i64 1, .int .i64 1, .int .i64 3, .int .i64 3, .int .i64 4, .int .i64 1, .int .i64 1, .int .i64 1, .int .i64 1] 58)).alloc (.cells #[.int .i64 1, .int .i64 0, .slice (some ⟨w.heap.size, 0, none⟩) 2 2] 24)).alloc (.cells #[.int .i64 4, .string mtA] 50)).alloc (.cells #[.string mt0, .slice (some ⟨w.heap.size + 1 + 1, 0, none⟩) 1 1] 27)) (some ⟨w.heap.size + 1 + 1, 0, none⟩) mawM) := vals_row (obj_below (heap_al _ (.cells #[.int .i64 4, .string mtA] 50) _ (by simp)) (below_al _ _)) rfl
  have HM0 : Hid (MBox ((((w.alloc (.cells #[.int .i64 2, .int .i64 1, .int .i64 1, .int .i64 3, .int .i64 3, .int .i64 4, .int .i64 1, .int .i64 1, .int .i64 1, .int .i64 1] 58)).alloc (.cells #[.int .i64 1, .int .i64 0, .slice (some ⟨w.heap.size, 0, none⟩) 2 2] 24)).alloc (.cells #[.int .i64 4, .string mtA] 50)).alloc (.cells #[.string mt0, .slice (some ⟨w.heap.size + 1 + 1, 0, none⟩) 1 1] 27)) (w.heap.size + 1 + 1 + 1) mt0 (some ⟨w.heap.size + 1 + 1, 0, none⟩) 1 1) := heap_al _ _ _ (by simp)
  have HK0 := Lib.hid (HK.out.below HB0.out)
  go_enter Tryd.func8, Tryd.ntmps8
  go_wp2_with fail
  generalize (((w.alloc (.cells #[.int .i64 2, .int .i64 1, .int .i64 1, .int .i64 3, .int .i64 3, .int .i64 4, .int .i64 1, .int .i64 1, .int .i64 1, .int .i64 1] 58)).alloc (.cells #[.int .i64 1, .int .i64 0, .slice (some ⟨w.heap.size, 0, none⟩) 2 2] 24)).alloc (.cells #[.int .i64 4, .string mtA] 50)).alloc (.cells #[.string mt0, .slice (some ⟨w.heap.size + 1 + 1, 0, none⟩) 1 1] 27) = U at *
  refine (maw_with _ _ HV0.out).mono ?_
  rintro e w1 ⟨C, c, rfl, ht1, hb1⟩
  have HW1 : Hid (MAw w (w.heap.size + 1) (w.heap.size + 1 + 1 + 1) w1.heap.size (some ⟨w.heap.size, 0, none⟩) (some ⟨w.heap.size + 1 + 1, 0, none⟩) C c (w1.alloc (.cells #[.string mt0, .slice C 2 c] 27))) :=
    ⟨hbt (hbt HB0.out hb1) (below_al _ _), (HK0.out.below hb1).below (below_al _ _), (HX0.out.below hb1).below (below_al _ _), (HS0.out.below hb1).below (below_al _ _), (HM0.out.below hb1).below (below_al _ _), (HV0.out.below hb1).below (below_al _ _), mbox_new _ _ _ _ _, ht1.below (below_al _ _)⟩
  clear HK HB0 HS0 HX0 HV0 HM0 HK0 ht1 hb1
  generalize w.heap.size + 1 + 1 + 1 = gm at *
  generalize (some ⟨w.heap.size + 1 + 1, 0, none⟩ : Option Addr) = B at *
  generalize (some ⟨w.heap.size, 0, none⟩ : Option Addr) = A at *
  generalize w.heap.size + 1 = gs at *
  go_wp2_with fail
  generalize w1.alloc (.cells #[.string mt0, .slice C 2 c] 27) = W1 at *
  generalize w1.heap.size = gn at *
  refine (maw_get C c _ HW1.out.2.2.2.2.2.2.2).mono ?_
  rintro e x2 ⟨rfl, hb2⟩
  have HW2 := Lib.hid (HW1.out.below hb2)
  clear hb2 HW1
  go_wp2_with fail
  refine wp_region_noPanic ?_
  refine wp_region_held_drew (S := (fun u => Below x2.heap.size x2 u)) (by kernel_rfl) ((Below.refl _ _).drew) (fun hS => ?_)
  refine give_val (i := 0) (v := ?_) rfl (by kernel_rfl) (by kernel_rfl) (by kernel_rfl) (fun _ _ _ h => h) (by rfl) (fun u hu => ?_) hS ?_
  rotate_left
  · ((have hT := HW2.out.below hu; obtain ⟨b0, b1, b2⟩ := obj_cells3 hT.2.2.1; obtain ⟨b3, b4, _, _⟩ := obj_cells hT.2.2.2.2.1; obtain ⟨b5, b6, _, _⟩ := obj_cells hT.2.2.2.2.2.2.1; clear hT); go_simp; try (with_reducible rfl))
  try simp only [Act.put, List.setIfInBounds_toArray, List.set_cons_zero, List.set_cons_succ]
  refine give_val (i := 1) (v := ?_) rfl (by kernel_rfl) (by kernel_rfl) (by kernel_rfl) (fun _ _ _ h => h) (by rfl) (fun u hu => ?_) hS ?_
  rotate_left
  · ((have hT := HW2.out.below hu; obtain ⟨b0, b1, b2⟩ := obj_cells3 hT.2.2.1; obtain ⟨b3, b4, _, _⟩ := obj_cells hT.2.2.2.2.1; obtain ⟨b5, b6, _, _⟩ := obj_cells hT.2.2.2.2.2.2.1; clear hT); go_simp; try (with_reducible rfl))
  try simp only [Act.put, List.setIfInBounds_toArray, List.set_cons_zero, List.set_cons_succ]
  refine give_val (i := 3) (v := ?_) rfl (by kernel_rfl) (by kernel_rfl) (by kernel_rfl) (fun _ _ _ h => h) (by rfl) (fun u hu => ?_) hS ?_
  rotate_left
  · ((have hT := HW2.out.below hu; obtain ⟨b0, b1, b2⟩ := obj_cells3 hT.2.2.1; obtain ⟨b3, b4, _, _⟩ := obj_cells hT.2.2.2.2.1; obtain ⟨b5, b6, _, _⟩ := obj_cells hT.2.2.2.2.2.2.1; clear hT); go_simp; try (with_reducible rfl))
  try simp only [Act.put, List.setIfInBounds_toArray, List.set_cons_zero, List.set_cons_succ]
  refine only_call (i := 2) 10 #[.agg #[.int .i64 1, .int .i64 0, .slice A 2 2], .agg #[.string mt0, .slice C 2 c]] rfl (by kernel_rfl) (by rfl) ((maw_chk1 A C c _ (HW2.out.below hS).2.1 (HW2.out.below hS).2.2.2.1 (HW2.out.below hS).2.2.2.2.2.2.2).mono fun e w' he => ⟨he.1, hbt hS he.2⟩) ?_ ?_
  · (go_simp; try (with_reducible rfl))
  clear hS
  intro w2 hS
  try simp only [Act.put, List.setIfInBounds_toArray, List.set_cons_zero, List.set_cons_succ]
  refine give_val (i := 4) (v := ?_) rfl (by kernel_rfl) (by kernel_rfl) (by kernel_rfl) (fun _ _ _ h => h) (by rfl) (fun u hu => ?_) hS ?_
  rotate_left
  · ((have hT := HW2.out.below hu; obtain ⟨b0, b1, b2⟩ := obj_cells3 hT.2.2.1; obtain ⟨b3, b4, _, _⟩ := obj_cells hT.2.2.2.2.1; obtain ⟨b5, b6, _, _⟩ := obj_cells hT.2.2.2.2.2.2.1; clear hT); go_simp; try (with_reducible rfl))
  try simp only [Act.put, List.setIfInBounds_toArray, List.set_cons_zero, List.set_cons_succ]
  refine give_val (i := 5) (v := ?_) rfl (by kernel_rfl) (by kernel_rfl) (by kernel_rfl) (fun _ _ _ h => h) (by rfl) (fun u hu => ?_) hS ?_
  rotate_left
  · ((have hT := HW2.out.below hu; obtain ⟨b0, b1, b2⟩ := obj_cells3 hT.2.2.1; obtain ⟨b3, b4, _, _⟩ := obj_cells hT.2.2.2.2.1; obtain ⟨b5, b6, _, _⟩ := obj_cells hT.2.2.2.2.2.2.1; clear hT); go_simp; try (with_reducible rfl))
  try simp only [Act.put, List.setIfInBounds_toArray, List.set_cons_zero, List.set_cons_succ]
  refine give_val (i := 6) (v := ?_) rfl (by kernel_rfl) (by kernel_rfl) (by kernel_rfl) (fun _ _ _ h => h) (by rfl) (fun u hu => ?_) hS ?_
  rotate_left
  · ((have hT := HW2.out.below hu; obtain ⟨b0, b1, b2⟩ := obj_cells3 hT.2.2.1; obtain ⟨b3, b4, _, _⟩ := obj_cells hT.2.2.2.2.1; obtain ⟨b5, b6, _, _⟩ := obj_cells hT.2.2.2.2.2.2.1; clear hT); go_simp; try (with_reducible rfl))
  try simp only [Act.put, List.setIfInBounds_toArray, List.set_cons_zero, List.set_cons_succ]
  refine give_val (i := 7) (v := ?_) rfl (by kernel_rfl) (by kernel_rfl) (by kernel_rfl) (fun _ _ _ h => h) (by rfl) (fun u hu => ?_) hS ?_
  rotate_left
  · ((have hT := HW2.out.below hu; obtain ⟨b0, b1, b2⟩ := obj_cells3 hT.2.2.1; obtain ⟨b3, b4, _, _⟩ := obj_cells hT.2.2.2.2.1; obtain ⟨b5, b6, _, _⟩ := obj_cells hT.2.2.2.2.2.2.1; clear hT); go_simp; try (with_reducible rfl))
  try simp only [Act.put, List.setIfInBounds_toArray, List.set_cons_zero, List.set_cons_succ]
  refine give_val (i := 9) (v := ?_) rfl (by kernel_rfl) (by kernel_rfl) (by kernel_rfl) (fun _ _ _ h => h) (by rfl) (fun u hu => ?_) hS ?_
  rotate_left
  · ((have hT := HW2.out.below hu; obtain ⟨b0, b1, b2⟩ := obj_cells3 hT.2.2.1; obtain ⟨b3, b4, _, _⟩ := obj_cells hT.2.2.2.2.1; obtain ⟨b5, b6, _, _⟩ := obj_cells hT.2.2.2.2.2.2.1; clear hT); go_simp; try (with_reducible rfl))
  try simp only [Act.put, List.setIfInBounds_toArray, List.set_cons_zero, List.set_cons_succ]
  refine only_call (i := 8) 10 #[.agg #[.int .i64 1, .int .i64 0, .slice A 2 2], .agg #[.string mt1, .slice none 0 0]] rfl (by kernel_rfl) (by rfl) ((maw_chk2 A _ (HW2.out.below hS).2.1 (HW2.out.below hS).2.2.2.1).mono fun e w' he => ⟨he.1, hbt hS he.2⟩) ?_ ?_
  · (go_simp; try (with_reducible rfl))
  clear hS
  intro w8 hS
  try simp only [Act.put, List.setIfInBounds_toArray, List.set_cons_zero, List.set_cons_succ]
  refine give_val (i := 10) (v := ?_) rfl (by kernel_rfl) (by kernel_rfl) (by kernel_rfl) (fun _ _ _ h => h) (by rfl) (fun u hu => ?_) hS ?_
  rotate_left
  · ((have hT := HW2.out.below hu; obtain ⟨b0, b1, b2⟩ := obj_cells3 hT.2.2.1; obtain ⟨b3, b4, _, _⟩ := obj_cells hT.2.2.2.2.1; obtain ⟨b5, b6, _, _⟩ := obj_cells hT.2.2.2.2.2.2.1; clear hT); go_simp; try (with_reducible rfl))
  try simp only [Act.put, List.setIfInBounds_toArray, List.set_cons_zero, List.set_cons_succ]
  refine give_val (i := 11) (v := ?_) rfl (by kernel_rfl) (by kernel_rfl) (by kernel_rfl) (fun _ _ _ h => h) (by rfl) (fun u hu => ?_) hS ?_
  rotate_left
  · ((have hT := HW2.out.below hu; obtain ⟨b0, b1, b2⟩ := obj_cells3 hT.2.2.1; obtain ⟨b3, b4, _, _⟩ := obj_cells hT.2.2.2.2.1; obtain ⟨b5, b6, _, _⟩ := obj_cells hT.2.2.2.2.2.2.1; clear hT); go_simp; try (with_reducible rfl))
  try simp only [Act.put, List.setIfInBounds_toArray, List.set_cons_zero, List.set_cons_succ]
  refine give_val (i := 12) (v := ?_) rfl (by kernel_rfl) (by kernel_rfl) (by kernel_rfl) (fun _ _ _ h => h) (by rfl) (fun u hu => ?_) hS ?_
  rotate_left
  · ((have hT := HW2.out.below hu; obtain ⟨b0, b1, b2⟩ := obj_cells3 hT.2.2.1; obtain ⟨b3, b4, _, _⟩ := obj_cells hT.2.2.2.2.1; obtain ⟨b5, b6, _, _⟩ := obj_cells hT.2.2.2.2.2.2.1; clear hT); go_simp; try (with_reducible rfl))
  try simp only [Act.put, List.setIfInBounds_toArray, List.set_cons_zero, List.set_cons_succ]
  refine give_val (i := 13) (v := ?_) rfl (by kernel_rfl) (by kernel_rfl) (by kernel_rfl) (fun _ _ _ h => h) (by rfl) (fun u hu => ?_) hS ?_
  rotate_left
  · ((have hT := HW2.out.below hu; obtain ⟨b0, b1, b2⟩ := obj_cells3 hT.2.2.1; obtain ⟨b3, b4, _, _⟩ := obj_cells hT.2.2.2.2.1; obtain ⟨b5, b6, _, _⟩ := obj_cells hT.2.2.2.2.2.2.1; clear hT); go_simp; try (with_reducible rfl))
  try simp only [Act.put, List.setIfInBounds_toArray, List.set_cons_zero, List.set_cons_succ]
  refine give_val (i := 14) (v := ?_) rfl (by kernel_rfl) (by kernel_rfl) (by kernel_rfl) (fun _ _ _ h => h) (by rfl) (fun u hu => ?_) hS ?_
  rotate_left
  · ((have hT := HW2.out.below hu; obtain ⟨b0, b1, b2⟩ := obj_cells3 hT.2.2.1; obtain ⟨b3, b4, _, _⟩ := obj_cells hT.2.2.2.2.1; obtain ⟨b5, b6, _, _⟩ := obj_cells hT.2.2.2.2.2.2.1; clear hT); go_simp; try (with_reducible rfl))
  try simp only [Act.put, List.setIfInBounds_toArray, List.set_cons_zero, List.set_cons_succ]
  refine give_val (i := 15) (v := ?_) rfl (by kernel_rfl) (by kernel_rfl) (by kernel_rfl) (fun _ _ _ h => h) (by rfl) (fun u hu => ?_) hS ?_
  rotate_left
  · ((have hT := HW2.out.below hu; obtain ⟨b0, b1, b2⟩ := obj_cells3 hT.2.2.1; obtain ⟨b3, b4, _, _⟩ := obj_cells hT.2.2.2.2.1; obtain ⟨b5, b6, _, _⟩ := obj_cells hT.2.2.2.2.2.2.1; clear hT); go_simp; try (with_reducible rfl))
  try simp only [Act.put, List.setIfInBounds_toArray, List.set_cons_zero, List.set_cons_succ]
  refine give_val (i := 19) (v := ?_) rfl (by kernel_rfl) (by kernel_rfl) (by kernel_rfl) (fun _ _ _ h => h) (by rfl) (fun u hu => ?_) hS ?_
  rotate_left
  · ((have hT := HW2.out.below hu; obtain ⟨b0, b1, b2⟩ := obj_cells3 hT.2.2.1; obtain ⟨b3, b4, _, _⟩ := obj_cells hT.2.2.2.2.1; obtain ⟨b5, b6, _, _⟩ := obj_cells hT.2.2.2.2.2.2.1; clear hT); go_simp; try (with_reducible rfl))
  try simp only [Act.put, List.setIfInBounds_toArray, List.set_cons_zero, List.set_cons_succ]
  refine only (i := 16) rfl (by kernel_rfl) (by rfl) (fun K hK => ?_)
  go_simp
  have HX16 := Lib.hid (heap_alloc_new w8 (.cells #[.int .i64 4, .string mtA, .int .i64 2, .string mtE] 50))
  have hS16 := hbt hS (below_al w8 (.cells #[.int .i64 4, .string mtA, .int .i64 2, .string mtE] 50))
  refine hK.out _ _ hS16 ?_
  clear hK
  try simp only [Act.put, List.setIfInBounds_toArray, List.set_cons_zero, List.set_cons_succ]
  clear hS
  have hS := hS16
  refine give_val (i := 17) (v := ?_) rfl (by kernel_rfl) (by kernel_rfl) (by kernel_rfl) (fun _ _ _ h => h) (by rfl) (fun u hu => ?_) hS ?_
  rotate_left
  · ((have hT := HW2.out.below hu; obtain ⟨b0, b1, b2⟩ := obj_cells3 hT.2.2.1; obtain ⟨b3, b4, _, _⟩ := obj_cells hT.2.2.2.2.1; obtain ⟨b5, b6, _, _⟩ := obj_cells hT.2.2.2.2.2.2.1; clear hT); go_simp; try (with_reducible rfl))
  try simp only [Act.put, List.setIfInBounds_toArray, List.set_cons_zero, List.set_cons_succ]
  refine only_call (i := 18) 10 #[.agg #[.int .i64 1, .int .i64 0, .slice A 2 2], .agg #[.string mt0, .slice (some ⟨w8.heap.size, 0, none⟩) 2 2]] rfl (by kernel_rfl) (by rfl) ((maw_chk3 A _ _ (HW2.out.below hS).2.1 (HW2.out.below hS).2.2.2.1 HX16.out).mono fun e w' he => ⟨he.1, hbt hS he.2⟩) ?_ ?_
  · (go_simp; try (with_reducible rfl))
  clear hS
  intro w18 hS
  try simp only [Act.put, List.setIfInBounds_toArray, List.set_cons_zero, List.set_cons_succ]
  refine give_val (i := 20) (v := ?_) rfl (by kernel_rfl) (by kernel_rfl) (by kernel_rfl) (fun _ _ _ h => h) (by rfl) (fun u hu => ?_) hS ?_
  rotate_left
  · ((have hT := HW2.out.below hu; obtain ⟨b0, b1, b2⟩ := obj_cells3 hT.2.2.1; obtain ⟨b3, b4, _, _⟩ := obj_cells hT.2.2.2.2.1; obtain ⟨b5, b6, _, _⟩ := obj_cells hT.2.2.2.2.2.2.1; clear hT); go_simp; try (with_reducible rfl))
  try simp only [Act.put, List.setIfInBounds_toArray, List.set_cons_zero, List.set_cons_succ]
  refine give_val (i := 21) (v := ?_) rfl (by kernel_rfl) (by kernel_rfl) (by kernel_rfl) (fun _ _ _ h => h) (by rfl) (fun u hu => ?_) hS ?_
  rotate_left
  · ((have hT := HW2.out.below hu; obtain ⟨b0, b1, b2⟩ := obj_cells3 hT.2.2.1; obtain ⟨b3, b4, _, _⟩ := obj_cells hT.2.2.2.2.1; obtain ⟨b5, b6, _, _⟩ := obj_cells hT.2.2.2.2.2.2.1; clear hT); go_simp; try (with_reducible rfl))
  try simp only [Act.put, List.setIfInBounds_toArray, List.set_cons_zero, List.set_cons_succ]
  refine give_val (i := 22) (v := ?_) rfl (by kernel_rfl) (by kernel_rfl) (by kernel_rfl) (fun _ _ _ h => h) (by rfl) (fun u hu => ?_) hS ?_
  rotate_left
  · ((have hT := HW2.out.below hu; obtain ⟨b0, b1, b2⟩ := obj_cells3 hT.2.2.1; obtain ⟨b3, b4, _, _⟩ := obj_cells hT.2.2.2.2.1; obtain ⟨b5, b6, _, _⟩ := obj_cells hT.2.2.2.2.2.2.1; clear hT); go_simp; try (with_reducible rfl))
  try simp only [Act.put, List.setIfInBounds_toArray, List.set_cons_zero, List.set_cons_succ]
  refine give_val (i := 23) (v := ?_) rfl (by kernel_rfl) (by kernel_rfl) (by kernel_rfl) (fun _ _ _ h => h) (by rfl) (fun u hu => ?_) hS ?_
  rotate_left
  · ((have hT := HW2.out.below hu; obtain ⟨b0, b1, b2⟩ := obj_cells3 hT.2.2.1; obtain ⟨b3, b4, _, _⟩ := obj_cells hT.2.2.2.2.1; obtain ⟨b5, b6, _, _⟩ := obj_cells hT.2.2.2.2.2.2.1; clear hT); go_simp; try (with_reducible rfl))
  try simp only [Act.put, List.setIfInBounds_toArray, List.set_cons_zero, List.set_cons_succ]
  refine give_val (i := 24) (v := ?_) rfl (by kernel_rfl) (by kernel_rfl) (by kernel_rfl) (fun _ _ _ h => h) (by rfl) (fun u hu => ?_) hS ?_
  rotate_left
  · ((have hT := HW2.out.below hu; obtain ⟨b0, b1, b2⟩ := obj_cells3 hT.2.2.1; obtain ⟨b3, b4, _, _⟩ := obj_cells hT.2.2.2.2.1; obtain ⟨b5, b6, _, _⟩ := obj_cells hT.2.2.2.2.2.2.1; clear hT); go_simp; try (with_reducible rfl))
  try simp only [Act.put, List.setIfInBounds_toArray, List.set_cons_zero, List.set_cons_succ]
  refine give_val (i := 25) (v := ?_) rfl (by kernel_rfl) (by kernel_rfl) (by kernel_rfl) (fun _ _ _ h => h) (by rfl) (fun u hu => ?_) hS ?_
  rotate_left
  · ((have hT := HW2.out.below hu; obtain ⟨b0, b1, b2⟩ := obj_cells3 hT.2.2.1; obtain ⟨b3, b4, _, _⟩ := obj_cells hT.2.2.2.2.1; obtain ⟨b5, b6, _, _⟩ := obj_cells hT.2.2.2.2.2.2.1; clear hT); go_simp; try (with_reducible rfl))
  try simp only [Act.put, List.setIfInBounds_toArray, List.set_cons_zero, List.set_cons_succ]
  refine give_val (i := 26) (v := ?_) rfl (by kernel_rfl) (by kernel_rfl) (by kernel_rfl) (fun _ _ _ h => h) (by rfl) (fun u hu => ?_) hS ?_
  rotate_left
  · ((have hT := HW2.out.below hu; obtain ⟨b0, b1, b2⟩ := obj_cells3 hT.2.2.1; obtain ⟨b3, b4, _, _⟩ := obj_cells hT.2.2.2.2.1; obtain ⟨b5, b6, _, _⟩ := obj_cells hT.2.2.2.2.2.2.1; clear hT); go_simp; try (with_reducible rfl))
  try simp only [Act.put, List.setIfInBounds_toArray, List.set_cons_zero, List.set_cons_succ]
  refine give_val (i := 27) (v := ?_) rfl (by kernel_rfl) (by kernel_rfl) (by kernel_rfl) (fun _ _ _ h => h) (by rfl) (fun u hu => ?_) hS ?_
  rotate_left
  · ((have hT := HW2.out.below hu; obtain ⟨b0, b1, b2⟩ := obj_cells3 hT.2.2.1; obtain ⟨b3, b4, _, _⟩ := obj_cells hT.2.2.2.2.1; obtain ⟨b5, b6, _, _⟩ := obj_cells hT.2.2.2.2.2.2.1; clear hT); go_simp; try (with_reducible rfl))
  try simp only [Act.put, List.setIfInBounds_toArray, List.set_cons_zero, List.set_cons_succ]
  refine give_val (i := 28) (v := ?_) rfl (by kernel_rfl) (by kernel_rfl) (by kernel_rfl) (fun _ _ _ h => h) (by rfl) (fun u hu => ?_) hS ?_
  rotate_left
  · ((have hT := HW2.out.below hu; obtain ⟨b0, b1, b2⟩ := obj_cells3 hT.2.2.1; obtain ⟨b3, b4, _, _⟩ := obj_cells hT.2.2.2.2.1; obtain ⟨b5, b6, _, _⟩ := obj_cells hT.2.2.2.2.2.2.1; clear hT); go_simp; try (with_reducible rfl))
  try simp only [Act.put, List.setIfInBounds_toArray, List.set_cons_zero, List.set_cons_succ]
  refine give_val (i := 29) (v := ?_) rfl (by kernel_rfl) (by kernel_rfl) (by kernel_rfl) (fun _ _ _ h => h) (by rfl) (fun u hu => ?_) hS ?_
  rotate_left
  · ((have hT := HW2.out.below hu; obtain ⟨b0, b1, b2⟩ := obj_cells3 hT.2.2.1; obtain ⟨b3, b4, _, _⟩ := obj_cells hT.2.2.2.2.1; obtain ⟨b5, b6, _, _⟩ := obj_cells hT.2.2.2.2.2.2.1; clear hT); go_simp; try (with_reducible rfl))
  try simp only [Act.put, List.setIfInBounds_toArray, List.set_cons_zero, List.set_cons_succ]
  refine give_val (i := 30) (v := ?_) rfl (by kernel_rfl) (by kernel_rfl) (by kernel_rfl) (fun _ _ _ h => h) (by rfl) (fun u hu => ?_) hS ?_
  rotate_left
  · ((have hT := HW2.out.below hu; obtain ⟨b0, b1, b2⟩ := obj_cells3 hT.2.2.1; obtain ⟨b3, b4, _, _⟩ := obj_cells hT.2.2.2.2.1; obtain ⟨b5, b6, _, _⟩ := obj_cells hT.2.2.2.2.2.2.1; clear hT); go_simp; try (with_reducible rfl))
  try simp only [Act.put, List.setIfInBounds_toArray, List.set_cons_zero, List.set_cons_succ]
  refine give_val (i := 32) (v := ?_) rfl (by kernel_rfl) (by kernel_rfl) (by kernel_rfl) (fun _ _ _ h => h) (by rfl) (fun u hu => ?_) hS ?_
  rotate_left
  · ((have hT := HW2.out.below hu; obtain ⟨b0, b1, b2⟩ := obj_cells3 hT.2.2.1; obtain ⟨b3, b4, _, _⟩ := obj_cells hT.2.2.2.2.1; obtain ⟨b5, b6, _, _⟩ := obj_cells hT.2.2.2.2.2.2.1; clear hT); go_simp; try (with_reducible rfl))
  try simp only [Act.put, List.setIfInBounds_toArray, List.set_cons_zero, List.set_cons_succ]
  refine only_some (i := 31) 21 #[.agg #[.string mt0, .slice C 2 c], .int .i64 2] rfl (by kernel_rfl) (by rfl) ((maw_without C c _ (HW2.out.below hS).2.2.2.2.2.2.2)) ?_ ?_
  · (go_simp; try (with_reducible rfl))
  intro v31 w31 hT
  obtain ⟨A31, c31, rfl, ht31, hb⟩ := hT
  have hS' := hbt hS hb
  refine ⟨hS', ?_⟩
  clear hS
  have hS := hS'; clear hS'
  try simp only [Act.put, List.setIfInBounds_toArray, List.set_cons_zero, List.set_cons_succ]
  refine only_call (i := 33) 25 #[.agg #[.string mt0, .slice A31 1 c31], .agg #[.string mt0, .slice B 1 1]] rfl (by kernel_rfl) (by rfl) ((maw_same A31 B c31 1 _ ht31 (HW2.out.below hS).2.2.2.2.2.1).mono fun e w' he => ⟨he.1, hbt hS he.2⟩) ?_ ?_
  · (go_simp; try (with_reducible rfl))
  clear hS
  intro w33 hS
  try simp only [Act.put, List.setIfInBounds_toArray, List.set_cons_zero, List.set_cons_succ]
  refine give_val (i := 34) (v := ?_) rfl (by kernel_rfl) (by kernel_rfl) (by kernel_rfl) (fun _ _ _ h => h) (by rfl) (fun u hu => ?_) hS ?_
  rotate_left
  · ((have hT := HW2.out.below hu; obtain ⟨b0, b1, b2⟩ := obj_cells3 hT.2.2.1; obtain ⟨b3, b4, _, _⟩ := obj_cells hT.2.2.2.2.1; obtain ⟨b5, b6, _, _⟩ := obj_cells hT.2.2.2.2.2.2.1; clear hT); go_simp; try (with_reducible rfl))
  try simp only [Act.put, List.setIfInBounds_toArray, List.set_cons_zero, List.set_cons_succ]
  refine give_val (i := 35) (v := ?_) rfl (by kernel_rfl) (by kernel_rfl) (by kernel_rfl) (fun _ _ _ h => h) (by rfl) (fun u hu => ?_) hS ?_
  rotate_left
  · ((have hT := HW2.out.below hu; obtain ⟨b0, b1, b2⟩ := obj_cells3 hT.2.2.1; obtain ⟨b3, b4, _, _⟩ := obj_cells hT.2.2.2.2.1; obtain ⟨b5, b6, _, _⟩ := obj_cells hT.2.2.2.2.2.2.1; clear hT); go_simp; try (with_reducible rfl))
  try simp only [Act.put, List.setIfInBounds_toArray, List.set_cons_zero, List.set_cons_succ]
  refine give_val (i := 36) (v := ?_) rfl (by kernel_rfl) (by kernel_rfl) (by kernel_rfl) (fun _ _ _ h => h) (by rfl) (fun u hu => ?_) hS ?_
  rotate_left
  · ((have hT := HW2.out.below hu; obtain ⟨b0, b1, b2⟩ := obj_cells3 hT.2.2.1; obtain ⟨b3, b4, _, _⟩ := obj_cells hT.2.2.2.2.1; obtain ⟨b5, b6, _, _⟩ := obj_cells hT.2.2.2.2.2.2.1; clear hT); go_simp; try (with_reducible rfl))
  try simp only [Act.put, List.setIfInBounds_toArray, List.set_cons_zero, List.set_cons_succ]
  refine wpAnyH_ready (rs := [37, 38]) (by kernel_rfl) (by simp) (arm_call (i := 37) 18 #[.agg #[.string mt0, .slice C 2 c]] rfl (by rfl) (maw_set C c _ (HW2.out.below hS).2.2.2.2.2.2.2) ?_ ?_ (arm_slice (i := 38) (.cells #[.int .i64 2, .int .i64 4] 3) 2 rfl (by rfl) ?_ ?_ AllReadyH.nil))
  · (go_simp; try (with_reducible rfl))
  · intro u' hb
    have hS' : (fun u => Below x2.heap.size x2 u) u' := hbt hS hb
    refine ⟨hS', ?_⟩
    clear hS hb
    have hS := hS'; clear hS'
    rename World => u
    try simp only [Act.put, List.setIfInBounds_toArray, List.set_cons_zero, List.set_cons_succ]
    refine wpAnyH_ready (rs := [38]) (by kernel_rfl) (by simp) (arm_slice (i := 38) (.cells #[.int .i64 2, .int .i64 4] 3) 2 rfl (by rfl) ?_ ?_ AllReadyH.nil)
    · (go_simp; try (with_reducible rfl))
    · intro p38 u' hb ho38 hp38
      replace hp38 := Nat.le_trans (hS.size) hp38
      have hS' : (fun u => Below x2.heap.size x2 u) u' := hbt hS hb
      refine ⟨hS', ?_⟩
      clear hS hb
      have hS := hS'; clear hS'
      rename World => u
      try simp only [Act.put, List.setIfInBounds_toArray, List.set_cons_zero, List.set_cons_succ]
      refine only_call (i := 39) 26 #[.slice (some ⟨p38, 0, none⟩) 2 2] rfl (by kernel_rfl) (by rfl) ((maw_of _ _ ho38).mono fun e w' he => ⟨he.1, hbt hS he.2⟩) ?_ ?_
      · (go_simp; try (with_reducible rfl))
      clear hS
      intro w39 hS
      try simp only [Act.put, List.setIfInBounds_toArray, List.set_cons_zero, List.set_cons_succ]
      refine give_val (i := 40) (v := ?_) rfl (by kernel_rfl) (by kernel_rfl) (by kernel_rfl) (fun _ _ _ h => h) (by rfl) (fun u hu => ?_) hS ?_
      rotate_left
      · ((have hT := HW2.out.below hu; obtain ⟨b0, b1, b2⟩ := obj_cells3 hT.2.2.1; obtain ⟨b3, b4, _, _⟩ := obj_cells hT.2.2.2.2.1; obtain ⟨b5, b6, _, _⟩ := obj_cells hT.2.2.2.2.2.2.1; clear hT); go_simp; try (with_reducible rfl))
      try simp only [Act.put, List.setIfInBounds_toArray, List.set_cons_zero, List.set_cons_succ]
      refine give_val (i := 41) (v := ?_) rfl (by kernel_rfl) (by kernel_rfl) (by kernel_rfl) (fun _ _ _ h => h) (by rfl) (fun u hu => ?_) hS ?_
      rotate_left
      · ((have hT := HW2.out.below hu; obtain ⟨b0, b1, b2⟩ := obj_cells3 hT.2.2.1; obtain ⟨b3, b4, _, _⟩ := obj_cells hT.2.2.2.2.1; obtain ⟨b5, b6, _, _⟩ := obj_cells hT.2.2.2.2.2.2.1; clear hT); go_simp; try (with_reducible rfl))
      try simp only [Act.put, List.setIfInBounds_toArray, List.set_cons_zero, List.set_cons_succ]
      refine give_val (i := 42) (v := ?_) rfl (by kernel_rfl) (by kernel_rfl) (by kernel_rfl) (fun _ _ _ h => h) (by rfl) (fun u hu => ?_) hS ?_
      rotate_left
      · (go_simp; try (with_reducible rfl))
      try simp only [Act.put, List.setIfInBounds_toArray, List.set_cons_zero]
      refine wpAnyH_done (by kernel_rfl) (NoPanic.normal ?_) _
      go_wp2
      go_ret
      exact ⟨rfl, hbt HW2.out.1 hS⟩
  · (go_simp; try (with_reducible rfl))
  · intro p38 u' hb ho38 hp38
    replace hp38 := Nat.le_trans (hS.size) hp38
    have hS' : (fun u => Below x2.heap.size x2 u) u' := hbt hS hb
    refine ⟨hS', ?_⟩
    clear hS hb
    have hS := hS'; clear hS'
    rename World => u
    try simp only [Act.put, List.setIfInBounds_toArray, List.set_cons_zero, List.set_cons_succ]
    refine wpAnyH_ready (rs := [37]) (by kernel_rfl) (by simp) (arm_call (i := 37) 18 #[.agg #[.string mt0, .slice C 2 c]] rfl (by rfl) (maw_set C c _ (HW2.out.below hS).2.2.2.2.2.2.2) ?_ ?_ AllReadyH.nil)
    · (go_simp; try (with_reducible rfl))
    · intro u' hb
      have hS' : (fun u => Below x2.heap.size x2 u) u' := hbt hS hb
      refine ⟨hS', ?_⟩
      replace ho38 := obj_below ho38 hb
      clear hS hb
      have hS := hS'; clear hS'
      rename World => u
      try simp only [Act.put, List.setIfInBounds_toArray, List.set_cons_zero, List.set_cons_succ]
      refine only_call (i := 39) 26 #[.slice (some ⟨p38, 0, none⟩) 2 2] rfl (by kernel_rfl) (by rfl) ((maw_of _ _ ho38).mono fun e w' he => ⟨he.1, hbt hS he.2⟩) ?_ ?_
      · (go_simp; try (with_reducible rfl))
      clear hS
      intro w39 hS
      try simp only [Act.put, List.setIfInBounds_toArray, List.set_cons_zero, List.set_cons_succ]
      refine give_val (i := 40) (v := ?_) rfl (by kernel_rfl) (by kernel_rfl) (by kernel_rfl) (fun _ _ _ h => h) (by rfl) (fun u hu => ?_) hS ?_
      rotate_left
      · ((have hT := HW2.out.below hu; obtain ⟨b0, b1, b2⟩ := obj_cells3 hT.2.2.1; obtain ⟨b3, b4, _, _⟩ := obj_cells hT.2.2.2.2.1; obtain ⟨b5, b6, _, _⟩ := obj_cells hT.2.2.2.2.2.2.1; clear hT); go_simp; try (with_reducible rfl))
      try simp only [Act.put, List.setIfInBounds_toArray, List.set_cons_zero, List.set_cons_succ]
      refine give_val (i := 41) (v := ?_) rfl (by kernel_rfl) (by kernel_rfl) (by kernel_rfl) (fun _ _ _ h => h) (by rfl) (fun u hu => ?_) hS ?_
      rotate_left
      · ((have hT := HW2.out.below hu; obtain ⟨b0, b1, b2⟩ := obj_cells3 hT.2.2.1; obtain ⟨b3, b4, _, _⟩ := obj_cells hT.2.2.2.2.1; obtain ⟨b5, b6, _, _⟩ := obj_cells hT.2.2.2.2.2.2.1; clear hT); go_simp; try (with_reducible rfl))
      try simp only [Act.put, List.setIfInBounds_toArray, List.set_cons_zero, List.set_cons_succ]
      refine give_val (i := 42) (v := ?_) rfl (by kernel_rfl) (by kernel_rfl) (by kernel_rfl) (fun _ _ _ h => h) (by rfl) (fun u hu => ?_) hS ?_
      rotate_left
      · (go_simp; try (with_reducible rfl))
      try simp only [Act.put, List.setIfInBounds_toArray, List.set_cons_zero]
      refine wpAnyH_done (by kernel_rfl) (NoPanic.normal ?_) _
      go_wp2
      go_ret
      exact ⟨rfl, hbt HW2.out.1 hS⟩

end Go.Proofs.YthcdolkpdbbnkaaDoor
