/-
  What Get answers: for every style, spec, text and place.
-/
import Derived.Test.YtjmpjdefafkldaaDoorCelSmall
import Derived.Test.YtjmpjdefafkldaaDoorPackSpc
import Derived.Test.YtjmpjdefafkldaaDoorPackBase
namespace Go.Proofs.YtjmpjdefafkldaaDoor
open Go.RowKit

set_option linter.unusedVariables false in
set_option maxHeartbeats 1600000 in
theorem cgw_style (st n c f lo hi p : Int) (s : ByteArray) (w : World) (h : st ≠ 1 ∧ st ≠ 2) :
    Calls Tryd.prog 11 #[.int .i64 st, .agg #[.int .i64 n, .int .i64 c, .int .i64 f, .int .i64 lo, .int .i64 hi], .string s, .int .i64 p] w fun e w' => e = .returned (.tuple #[.string ⟨#[]⟩, .int .i64 0, .int .i64 1]) ∧ Below w.heap.size w w' := by
  have HK := Lib.hid (cknown_no st h)
  clear h
  go_enter Tryd.func11, Tryd.ntmps11
  go_wp2_with fail
  refine (HK.out _).mono ?_
  rintro e w1 ⟨rfl, rfl⟩
  go_wp2
  go_ret3
  exact ⟨rfl, below_al _ _⟩
set_option linter.unusedVariables false in
set_option maxHeartbeats 1600000 in
theorem cgw_check (st n c f lo hi p : Int) (s : ByteArray) (w : World) (hst : st = 1 ∨ st = 2) (h : spk n c f lo hi ≠ 0) :
    Calls Tryd.prog 11 #[.int .i64 st, .agg #[.int .i64 n, .int .i64 c, .int .i64 f, .int .i64 lo, .int .i64 hi], .string s, .int .i64 p] w fun e w' => e = .returned (.tuple #[.string ⟨#[]⟩, .int .i64 0, .int .i64 1]) ∧ Below w.heap.size w w' := by
  have HK := Lib.hid (cknown_yes st hst)
  have HC := Lib.hid (fun W => spcheck_any n c f lo hi W)
  generalize spk n c f lo hi = x at *
  have t1 : (x != 0) = true := by simpa using h
  clear h hst
  go_enter Tryd.func11, Tryd.ntmps11
  go_wp2_with fail
  refine (HK.out _).mono ?_
  rintro e w0 ⟨rfl, rfl⟩
  go_wp2_with fail
  refine (HC.out _).mono ?_
  rintro e w1 ⟨rfl, hb1⟩
  have HB1 := Lib.hid (hbt (below_al _ _) hb1)
  have HO1 := Lib.hid (spec_at hb1)
  obtain ⟨c0, c1, c2, c3, c4⟩ := obj_cells5 HO1.out
  clear hb1
  go_wp2
  go_ret3
  exact ⟨rfl, HB1.out⟩
set_option linter.unusedVariables false in
set_option maxHeartbeats 1600000 in
theorem cgw_low (st n c f lo hi p : Int) (s : ByteArray) (w : World) (hst : st = 1 ∨ st = 2) (hk : spk n c f lo hi = 0) (h : p < 0) :
    Calls Tryd.prog 11 #[.int .i64 st, .agg #[.int .i64 n, .int .i64 c, .int .i64 f, .int .i64 lo, .int .i64 hi], .string s, .int .i64 p] w fun e w' => e = .returned (.tuple #[.string ⟨#[]⟩, .int .i64 0, .int .i64 1]) ∧ Below w.heap.size w w' := by
  have HK := Lib.hid (cknown_yes st hst)
  have HC := Lib.hid (fun W => spcheck_any n c f lo hi W)
  rw [hk] at HC
  have t1 : decide (p < 0) = true := by simpa using h
  clear h hst hk
  go_enter Tryd.func11, Tryd.ntmps11
  go_wp2_with fail
  refine (HK.out _).mono ?_
  rintro e w0 ⟨rfl, rfl⟩
  go_wp2_with fail
  refine (HC.out _).mono ?_
  rintro e w1 ⟨rfl, hb1⟩
  have HB1 := Lib.hid (hbt (below_al _ _) hb1)
  have HO1 := Lib.hid (spec_at hb1)
  obtain ⟨c0, c1, c2, c3, c4⟩ := obj_cells5 HO1.out
  clear hb1
  go_wp2
  go_ret3
  exact ⟨rfl, HB1.out⟩
set_option linter.unusedVariables false in
set_option maxHeartbeats 1600000 in
theorem cgw_high (st n c f lo hi p : Int) (s : ByteArray) (w : World) (hst : st = 1 ∨ st = 2) (hk : spk n c f lo hi = 0) (h : (s.size : Int) < p) :
    Calls Tryd.prog 11 #[.int .i64 st, .agg #[.int .i64 n, .int .i64 c, .int .i64 f, .int .i64 lo, .int .i64 hi], .string s, .int .i64 p] w fun e w' => e = .returned (.tuple #[.string ⟨#[]⟩, .int .i64 0, .int .i64 1]) ∧ Below w.heap.size w w' := by
  have HK := Lib.hid (cknown_yes st hst)
  have HC := Lib.hid (fun W => spcheck_any n c f lo hi W)
  rw [hk] at HC
  have t1 : decide (p < 0) = false := by simp; omega
  have t2 : decide ((s.size : Int) < p) = true := by simpa using h
  clear h hst hk
  go_enter Tryd.func11, Tryd.ntmps11
  go_wp2_with fail
  refine (HK.out _).mono ?_
  rintro e w0 ⟨rfl, rfl⟩
  go_wp2_with fail
  refine (HC.out _).mono ?_
  rintro e w1 ⟨rfl, hb1⟩
  have HB1 := Lib.hid (hbt (below_al _ _) hb1)
  have HO1 := Lib.hid (spec_at hb1)
  obtain ⟨c0, c1, c2, c3, c4⟩ := obj_cells5 HO1.out
  clear hb1
  go_wp2
  go_ret3
  exact ⟨rfl, HB1.out⟩
set_option linter.unusedVariables false in
set_option maxHeartbeats 1600000 in
theorem cgw_len (st n c f lo hi : Int) (p : Nat) (s : ByteArray) (w : World) (hst : st = 1 ∨ st = 2) (hk : spk n c f lo hi = 0) (hs : s.size ≤ 1000000) (hp : p ≤ s.size) (a q x : Nat) (hx : x ≠ 0)
    (hl : ∀ W, Calls Tryd.prog 21 #[.int .i64 st, .agg #[.int .i64 n, .int .i64 c, .int .i64 f, .int .i64 lo, .int .i64 hi], .string s, .int .i64 (p : Int)] W fun e w' => e = .returned (.tuple #[.int .i64 (a : Int), .int .i64 (q : Int), .int .i64 (x : Int)]) ∧ Below W.heap.size W w') :
    Calls Tryd.prog 11 #[.int .i64 st, .agg #[.int .i64 n, .int .i64 c, .int .i64 f, .int .i64 lo, .int .i64 hi], .string s, .int .i64 (p : Int)] w fun e w' => e = .returned (.tuple #[.string ⟨#[]⟩, .int .i64 0, .int .i64 (x : Int)]) ∧ Below w.heap.size w w' := by
  have HK := Lib.hid (cknown_yes st hst)
  have HC := Lib.hid (fun W => spcheck_any n c f lo hi W)
  rw [hk] at HC
  have t1 : decide ((p : Int) < 0) = false := by simp
  have t2 : decide (s.size < p) = false := by simp; omega
  have t3 : ((x : Int) != 0) = true := by simpa using hx
  have HL := Lib.hid hl
  clear hl hst hk hx hp
  go_enter Tryd.func11, Tryd.ntmps11
  go_wp2_with fail
  refine (HK.out _).mono ?_
  rintro e w0 ⟨rfl, rfl⟩
  go_wp2_with fail
  refine (HC.out _).mono ?_
  rintro e w1 ⟨rfl, hb1⟩
  have HB1 := Lib.hid (hbt (below_al _ _) hb1)
  have HO1 := Lib.hid (spec_at hb1)
  obtain ⟨c0, c1, c2, c3, c4⟩ := obj_cells5 HO1.out
  clear hb1
  go_wp2_with fail
  refine (HL.out _).mono ?_
  rintro e w2 ⟨rfl, hb2⟩
  have HB2 := Lib.hid (hbt HB1.out hb2)
  have HO2 := Lib.hid (obj_below HO1.out hb2)
  clear hb2 c0 c1 c2 c3 c4
  obtain ⟨c0, c1, c2, c3, c4⟩ := obj_cells5 HO2.out
  go_wp2
  go_ret3
  exact ⟨rfl, HB2.out⟩
set_option linter.unusedVariables false in
set_option maxHeartbeats 1600000 in
theorem cgw_cut (st n c f lo hi : Int) (p : Nat) (s : ByteArray) (w : World) (hst : st = 1 ∨ st = 2) (hk : spk n c f lo hi = 0) (hs : s.size ≤ 1000000) (hp : p ≤ s.size) (a q z : Nat) (hq : q ≤ 1000000) (hzb : z ≤ 2000) (h : s.size < q + z)
    (hl : ∀ W, Calls Tryd.prog 21 #[.int .i64 st, .agg #[.int .i64 n, .int .i64 c, .int .i64 f, .int .i64 lo, .int .i64 hi], .string s, .int .i64 (p : Int)] W fun e w' => e = .returned (.tuple #[.int .i64 (a : Int), .int .i64 (q : Int), .int .i64 0]) ∧ Below W.heap.size W w')
    (hz : ∀ W, Calls Tryd.prog 22 #[.int .i64 st, .int .i64 c, .int .i64 (a : Int)] W fun e w' => e = .returned (.int .i64 (z : Int)) ∧ W = w') :
    Calls Tryd.prog 11 #[.int .i64 st, .agg #[.int .i64 n, .int .i64 c, .int .i64 f, .int .i64 lo, .int .i64 hi], .string s, .int .i64 (p : Int)] w fun e w' => e = .returned (.tuple #[.string ⟨#[]⟩, .int .i64 0, .int .i64 2]) ∧ Below w.heap.size w w' := by
  have HK := Lib.hid (cknown_yes st hst)
  have HC := Lib.hid (fun W => spcheck_any n c f lo hi W)
  rw [hk] at HC
  have t1 : decide ((p : Int) < 0) = false := by simp
  have t2 : decide (s.size < p) = false := by simp; omega
  have HL := Lib.hid hl
  have HZ := Lib.hid hz
  clear hl hz hst hk hp
  go_enter Tryd.func11, Tryd.ntmps11
  go_wp2_with fail
  refine (HK.out _).mono ?_
  rintro e w0 ⟨rfl, rfl⟩
  go_wp2_with fail
  refine (HC.out _).mono ?_
  rintro e w1 ⟨rfl, hb1⟩
  have HB1 := Lib.hid (hbt (below_al _ _) hb1)
  have HO1 := Lib.hid (spec_at hb1)
  obtain ⟨c0, c1, c2, c3, c4⟩ := obj_cells5 HO1.out
  clear hb1
  go_wp2_with fail
  refine (HL.out _).mono ?_
  rintro e w2 ⟨rfl, hb2⟩
  have HB2 := Lib.hid (hbt HB1.out hb2)
  have HO2 := Lib.hid (obj_below HO1.out hb2)
  clear hb2 c0 c1 c2 c3 c4
  obtain ⟨c0, c1, c2, c3, c4⟩ := obj_cells5 HO2.out
  go_wp2_with fail
  refine (HZ.out _).mono ?_
  rintro e w9 ⟨rfl, rfl⟩
  go_wp2
  go_ret3
  exact ⟨rfl, HB2.out⟩
set_option linter.unusedVariables false in
set_option maxHeartbeats 1600000 in
theorem cgw_read (st n c f lo hi : Int) (p : Nat) (s : ByteArray) (w : World) (hst : st = 1 ∨ st = 2) (hk : spk n c f lo hi = 0) (hs : s.size ≤ 1000000) (hp : p ≤ s.size) (a q z : Nat) (hq : q ≤ 1000000) (hzb : z ≤ 2000) (h : q + z ≤ s.size) (t : ByteArray) (y : Nat) (hy : y ≠ 0)
    (hl : ∀ W, Calls Tryd.prog 21 #[.int .i64 st, .agg #[.int .i64 n, .int .i64 c, .int .i64 f, .int .i64 lo, .int .i64 hi], .string s, .int .i64 (p : Int)] W fun e w' => e = .returned (.tuple #[.int .i64 (a : Int), .int .i64 (q : Int), .int .i64 0]) ∧ Below W.heap.size W w')
    (hz : ∀ W, Calls Tryd.prog 22 #[.int .i64 st, .int .i64 c, .int .i64 (a : Int)] W fun e w' => e = .returned (.int .i64 (z : Int)) ∧ W = w')
    (hr : ∀ W, Calls Tryd.prog 23 #[.int .i64 st, .int .i64 c, .string (s.extract q (q + z)), .int .i64 (a : Int)] W fun e w' => e = .returned (.tuple #[.string t, .int .i64 (y : Int)]) ∧ Below W.heap.size W w') :
    Calls Tryd.prog 11 #[.int .i64 st, .agg #[.int .i64 n, .int .i64 c, .int .i64 f, .int .i64 lo, .int .i64 hi], .string s, .int .i64 (p : Int)] w fun e w' => e = .returned (.tuple #[.string ⟨#[]⟩, .int .i64 0, .int .i64 (y : Int)]) ∧ Below w.heap.size w w' := by
  have HK := Lib.hid (cknown_yes st hst)
  have HC := Lib.hid (fun W => spcheck_any n c f lo hi W)
  rw [hk] at HC
  have t1 : decide ((p : Int) < 0) = false := by simp
  have t2 : decide (s.size < p) = false := by simp; omega
  have t3 : ((y : Int) != 0) = true := by simpa using hy
  have HL := Lib.hid hl
  have HZ := Lib.hid hz
  have HR := Lib.hid hr
  clear hl hz hr hst hk hp hy
  go_enter Tryd.func11, Tryd.ntmps11
  go_wp2_with fail
  refine (HK.out _).mono ?_
  rintro e w0 ⟨rfl, rfl⟩
  go_wp2_with fail
  refine (HC.out _).mono ?_
  rintro e w1 ⟨rfl, hb1⟩
  have HB1 := Lib.hid (hbt (below_al _ _) hb1)
  have HO1 := Lib.hid (spec_at hb1)
  obtain ⟨c0, c1, c2, c3, c4⟩ := obj_cells5 HO1.out
  clear hb1
  go_wp2_with fail
  refine (HL.out _).mono ?_
  rintro e w2 ⟨rfl, hb2⟩
  have HB2 := Lib.hid (hbt HB1.out hb2)
  have HO2 := Lib.hid (obj_below HO1.out hb2)
  clear hb2 c0 c1 c2 c3 c4
  obtain ⟨c0, c1, c2, c3, c4⟩ := obj_cells5 HO2.out
  go_wp2_with fail
  refine (HZ.out _).mono ?_
  rintro e w9 ⟨rfl, rfl⟩
  go_wp2_with fail
  have HS := Lib.hid (show Spec1 w n c f lo hi _ from ⟨HB2.out, HO2.out⟩)
  clear c0 c1 c2 c3 c4
  refine wp_region_noPanic ?_
  refine wp_region_held_drew (S := (Spec1 w n c f lo hi)) (by kernel_rfl) (HS.out.drew) (fun hS => ?_)
  refine give_val (i := 0) (v := ?_) rfl (by kernel_rfl) (by kernel_rfl) (by kernel_rfl) (fun _ _ _ h => h) (by rfl) (fun u hu => ?_) hS ?_
  rotate_left
  · ((obtain ⟨c0, c1, c2, c3, c4⟩ := obj_cells5 hu.2); go_simp; try (with_reducible rfl))
  try simp only [Act.put, List.setIfInBounds_toArray, List.set_cons_zero, List.set_cons_succ]
  refine give_val (i := 1) (v := ?_) rfl (by kernel_rfl) (by kernel_rfl) (by kernel_rfl) (fun _ _ _ h => h) (by rfl) (fun u hu => ?_) hS ?_
  rotate_left
  · ((obtain ⟨c0, c1, c2, c3, c4⟩ := obj_cells5 hu.2); go_simp; try (with_reducible rfl))
  try simp only [Act.put, List.setIfInBounds_toArray, List.set_cons_zero, List.set_cons_succ]
  refine give_val (i := 2) (v := ?_) rfl (by kernel_rfl) (by kernel_rfl) (by kernel_rfl) (fun _ _ _ h => h) (by rfl) (fun u hu => ?_) hS ?_
  rotate_left
  · ((obtain ⟨c0, c1, c2, c3, c4⟩ := obj_cells5 hu.2); go_simp; try (with_reducible rfl))
  try simp only [Act.put, List.setIfInBounds_toArray, List.set_cons_zero, List.set_cons_succ]
  refine give_val (i := 3) (v := ?_) rfl (by kernel_rfl) (by kernel_rfl) (by kernel_rfl) (fun _ _ _ h => h) (by rfl) (fun u hu => ?_) hS ?_
  rotate_left
  · ((obtain ⟨c0, c1, c2, c3, c4⟩ := obj_cells5 hu.2); go_simp; try (with_reducible rfl))
  try simp only [Act.put, List.setIfInBounds_toArray, List.set_cons_zero, List.set_cons_succ]
  refine give_val (i := 4) (v := ?_) rfl (by kernel_rfl) (by kernel_rfl) (by kernel_rfl) (fun _ _ _ h => h) (by rfl) (fun u hu => ?_) hS ?_
  rotate_left
  · ((obtain ⟨c0, c1, c2, c3, c4⟩ := obj_cells5 hu.2); go_simp; try (with_reducible rfl))
  try simp only [Act.put, List.setIfInBounds_toArray, List.set_cons_zero, List.set_cons_succ]
  refine give_val (i := 5) (v := ?_) rfl (by kernel_rfl) (by kernel_rfl) (by kernel_rfl) (fun _ _ _ h => h) (by rfl) (fun u hu => ?_) hS ?_
  rotate_left
  · ((obtain ⟨c0, c1, c2, c3, c4⟩ := obj_cells5 hu.2); go_simp; try (with_reducible rfl))
  try simp only [Act.put, List.setIfInBounds_toArray, List.set_cons_zero, List.set_cons_succ]
  refine give_val (i := 6) (v := (.string (s.extract q (q + z)))) rfl (by kernel_rfl) (by kernel_rfl) (by kernel_rfl) (fun _ _ _ h => h) (by rfl) (fun u hu => ?_) hS ?_
  · ((obtain ⟨c0, c1, c2, c3, c4⟩ := obj_cells5 hu.2); go_simp; rw [if_pos (by omega), if_pos (by omega), show ((q : Int) + (z : Int)).toNat = q + z from by omega])
  try simp only [Act.put, List.setIfInBounds_toArray, List.set_cons_zero, List.set_cons_succ]
  refine give_val (i := 7) (v := ?_) rfl (by kernel_rfl) (by kernel_rfl) (by kernel_rfl) (fun _ _ _ h => h) (by rfl) (fun u hu => ?_) hS ?_
  rotate_left
  · ((obtain ⟨c0, c1, c2, c3, c4⟩ := obj_cells5 hu.2); go_simp; try (with_reducible rfl))
  try simp only [Act.put, List.setIfInBounds_toArray, List.set_cons_zero, List.set_cons_succ]
  refine only_call (i := 8) 23 #[.int .i64 st, .int .i64 c, .string (s.extract q (q + z)), .int .i64 (a : Int)] rfl (by kernel_rfl) (by rfl) ((HR.out _).mono fun e w' he => ⟨he.1, hS.below he.2⟩) ?_ ?_
  · (go_simp; try (with_reducible rfl))
  clear hS
  intro w8 hS
  try simp only [Act.put, List.setIfInBounds_toArray, List.set_cons_zero, List.set_cons_succ]
  refine give_val (i := 9) (v := ?_) rfl (by kernel_rfl) (by kernel_rfl) (by kernel_rfl) (fun _ _ _ h => h) (by rfl) (fun u hu => ?_) hS ?_
  rotate_left
  · ((obtain ⟨c0, c1, c2, c3, c4⟩ := obj_cells5 hu.2); go_simp; try (with_reducible rfl))
  try simp only [Act.put, List.setIfInBounds_toArray, List.set_cons_zero, List.set_cons_succ]
  refine give_val (i := 10) (v := ?_) rfl (by kernel_rfl) (by kernel_rfl) (by kernel_rfl) (fun _ _ _ h => h) (by rfl) (fun u hu => ?_) hS ?_
  rotate_left
  · ((obtain ⟨c0, c1, c2, c3, c4⟩ := obj_cells5 hu.2); go_simp; try (with_reducible rfl))
  try simp only [Act.put, List.setIfInBounds_toArray, List.set_cons_zero, List.set_cons_succ]
  refine give_val (i := 11) (v := ?_) rfl (by kernel_rfl) (by kernel_rfl) (by kernel_rfl) (fun _ _ _ h => h) (by rfl) (fun u hu => ?_) hS ?_
  rotate_left
  · ((obtain ⟨c0, c1, c2, c3, c4⟩ := obj_cells5 hu.2); go_simp; try (with_reducible rfl))
  try simp only [Act.put, List.setIfInBounds_toArray, List.set_cons_zero, List.set_cons_succ]
  refine give_val (i := 12) (v := ?_) rfl (by kernel_rfl) (by kernel_rfl) (by kernel_rfl) (fun _ _ _ h => h) (by rfl) (fun u hu => ?_) hS ?_
  rotate_left
  · ((obtain ⟨c0, c1, c2, c3, c4⟩ := obj_cells5 hu.2); go_simp; try (with_reducible rfl))
  try simp only [Act.put, List.setIfInBounds_toArray, List.set_cons_zero, List.set_cons_succ]
  refine give_val (i := 13) (v := ?_) rfl (by kernel_rfl) (by kernel_rfl) (by kernel_rfl) (fun _ _ _ h => h) (by rfl) (fun u hu => ?_) hS ?_
  rotate_left
  · ((obtain ⟨c0, c1, c2, c3, c4⟩ := obj_cells5 hu.2); go_simp; try (with_reducible rfl))
  try simp only [Act.put, List.setIfInBounds_toArray, List.set_cons_zero, List.set_cons_succ]
  refine wpAnyH_done (by kernel_rfl) (NoPanic.normal ?_) _
  have HB3 := Lib.hid hS.1
  have HO3 := Lib.hid hS.2
  clear hS
  obtain ⟨c0, c1, c2, c3, c4⟩ := obj_cells5 HO3.out
  go_wp2
  go_ret3
  exact ⟨rfl, HB3.out⟩
set_option linter.unusedVariables false in
set_option maxHeartbeats 1600000 in
theorem cgw_val (st n c f lo hi : Int) (p : Nat) (s : ByteArray) (w : World) (hst : st = 1 ∨ st = 2) (hk : spk n c f lo hi = 0) (hs : s.size ≤ 1000000) (hp : p ≤ s.size) (a q z : Nat) (hq : q ≤ 1000000) (hzb : z ≤ 2000) (h : q + z ≤ s.size) (t : ByteArray) (x : Int) (hx : x ≠ 0) (hw : Kinds w)
    (hl : ∀ W, Calls Tryd.prog 21 #[.int .i64 st, .agg #[.int .i64 n, .int .i64 c, .int .i64 f, .int .i64 lo, .int .i64 hi], .string s, .int .i64 (p : Int)] W fun e w' => e = .returned (.tuple #[.int .i64 (a : Int), .int .i64 (q : Int), .int .i64 0]) ∧ Below W.heap.size W w')
    (hz : ∀ W, Calls Tryd.prog 22 #[.int .i64 st, .int .i64 c, .int .i64 (a : Int)] W fun e w' => e = .returned (.int .i64 (z : Int)) ∧ W = w')
    (hr : ∀ W, Calls Tryd.prog 23 #[.int .i64 st, .int .i64 c, .string (s.extract q (q + z)), .int .i64 (a : Int)] W fun e w' => e = .returned (.tuple #[.string t, .int .i64 0]) ∧ Below W.heap.size W w')
    (hv : ∀ W, Kinds W → Calls Tryd.prog 14 #[.agg #[.int .i64 n, .int .i64 c, .int .i64 f, .int .i64 lo, .int .i64 hi], .string t] W fun e w' => e = .returned (.int .i64 x) ∧ Below W.heap.size W w') :
    Calls Tryd.prog 11 #[.int .i64 st, .agg #[.int .i64 n, .int .i64 c, .int .i64 f, .int .i64 lo, .int .i64 hi], .string s, .int .i64 (p : Int)] w fun e w' => e = .returned (.tuple #[.string ⟨#[]⟩, .int .i64 0, .int .i64 x]) ∧ Below w.heap.size w w' := by
  have HK := Lib.hid (cknown_yes st hst)
  have HC := Lib.hid (fun W => spcheck_any n c f lo hi W)
  rw [hk] at HC
  have t1 : decide ((p : Int) < 0) = false := by simp
  have t2 : decide (s.size < p) = false := by simp; omega
  have t3 : (x != 0) = true := by simpa using hx
  have HL := Lib.hid hl
  have HZ := Lib.hid hz
  have HR := Lib.hid hr
  have HV := Lib.hid hv
  have HW := Lib.hid hw
  clear hl hz hr hv hw hst hk hp hx
  go_enter Tryd.func11, Tryd.ntmps11
  go_wp2_with fail
  refine (HK.out _).mono ?_
  rintro e w0 ⟨rfl, rfl⟩
  go_wp2_with fail
  refine (HC.out _).mono ?_
  rintro e w1 ⟨rfl, hb1⟩
  have HB1 := Lib.hid (hbt (below_al _ _) hb1)
  have HO1 := Lib.hid (spec_at hb1)
  obtain ⟨c0, c1, c2, c3, c4⟩ := obj_cells5 HO1.out
  clear hb1
  go_wp2_with fail
  refine (HL.out _).mono ?_
  rintro e w2 ⟨rfl, hb2⟩
  have HB2 := Lib.hid (hbt HB1.out hb2)
  have HO2 := Lib.hid (obj_below HO1.out hb2)
  clear hb2 c0 c1 c2 c3 c4
  obtain ⟨c0, c1, c2, c3, c4⟩ := obj_cells5 HO2.out
  go_wp2_with fail
  refine (HZ.out _).mono ?_
  rintro e w9 ⟨rfl, rfl⟩
  go_wp2_with fail
  have HS := Lib.hid (show Spec1 w n c f lo hi _ from ⟨HB2.out, HO2.out⟩)
  clear c0 c1 c2 c3 c4
  refine wp_region_noPanic ?_
  refine wp_region_held_drew (S := (Spec1 w n c f lo hi)) (by kernel_rfl) (HS.out.drew) (fun hS => ?_)
  refine give_val (i := 0) (v := ?_) rfl (by kernel_rfl) (by kernel_rfl) (by kernel_rfl) (fun _ _ _ h => h) (by rfl) (fun u hu => ?_) hS ?_
  rotate_left
  · ((obtain ⟨c0, c1, c2, c3, c4⟩ := obj_cells5 hu.2); go_simp; try (with_reducible rfl))
  try simp only [Act.put, List.setIfInBounds_toArray, List.set_cons_zero, List.set_cons_succ]
  refine give_val (i := 1) (v := ?_) rfl (by kernel_rfl) (by kernel_rfl) (by kernel_rfl) (fun _ _ _ h => h) (by rfl) (fun u hu => ?_) hS ?_
  rotate_left
  · ((obtain ⟨c0, c1, c2, c3, c4⟩ := obj_cells5 hu.2); go_simp; try (with_reducible rfl))
  try simp only [Act.put, List.setIfInBounds_toArray, List.set_cons_zero, List.set_cons_succ]
  refine give_val (i := 2) (v := ?_) rfl (by kernel_rfl) (by kernel_rfl) (by kernel_rfl) (fun _ _ _ h => h) (by rfl) (fun u hu => ?_) hS ?_
  rotate_left
  · ((obtain ⟨c0, c1, c2, c3, c4⟩ := obj_cells5 hu.2); go_simp; try (with_reducible rfl))
  try simp only [Act.put, List.setIfInBounds_toArray, List.set_cons_zero, List.set_cons_succ]
  refine give_val (i := 3) (v := ?_) rfl (by kernel_rfl) (by kernel_rfl) (by kernel_rfl) (fun _ _ _ h => h) (by rfl) (fun u hu => ?_) hS ?_
  rotate_left
  · ((obtain ⟨c0, c1, c2, c3, c4⟩ := obj_cells5 hu.2); go_simp; try (with_reducible rfl))
  try simp only [Act.put, List.setIfInBounds_toArray, List.set_cons_zero, List.set_cons_succ]
  refine give_val (i := 4) (v := ?_) rfl (by kernel_rfl) (by kernel_rfl) (by kernel_rfl) (fun _ _ _ h => h) (by rfl) (fun u hu => ?_) hS ?_
  rotate_left
  · ((obtain ⟨c0, c1, c2, c3, c4⟩ := obj_cells5 hu.2); go_simp; try (with_reducible rfl))
  try simp only [Act.put, List.setIfInBounds_toArray, List.set_cons_zero, List.set_cons_succ]
  refine give_val (i := 5) (v := ?_) rfl (by kernel_rfl) (by kernel_rfl) (by kernel_rfl) (fun _ _ _ h => h) (by rfl) (fun u hu => ?_) hS ?_
  rotate_left
  · ((obtain ⟨c0, c1, c2, c3, c4⟩ := obj_cells5 hu.2); go_simp; try (with_reducible rfl))
  try simp only [Act.put, List.setIfInBounds_toArray, List.set_cons_zero, List.set_cons_succ]
  refine give_val (i := 6) (v := (.string (s.extract q (q + z)))) rfl (by kernel_rfl) (by kernel_rfl) (by kernel_rfl) (fun _ _ _ h => h) (by rfl) (fun u hu => ?_) hS ?_
  · ((obtain ⟨c0, c1, c2, c3, c4⟩ := obj_cells5 hu.2); go_simp; rw [if_pos (by omega), if_pos (by omega), show ((q : Int) + (z : Int)).toNat = q + z from by omega])
  try simp only [Act.put, List.setIfInBounds_toArray, List.set_cons_zero, List.set_cons_succ]
  refine give_val (i := 7) (v := ?_) rfl (by kernel_rfl) (by kernel_rfl) (by kernel_rfl) (fun _ _ _ h => h) (by rfl) (fun u hu => ?_) hS ?_
  rotate_left
  · ((obtain ⟨c0, c1, c2, c3, c4⟩ := obj_cells5 hu.2); go_simp; try (with_reducible rfl))
  try simp only [Act.put, List.setIfInBounds_toArray, List.set_cons_zero, List.set_cons_succ]
  refine only_call (i := 8) 23 #[.int .i64 st, .int .i64 c, .string (s.extract q (q + z)), .int .i64 (a : Int)] rfl (by kernel_rfl) (by rfl) ((HR.out _).mono fun e w' he => ⟨he.1, hS.below he.2⟩) ?_ ?_
  · (go_simp; try (with_reducible rfl))
  clear hS
  intro w8 hS
  try simp only [Act.put, List.setIfInBounds_toArray, List.set_cons_zero, List.set_cons_succ]
  refine give_val (i := 9) (v := ?_) rfl (by kernel_rfl) (by kernel_rfl) (by kernel_rfl) (fun _ _ _ h => h) (by rfl) (fun u hu => ?_) hS ?_
  rotate_left
  · ((obtain ⟨c0, c1, c2, c3, c4⟩ := obj_cells5 hu.2); go_simp; try (with_reducible rfl))
  try simp only [Act.put, List.setIfInBounds_toArray, List.set_cons_zero, List.set_cons_succ]
  refine give_val (i := 10) (v := ?_) rfl (by kernel_rfl) (by kernel_rfl) (by kernel_rfl) (fun _ _ _ h => h) (by rfl) (fun u hu => ?_) hS ?_
  rotate_left
  · ((obtain ⟨c0, c1, c2, c3, c4⟩ := obj_cells5 hu.2); go_simp; try (with_reducible rfl))
  try simp only [Act.put, List.setIfInBounds_toArray, List.set_cons_zero, List.set_cons_succ]
  refine give_val (i := 11) (v := ?_) rfl (by kernel_rfl) (by kernel_rfl) (by kernel_rfl) (fun _ _ _ h => h) (by rfl) (fun u hu => ?_) hS ?_
  rotate_left
  · ((obtain ⟨c0, c1, c2, c3, c4⟩ := obj_cells5 hu.2); go_simp; try (with_reducible rfl))
  try simp only [Act.put, List.setIfInBounds_toArray, List.set_cons_zero, List.set_cons_succ]
  refine give_val (i := 12) (v := ?_) rfl (by kernel_rfl) (by kernel_rfl) (by kernel_rfl) (fun _ _ _ h => h) (by rfl) (fun u hu => ?_) hS ?_
  rotate_left
  · ((obtain ⟨c0, c1, c2, c3, c4⟩ := obj_cells5 hu.2); go_simp; try (with_reducible rfl))
  try simp only [Act.put, List.setIfInBounds_toArray, List.set_cons_zero, List.set_cons_succ]
  refine give_val (i := 13) (v := ?_) rfl (by kernel_rfl) (by kernel_rfl) (by kernel_rfl) (fun _ _ _ h => h) (by rfl) (fun u hu => ?_) hS ?_
  rotate_left
  · ((obtain ⟨c0, c1, c2, c3, c4⟩ := obj_cells5 hu.2); go_simp; try (with_reducible rfl))
  try simp only [Act.put, List.setIfInBounds_toArray, List.set_cons_zero, List.set_cons_succ]
  refine wpAnyH_done (by kernel_rfl) (NoPanic.normal ?_) _
  have HB3 := Lib.hid hS.1
  have HO3 := Lib.hid hS.2
  clear hS
  obtain ⟨c0, c1, c2, c3, c4⟩ := obj_cells5 HO3.out
  go_wp2_with fail
  refine (HV.out _ (HW.out.below HB3.out)).mono ?_
  rintro e w4 ⟨rfl, hb4⟩
  have HB4 := Lib.hid (hbt HB3.out hb4)
  have HO4 := Lib.hid (obj_below HO3.out hb4)
  clear hb4 c0 c1 c2 c3 c4
  obtain ⟨c0, c1, c2, c3, c4⟩ := obj_cells5 HO4.out
  go_wp2
  go_ret3
  exact ⟨rfl, HB4.out⟩
set_option linter.unusedVariables false in
set_option maxHeartbeats 1600000 in
theorem cgw_ok (st n c f lo hi : Int) (p : Nat) (s : ByteArray) (w : World) (hst : st = 1 ∨ st = 2) (hk : spk n c f lo hi = 0) (hs : s.size ≤ 1000000) (hp : p ≤ s.size) (a q z : Nat) (hq : q ≤ 1000000) (hzb : z ≤ 2000) (h : q + z ≤ s.size) (t : ByteArray) (hw : Kinds w)
    (hl : ∀ W, Calls Tryd.prog 21 #[.int .i64 st, .agg #[.int .i64 n, .int .i64 c, .int .i64 f, .int .i64 lo, .int .i64 hi], .string s, .int .i64 (p : Int)] W fun e w' => e = .returned (.tuple #[.int .i64 (a : Int), .int .i64 (q : Int), .int .i64 0]) ∧ Below W.heap.size W w')
    (hz : ∀ W, Calls Tryd.prog 22 #[.int .i64 st, .int .i64 c, .int .i64 (a : Int)] W fun e w' => e = .returned (.int .i64 (z : Int)) ∧ W = w')
    (hr : ∀ W, Calls Tryd.prog 23 #[.int .i64 st, .int .i64 c, .string (s.extract q (q + z)), .int .i64 (a : Int)] W fun e w' => e = .returned (.tuple #[.string t, .int .i64 0]) ∧ Below W.heap.size W w')
    (hv : ∀ W, Kinds W → Calls Tryd.prog 14 #[.agg #[.int .i64 n, .int .i64 c, .int .i64 f, .int .i64 lo, .int .i64 hi], .string t] W fun e w' => e = .returned (.int .i64 0) ∧ Below W.heap.size W w') :
    Calls Tryd.prog 11 #[.int .i64 st, .agg #[.int .i64 n, .int .i64 c, .int .i64 f, .int .i64 lo, .int .i64 hi], .string s, .int .i64 (p : Int)] w fun e w' => e = .returned (.tuple #[.string t, .int .i64 ((q + z : Nat) : Int), .int .i64 0]) ∧ Below w.heap.size w w' := by
  have HK := Lib.hid (cknown_yes st hst)
  have HC := Lib.hid (fun W => spcheck_any n c f lo hi W)
  rw [hk] at HC
  have t1 : decide ((p : Int) < 0) = false := by simp
  have t2 : decide (s.size < p) = false := by simp; omega
  have HL := Lib.hid hl
  have HZ := Lib.hid hz
  have HR := Lib.hid hr
  have HV := Lib.hid hv
  have HW := Lib.hid hw
  clear hl hz hr hv hw hst hk hp
  go_enter Tryd.func11, Tryd.ntmps11
  go_wp2_with fail
  refine (HK.out _).mono ?_
  rintro e w0 ⟨rfl, rfl⟩
  go_wp2_with fail
  refine (HC.out _).mono ?_
  rintro e w1 ⟨rfl, hb1⟩
  have HB1 := Lib.hid (hbt (below_al _ _) hb1)
  have HO1 := Lib.hid (spec_at hb1)
  obtain ⟨c0, c1, c2, c3, c4⟩ := obj_cells5 HO1.out
  clear hb1
  go_wp2_with fail
  refine (HL.out _).mono ?_
  rintro e w2 ⟨rfl, hb2⟩
  have HB2 := Lib.hid (hbt HB1.out hb2)
  have HO2 := Lib.hid (obj_below HO1.out hb2)
  clear hb2 c0 c1 c2 c3 c4
  obtain ⟨c0, c1, c2, c3, c4⟩ := obj_cells5 HO2.out
  go_wp2_with fail
  refine (HZ.out _).mono ?_
  rintro e w9 ⟨rfl, rfl⟩
  go_wp2_with fail
  have HS := Lib.hid (show Spec1 w n c f lo hi _ from ⟨HB2.out, HO2.out⟩)
  clear c0 c1 c2 c3 c4
  refine wp_region_noPanic ?_
  refine wp_region_held_drew (S := (Spec1 w n c f lo hi)) (by kernel_rfl) (HS.out.drew) (fun hS => ?_)
  refine give_val (i := 0) (v := ?_) rfl (by kernel_rfl) (by kernel_rfl) (by kernel_rfl) (fun _ _ _ h => h) (by rfl) (fun u hu => ?_) hS ?_
  rotate_left
  · ((obtain ⟨c0, c1, c2, c3, c4⟩ := obj_cells5 hu.2); go_simp; try (with_reducible rfl))
  try simp only [Act.put, List.setIfInBounds_toArray, List.set_cons_zero, List.set_cons_succ]
  refine give_val (i := 1) (v := ?_) rfl (by kernel_rfl) (by kernel_rfl) (by kernel_rfl) (fun _ _ _ h => h) (by rfl) (fun u hu => ?_) hS ?_
  rotate_left
  · ((obtain ⟨c0, c1, c2, c3, c4⟩ := obj_cells5 hu.2); go_simp; try (with_reducible rfl))
  try simp only [Act.put, List.setIfInBounds_toArray, List.set_cons_zero, List.set_cons_succ]
  refine give_val (i := 2) (v := ?_) rfl (by kernel_rfl) (by kernel_rfl) (by kernel_rfl) (fun _ _ _ h => h) (by rfl) (fun u hu => ?_) hS ?_
  rotate_left
  · ((obtain ⟨c0, c1, c2, c3, c4⟩ := obj_cells5 hu.2); go_simp; try (with_reducible rfl))
  try simp only [Act.put, List.setIfInBounds_toArray, List.set_cons_zero, List.set_cons_succ]
  refine give_val (i := 3) (v := ?_) rfl (by kernel_rfl) (by kernel_rfl) (by kernel_rfl) (fun _ _ _ h => h) (by rfl) (fun u hu => ?_) hS ?_
  rotate_left
  · ((obtain ⟨c0, c1, c2, c3, c4⟩ := obj_cells5 hu.2); go_simp; try (with_reducible rfl))
  try simp only [Act.put, List.setIfInBounds_toArray, List.set_cons_zero, List.set_cons_succ]
  refine give_val (i := 4) (v := ?_) rfl (by kernel_rfl) (by kernel_rfl) (by kernel_rfl) (fun _ _ _ h => h) (by rfl) (fun u hu => ?_) hS ?_
  rotate_left
  · ((obtain ⟨c0, c1, c2, c3, c4⟩ := obj_cells5 hu.2); go_simp; try (with_reducible rfl))
  try simp only [Act.put, List.setIfInBounds_toArray, List.set_cons_zero, List.set_cons_succ]
  refine give_val (i := 5) (v := ?_) rfl (by kernel_rfl) (by kernel_rfl) (by kernel_rfl) (fun _ _ _ h => h) (by rfl) (fun u hu => ?_) hS ?_
  rotate_left
  · ((obtain ⟨c0, c1, c2, c3, c4⟩ := obj_cells5 hu.2); go_simp; try (with_reducible rfl))
  try simp only [Act.put, List.setIfInBounds_toArray, List.set_cons_zero, List.set_cons_succ]
  refine give_val (i := 6) (v := (.string (s.extract q (q + z)))) rfl (by kernel_rfl) (by kernel_rfl) (by kernel_rfl) (fun _ _ _ h => h) (by rfl) (fun u hu => ?_) hS ?_
  · ((obtain ⟨c0, c1, c2, c3, c4⟩ := obj_cells5 hu.2); go_simp; rw [if_pos (by omega), if_pos (by omega), show ((q : Int) + (z : Int)).toNat = q + z from by omega])
  try simp only [Act.put, List.setIfInBounds_toArray, List.set_cons_zero, List.set_cons_succ]
  refine give_val (i := 7) (v := ?_) rfl (by kernel_rfl) (by kernel_rfl) (by kernel_rfl) (fun _ _ _ h => h) (by rfl) (fun u hu => ?_) hS ?_
  rotate_left
  · ((obtain ⟨c0, c1, c2, c3, c4⟩ := obj_cells5 hu.2); go_simp; try (with_reducible rfl))
  try simp only [Act.put, List.setIfInBounds_toArray, List.set_cons_zero, List.set_cons_succ]
  refine only_call (i := 8) 23 #[.int .i64 st, .int .i64 c, .string (s.extract q (q + z)), .int .i64 (a : Int)] rfl (by kernel_rfl) (by rfl) ((HR.out _).mono fun e w' he => ⟨he.1, hS.below he.2⟩) ?_ ?_
  · (go_simp; try (with_reducible rfl))
  clear hS
  intro w8 hS
  try simp only [Act.put, List.setIfInBounds_toArray, List.set_cons_zero, List.set_cons_succ]
  refine give_val (i := 9) (v := ?_) rfl (by kernel_rfl) (by kernel_rfl) (by kernel_rfl) (fun _ _ _ h => h) (by rfl) (fun u hu => ?_) hS ?_
  rotate_left
  · ((obtain ⟨c0, c1, c2, c3, c4⟩ := obj_cells5 hu.2); go_simp; try (with_reducible rfl))
  try simp only [Act.put, List.setIfInBounds_toArray, List.set_cons_zero, List.set_cons_succ]
  refine give_val (i := 10) (v := ?_) rfl (by kernel_rfl) (by kernel_rfl) (by kernel_rfl) (fun _ _ _ h => h) (by rfl) (fun u hu => ?_) hS ?_
  rotate_left
  · ((obtain ⟨c0, c1, c2, c3, c4⟩ := obj_cells5 hu.2); go_simp; try (with_reducible rfl))
  try simp only [Act.put, List.setIfInBounds_toArray, List.set_cons_zero, List.set_cons_succ]
  refine give_val (i := 11) (v := ?_) rfl (by kernel_rfl) (by kernel_rfl) (by kernel_rfl) (fun _ _ _ h => h) (by rfl) (fun u hu => ?_) hS ?_
  rotate_left
  · ((obtain ⟨c0, c1, c2, c3, c4⟩ := obj_cells5 hu.2); go_simp; try (with_reducible rfl))
  try simp only [Act.put, List.setIfInBounds_toArray, List.set_cons_zero, List.set_cons_succ]
  refine give_val (i := 12) (v := ?_) rfl (by kernel_rfl) (by kernel_rfl) (by kernel_rfl) (fun _ _ _ h => h) (by rfl) (fun u hu => ?_) hS ?_
  rotate_left
  · ((obtain ⟨c0, c1, c2, c3, c4⟩ := obj_cells5 hu.2); go_simp; try (with_reducible rfl))
  try simp only [Act.put, List.setIfInBounds_toArray, List.set_cons_zero, List.set_cons_succ]
  refine give_val (i := 13) (v := ?_) rfl (by kernel_rfl) (by kernel_rfl) (by kernel_rfl) (fun _ _ _ h => h) (by rfl) (fun u hu => ?_) hS ?_
  rotate_left
  · ((obtain ⟨c0, c1, c2, c3, c4⟩ := obj_cells5 hu.2); go_simp; try (with_reducible rfl))
  try simp only [Act.put, List.setIfInBounds_toArray, List.set_cons_zero, List.set_cons_succ]
  refine wpAnyH_done (by kernel_rfl) (NoPanic.normal ?_) _
  have HB3 := Lib.hid hS.1
  have HO3 := Lib.hid hS.2
  clear hS
  obtain ⟨c0, c1, c2, c3, c4⟩ := obj_cells5 HO3.out
  go_wp2_with fail
  refine (HV.out _ (HW.out.below HB3.out)).mono ?_
  rintro e w4 ⟨rfl, hb4⟩
  have HB4 := Lib.hid (hbt HB3.out hb4)
  have HO4 := Lib.hid (obj_below HO3.out hb4)
  clear hb4 c0 c1 c2 c3 c4
  obtain ⟨c0, c1, c2, c3, c4⟩ := obj_cells5 HO4.out
  go_wp2
  go_ret3
  exact ⟨rfl, HB4.out⟩

def cgetV (r : ByteArray × Nat × Int) : Value := .tuple #[.string r.1, .int .i64 (r.2.1 : Int), .int .i64 r.2.2]

theorem clen_in {st : Nat} {n c f lo hi : Int} {l : List UInt8} {p a q : Nat} (hk : spk n c f lo hi = 0) (hp : p ≤ l.length) (h : clen st f lo hi l p = (a, q, 0)) : a ≤ 999 ∧ q ≤ l.length := by
  obtain ⟨_, k1, k2, k3⟩ := spk_in hk
  by_cases hf : f = 1
  · subst hf
    rw [clen_fixed] at h
    obtain ⟨h1, h2⟩ := Prod.mk.inj h
    obtain ⟨h3, _⟩ := Prod.mk.inj h2
    omega
  · by_cases h0 : (pget st f.toNat l p).2.2 = 0
    · by_cases h1 : ((pget st f.toNat l p).1 : Int) < lo ∨ hi < ((pget st f.toNat l p).1 : Int)
      · rw [clen_range hf h0 h1] at h
        cases h
      · rw [clen_ok hf h0 h1] at h
        obtain ⟨g1, g2, _⟩ := pget_zero h0
        rw [h] at h1 g2
        dsimp only at h1 g2
        omega
    · rw [clen_err hf h0] at h
      exact absurd (Prod.mk.inj (Prod.mk.inj h).2).2 h0

/-- What Get answers at a place of a text. -/
theorem cget_any (st p : Nat) (n c f lo hi : Int) (s : ByteArray) (w : World) (hw : Kinds w) (hst : st = 1 ∨ st = 2) (hk : spk n c f lo hi = 0) (hs : s.size ≤ 1000000) (hp : p ≤ s.size) :
    Calls Tryd.prog 11 #[.int .i64 (st : Int), .agg #[.int .i64 n, .int .i64 c, .int .i64 f, .int .i64 lo, .int .i64 hi], .string s, .int .i64 (p : Int)] w fun e w' => e = .returned (cgetV (cget st n c f lo hi s p)) ∧ Below w.heap.size w w' := by
  have hst' : (st : Int) = 1 ∨ (st : Int) = 2 := by omega
  have hl := fun W => clength_any st p n c f lo hi s W hst hk hs hp
  unfold pgetV at hl
  obtain ⟨a, q, x, h1, g⟩ := cget_cases st n c f lo hi s p
  rw [h1] at hl
  rcases g with hx | ⟨rfl, g⟩
  · rw [cget_len h1 hx]
    exact cgw_len (st : Int) n c f lo hi p s w hst' hk hs hp a q x hx hl
  obtain ⟨ha, hq⟩ := clen_in hk (by rw [list_size]; exact hp) h1
  rw [list_size] at hq
  have hzz := csz_le (cway st c) a
  have hz := fun W => csize_any st a c W hst (by omega)
  rcases g with h2 | ⟨h2, t, y, h3, g⟩
  · rw [cget_cut h1 h2]
    exact cgw_cut (st : Int) n c f lo hi p s w hst' hk hs hp a q _ (by omega) (by omega) h2 hl hz
  have hxs : (s.extract q (q + csz (cway st c) a)).size = csz (cway st c) a := by simp; omega
  have hr := fun W => cread_any st a c (s.extract q (q + csz (cway st c) a)) W hst (by omega)
  rw [h3] at hr
  rcases g with hy | ⟨rfl, g⟩
  · rw [cget_read h1 h2 h3 hy]
    exact cgw_read (st : Int) n c f lo hi p s w hst' hk hs hp a q _ (by omega) (by omega) h2 t y hy hl hz hr
  have ht := (cread_spell hxs h3).1
  have hv := fun W hW => spvalue_any n c f lo hi t W hW (by unfold maxLen; omega)
  rcases g with h4 | h4
  · rw [cget_val h1 h2 h3 h4]
    exact cgw_val (st : Int) n c f lo hi p s w hst' hk hs hp a q _ (by omega) (by omega) h2 t _ h4 hw hl hz hr hv
  · rw [cget_ok h1 h2 h3 h4]
    rw [h4] at hv
    exact cgw_ok (st : Int) n c f lo hi p s w hst' hk hs hp a q _ (by omega) (by omega) h2 t hw hl hz hr hv

end Go.Proofs.YtjmpjdefafkldaaDoor
