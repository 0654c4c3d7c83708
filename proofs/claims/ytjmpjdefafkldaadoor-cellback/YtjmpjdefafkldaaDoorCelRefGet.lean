/-
  What the document's Get answers: for every style, spec, text and place.
-/
import Derived.Test.YtjmpjdefafkldaaDoorCelRgx
import Derived.Test.YtjmpjdefafkldaaDoorCelRgv
namespace Go.Proofs.YtjmpjdefafkldaaDoor
open Go.RowKit

set_option linter.unusedVariables false in
set_option maxHeartbeats 1600000 in
theorem crg_style (st n c f lo hi p : Int) (s : ByteArray) (w : World) (h : st ≠ 1 ∧ st ≠ 2) :
    Calls Tryd.prog 12 #[.int .i64 st, .agg #[.int .i64 n, .int .i64 c, .int .i64 f, .int .i64 lo, .int .i64 hi], .string s, .int .i64 p] w fun e w' => e = .returned (.tuple #[.string ⟨#[]⟩, .int .i64 0, .int .i64 1]) ∧ Below w.heap.size w w' := by
  have t1 : (st != 1) = true := by simpa using h.1
  have t2 : (st != 2) = true := by simpa using h.2
  clear h
  go_enter Tryd.func12, Tryd.ntmps12
  go_wp2
  go_ret3
  exact ⟨rfl, below_al _ _⟩
set_option linter.unusedVariables false in
set_option maxHeartbeats 1600000 in
theorem crg_check1 (n c f lo hi p : Int) (s : ByteArray) (w : World) (h : spk n c f lo hi ≠ 0) :
    Calls Tryd.prog 12 #[.int .i64 1, .agg #[.int .i64 n, .int .i64 c, .int .i64 f, .int .i64 lo, .int .i64 hi], .string s, .int .i64 p] w fun e w' => e = .returned (.tuple #[.string ⟨#[]⟩, .int .i64 0, .int .i64 1]) ∧ Below w.heap.size w w' := by
  have HC := Lib.hid (fun W => sprefCheck_any n c f lo hi W)
  generalize spk n c f lo hi = x at *
  have t1 : (x != 0) = true := by simpa using h
  clear h
  go_enter Tryd.func12, Tryd.ntmps12
  go_wp2_with fail
  refine (HC.out _).mono ?_
  rintro e w1 ⟨rfl, hb1⟩
  have HB1 := Lib.hid (hbt (below_al _ _) hb1)
  have HO1 := Lib.hid (spec_at hb1)
  obtain ⟨c0, c1, c2, c3, c4⟩ := obj_cells5 HO1.out
  clear hb1
  go_wp2
  go_ret3
  exact ⟨rfl, HB1.out⟩
set_option linter.unusedVariables false in
set_option maxHeartbeats 1600000 in
theorem crg_low1 (n c f lo hi p : Int) (s : ByteArray) (w : World) (hk : spk n c f lo hi = 0) (h : p < 0) :
    Calls Tryd.prog 12 #[.int .i64 1, .agg #[.int .i64 n, .int .i64 c, .int .i64 f, .int .i64 lo, .int .i64 hi], .string s, .int .i64 p] w fun e w' => e = .returned (.tuple #[.string ⟨#[]⟩, .int .i64 0, .int .i64 1]) ∧ Below w.heap.size w w' := by
  have HC := Lib.hid (fun W => sprefCheck_any n c f lo hi W)
  rw [hk] at HC
  have t1 : decide (p < 0) = true := by simpa using h
  clear h hk
  go_enter Tryd.func12, Tryd.ntmps12
  go_wp2_with fail
  refine (HC.out _).mono ?_
  rintro e w1 ⟨rfl, hb1⟩
  have HB1 := Lib.hid (hbt (below_al _ _) hb1)
  have HO1 := Lib.hid (spec_at hb1)
  obtain ⟨c0, c1, c2, c3, c4⟩ := obj_cells5 HO1.out
  clear hb1
  go_wp2
  go_ret3
  exact ⟨rfl, HB1.out⟩
set_option linter.unusedVariables false in
set_option maxHeartbeats 1600000 in
theorem crg_high1 (n c f lo hi p : Int) (s : ByteArray) (w : World) (hk : spk n c f lo hi = 0) (h : (s.size : Int) < p) :
    Calls Tryd.prog 12 #[.int .i64 1, .agg #[.int .i64 n, .int .i64 c, .int .i64 f, .int .i64 lo, .int .i64 hi], .string s, .int .i64 p] w fun e w' => e = .returned (.tuple #[.string ⟨#[]⟩, .int .i64 0, .int .i64 1]) ∧ Below w.heap.size w w' := by
  have HC := Lib.hid (fun W => sprefCheck_any n c f lo hi W)
  rw [hk] at HC
  have t1 : decide (p < 0) = false := by simp; omega
  have t2 : decide ((s.size : Int) < p) = true := by simpa using h
  clear h hk
  go_enter Tryd.func12, Tryd.ntmps12
  go_wp2_with fail
  refine (HC.out _).mono ?_
  rintro e w1 ⟨rfl, hb1⟩
  have HB1 := Lib.hid (hbt (below_al _ _) hb1)
  have HO1 := Lib.hid (spec_at hb1)
  obtain ⟨c0, c1, c2, c3, c4⟩ := obj_cells5 HO1.out
  clear hb1
  go_wp2
  go_ret3
  exact ⟨rfl, HB1.out⟩
set_option linter.unusedVariables false in
set_option maxHeartbeats 1600000 in
theorem crg_err1 (n c f lo hi : Int) (p a q : Nat) (s : ByteArray) (w : World) (hf : (f != 1) = true) (hk : spk n c f lo hi = 0) (hs : s.size ≤ 1000000) (hp : p ≤ s.size) (x : Nat) (hx : x ≠ 0)
    (hg : ∀ W, Calls Tryd.prog 25 #[.int .i64 1, .int .i64 f, .string s, .int .i64 (p : Int)] W fun e w' => e = .returned (.tuple #[.int .i64 (a : Int), .int .i64 (q : Int), .int .i64 (x : Int)]) ∧ Below W.heap.size W w') :
    Calls Tryd.prog 12 #[.int .i64 1, .agg #[.int .i64 n, .int .i64 c, .int .i64 f, .int .i64 lo, .int .i64 hi], .string s, .int .i64 (p : Int)] w fun e w' => e = .returned (.tuple #[.string ⟨#[]⟩, .int .i64 0, .int .i64 (x : Int)]) ∧ Below w.heap.size w w' := by
  have HC := Lib.hid (fun W => sprefCheck_any n c f lo hi W)
  rw [hk] at HC
  have HG := Lib.hid hg
  have t1 : decide ((p : Int) < 0) = false := by simp
  have t2 : decide (s.size < p) = false := by simp; omega
  have t3 : ((x : Int) != 0) = true := by simpa using hx
  clear hg hk hx hp
  go_enter Tryd.func12, Tryd.ntmps12
  go_wp2_with fail
  refine (HC.out _).mono ?_
  rintro e w1 ⟨rfl, hb1⟩
  have HB1 := Lib.hid (hbt (below_al _ _) hb1)
  have HO1 := Lib.hid (spec_at hb1)
  obtain ⟨c0, c1, c2, c3, c4⟩ := obj_cells5 HO1.out
  clear hb1
  go_wp2_with fail
  refine (HG.out _).mono ?_
  rintro e w2 ⟨rfl, hb2⟩
  have HB2 := Lib.hid (hbt HB1.out hb2)
  have HO2 := Lib.hid (obj_below HO1.out hb2)
  clear hb2 c0 c1 c2 c3 c4
  obtain ⟨c0, c1, c2, c3, c4⟩ := obj_cells5 HO2.out
  go_wp2
  go_ret3
  exact ⟨rfl, HB2.out⟩
set_option linter.unusedVariables false in
set_option maxHeartbeats 1600000 in
theorem crg_few1 (n c f lo hi : Int) (p a q : Nat) (s : ByteArray) (w : World) (hf : (f != 1) = true) (hk : spk n c f lo hi = 0) (hs : s.size ≤ 1000000) (hp : p ≤ s.size) (h : (a : Int) < lo)
    (hg : ∀ W, Calls Tryd.prog 25 #[.int .i64 1, .int .i64 f, .string s, .int .i64 (p : Int)] W fun e w' => e = .returned (.tuple #[.int .i64 (a : Int), .int .i64 (q : Int), .int .i64 0]) ∧ Below W.heap.size W w') :
    Calls Tryd.prog 12 #[.int .i64 1, .agg #[.int .i64 n, .int .i64 c, .int .i64 f, .int .i64 lo, .int .i64 hi], .string s, .int .i64 (p : Int)] w fun e w' => e = .returned (.tuple #[.string ⟨#[]⟩, .int .i64 0, .int .i64 5]) ∧ Below w.heap.size w w' := by
  have HC := Lib.hid (fun W => sprefCheck_any n c f lo hi W)
  rw [hk] at HC
  have HG := Lib.hid hg
  have t1 : decide ((p : Int) < 0) = false := by simp
  have t2 : decide (s.size < p) = false := by simp; omega
  have t3 : decide ((a : Int) < lo) = true := by simpa using h
  clear hg hk h hp
  go_enter Tryd.func12, Tryd.ntmps12
  go_wp2_with fail
  refine (HC.out _).mono ?_
  rintro e w1 ⟨rfl, hb1⟩
  have HB1 := Lib.hid (hbt (below_al _ _) hb1)
  have HO1 := Lib.hid (spec_at hb1)
  obtain ⟨c0, c1, c2, c3, c4⟩ := obj_cells5 HO1.out
  clear hb1
  go_wp2_with fail
  refine (HG.out _).mono ?_
  rintro e w2 ⟨rfl, hb2⟩
  have HB2 := Lib.hid (hbt HB1.out hb2)
  have HO2 := Lib.hid (obj_below HO1.out hb2)
  clear hb2 c0 c1 c2 c3 c4
  obtain ⟨c0, c1, c2, c3, c4⟩ := obj_cells5 HO2.out
  go_wp2
  go_ret3
  exact ⟨rfl, HB2.out⟩
set_option linter.unusedVariables false in
set_option maxHeartbeats 1600000 in
theorem crg_many1 (n c f lo hi : Int) (p a q : Nat) (s : ByteArray) (w : World) (hf : (f != 1) = true) (hk : spk n c f lo hi = 0) (hs : s.size ≤ 1000000) (hp : p ≤ s.size) (h : hi < (a : Int)) (hn : ¬ (a : Int) < lo)
    (hg : ∀ W, Calls Tryd.prog 25 #[.int .i64 1, .int .i64 f, .string s, .int .i64 (p : Int)] W fun e w' => e = .returned (.tuple #[.int .i64 (a : Int), .int .i64 (q : Int), .int .i64 0]) ∧ Below W.heap.size W w') :
    Calls Tryd.prog 12 #[.int .i64 1, .agg #[.int .i64 n, .int .i64 c, .int .i64 f, .int .i64 lo, .int .i64 hi], .string s, .int .i64 (p : Int)] w fun e w' => e = .returned (.tuple #[.string ⟨#[]⟩, .int .i64 0, .int .i64 5]) ∧ Below w.heap.size w w' := by
  have HC := Lib.hid (fun W => sprefCheck_any n c f lo hi W)
  rw [hk] at HC
  have HG := Lib.hid hg
  have t1 : decide ((p : Int) < 0) = false := by simp
  have t2 : decide (s.size < p) = false := by simp; omega
  have t3 : decide ((a : Int) < lo) = false := by simpa using hn
  have t4 : decide (hi < (a : Int)) = true := by simpa using h
  clear hg hk h hp hn
  go_enter Tryd.func12, Tryd.ntmps12
  go_wp2_with fail
  refine (HC.out _).mono ?_
  rintro e w1 ⟨rfl, hb1⟩
  have HB1 := Lib.hid (hbt (below_al _ _) hb1)
  have HO1 := Lib.hid (spec_at hb1)
  obtain ⟨c0, c1, c2, c3, c4⟩ := obj_cells5 HO1.out
  clear hb1
  go_wp2_with fail
  refine (HG.out _).mono ?_
  rintro e w2 ⟨rfl, hb2⟩
  have HB2 := Lib.hid (hbt HB1.out hb2)
  have HO2 := Lib.hid (obj_below HO1.out hb2)
  clear hb2 c0 c1 c2 c3 c4
  obtain ⟨c0, c1, c2, c3, c4⟩ := obj_cells5 HO2.out
  go_wp2
  go_ret3
  exact ⟨rfl, HB2.out⟩
set_option linter.unusedVariables false in
set_option maxHeartbeats 1600000 in
theorem crg_check2 (n c f lo hi p : Int) (s : ByteArray) (w : World) (h : spk n c f lo hi ≠ 0) :
    Calls Tryd.prog 12 #[.int .i64 2, .agg #[.int .i64 n, .int .i64 c, .int .i64 f, .int .i64 lo, .int .i64 hi], .string s, .int .i64 p] w fun e w' => e = .returned (.tuple #[.string ⟨#[]⟩, .int .i64 0, .int .i64 1]) ∧ Below w.heap.size w w' := by
  have HC := Lib.hid (fun W => sprefCheck_any n c f lo hi W)
  generalize spk n c f lo hi = x at *
  have t1 : (x != 0) = true := by simpa using h
  clear h
  go_enter Tryd.func12, Tryd.ntmps12
  go_wp2_with fail
  refine (HC.out _).mono ?_
  rintro e w1 ⟨rfl, hb1⟩
  have HB1 := Lib.hid (hbt (below_al _ _) hb1)
  have HO1 := Lib.hid (spec_at hb1)
  obtain ⟨c0, c1, c2, c3, c4⟩ := obj_cells5 HO1.out
  clear hb1
  go_wp2
  go_ret3
  exact ⟨rfl, HB1.out⟩
set_option linter.unusedVariables false in
set_option maxHeartbeats 1600000 in
theorem crg_low2 (n c f lo hi p : Int) (s : ByteArray) (w : World) (hk : spk n c f lo hi = 0) (h : p < 0) :
    Calls Tryd.prog 12 #[.int .i64 2, .agg #[.int .i64 n, .int .i64 c, .int .i64 f, .int .i64 lo, .int .i64 hi], .string s, .int .i64 p] w fun e w' => e = .returned (.tuple #[.string ⟨#[]⟩, .int .i64 0, .int .i64 1]) ∧ Below w.heap.size w w' := by
  have HC := Lib.hid (fun W => sprefCheck_any n c f lo hi W)
  rw [hk] at HC
  have t1 : decide (p < 0) = true := by simpa using h
  clear h hk
  go_enter Tryd.func12, Tryd.ntmps12
  go_wp2_with fail
  refine (HC.out _).mono ?_
  rintro e w1 ⟨rfl, hb1⟩
  have HB1 := Lib.hid (hbt (below_al _ _) hb1)
  have HO1 := Lib.hid (spec_at hb1)
  obtain ⟨c0, c1, c2, c3, c4⟩ := obj_cells5 HO1.out
  clear hb1
  go_wp2
  go_ret3
  exact ⟨rfl, HB1.out⟩
set_option linter.unusedVariables false in
set_option maxHeartbeats 1600000 in
theorem crg_high2 (n c f lo hi p : Int) (s : ByteArray) (w : World) (hk : spk n c f lo hi = 0) (h : (s.size : Int) < p) :
    Calls Tryd.prog 12 #[.int .i64 2, .agg #[.int .i64 n, .int .i64 c, .int .i64 f, .int .i64 lo, .int .i64 hi], .string s, .int .i64 p] w fun e w' => e = .returned (.tuple #[.string ⟨#[]⟩, .int .i64 0, .int .i64 1]) ∧ Below w.heap.size w w' := by
  have HC := Lib.hid (fun W => sprefCheck_any n c f lo hi W)
  rw [hk] at HC
  have t1 : decide (p < 0) = false := by simp; omega
  have t2 : decide ((s.size : Int) < p) = true := by simpa using h
  clear h hk
  go_enter Tryd.func12, Tryd.ntmps12
  go_wp2_with fail
  refine (HC.out _).mono ?_
  rintro e w1 ⟨rfl, hb1⟩
  have HB1 := Lib.hid (hbt (below_al _ _) hb1)
  have HO1 := Lib.hid (spec_at hb1)
  obtain ⟨c0, c1, c2, c3, c4⟩ := obj_cells5 HO1.out
  clear hb1
  go_wp2
  go_ret3
  exact ⟨rfl, HB1.out⟩
set_option linter.unusedVariables false in
set_option maxHeartbeats 1600000 in
theorem crg_err2 (n c f lo hi : Int) (p a q : Nat) (s : ByteArray) (w : World) (hf : (f != 1) = true) (hk : spk n c f lo hi = 0) (hs : s.size ≤ 1000000) (hp : p ≤ s.size) (x : Nat) (hx : x ≠ 0)
    (hg : ∀ W, Calls Tryd.prog 25 #[.int .i64 2, .int .i64 f, .string s, .int .i64 (p : Int)] W fun e w' => e = .returned (.tuple #[.int .i64 (a : Int), .int .i64 (q : Int), .int .i64 (x : Int)]) ∧ Below W.heap.size W w') :
    Calls Tryd.prog 12 #[.int .i64 2, .agg #[.int .i64 n, .int .i64 c, .int .i64 f, .int .i64 lo, .int .i64 hi], .string s, .int .i64 (p : Int)] w fun e w' => e = .returned (.tuple #[.string ⟨#[]⟩, .int .i64 0, .int .i64 (x : Int)]) ∧ Below w.heap.size w w' := by
  have HC := Lib.hid (fun W => sprefCheck_any n c f lo hi W)
  rw [hk] at HC
  have HG := Lib.hid hg
  have t1 : decide ((p : Int) < 0) = false := by simp
  have t2 : decide (s.size < p) = false := by simp; omega
  have t3 : ((x : Int) != 0) = true := by simpa using hx
  clear hg hk hx hp
  go_enter Tryd.func12, Tryd.ntmps12
  go_wp2_with fail
  refine (HC.out _).mono ?_
  rintro e w1 ⟨rfl, hb1⟩
  have HB1 := Lib.hid (hbt (below_al _ _) hb1)
  have HO1 := Lib.hid (spec_at hb1)
  obtain ⟨c0, c1, c2, c3, c4⟩ := obj_cells5 HO1.out
  clear hb1
  go_wp2_with fail
  refine (HG.out _).mono ?_
  rintro e w2 ⟨rfl, hb2⟩
  have HB2 := Lib.hid (hbt HB1.out hb2)
  have HO2 := Lib.hid (obj_below HO1.out hb2)
  clear hb2 c0 c1 c2 c3 c4
  obtain ⟨c0, c1, c2, c3, c4⟩ := obj_cells5 HO2.out
  go_wp2
  go_ret3
  exact ⟨rfl, HB2.out⟩
set_option linter.unusedVariables false in
set_option maxHeartbeats 1600000 in
theorem crg_few2 (n c f lo hi : Int) (p a q : Nat) (s : ByteArray) (w : World) (hf : (f != 1) = true) (hk : spk n c f lo hi = 0) (hs : s.size ≤ 1000000) (hp : p ≤ s.size) (h : (a : Int) < lo)
    (hg : ∀ W, Calls Tryd.prog 25 #[.int .i64 2, .int .i64 f, .string s, .int .i64 (p : Int)] W fun e w' => e = .returned (.tuple #[.int .i64 (a : Int), .int .i64 (q : Int), .int .i64 0]) ∧ Below W.heap.size W w') :
    Calls Tryd.prog 12 #[.int .i64 2, .agg #[.int .i64 n, .int .i64 c, .int .i64 f, .int .i64 lo, .int .i64 hi], .string s, .int .i64 (p : Int)] w fun e w' => e = .returned (.tuple #[.string ⟨#[]⟩, .int .i64 0, .int .i64 5]) ∧ Below w.heap.size w w' := by
  have HC := Lib.hid (fun W => sprefCheck_any n c f lo hi W)
  rw [hk] at HC
  have HG := Lib.hid hg
  have t1 : decide ((p : Int) < 0) = false := by simp
  have t2 : decide (s.size < p) = false := by simp; omega
  have t3 : decide ((a : Int) < lo) = true := by simpa using h
  clear hg hk h hp
  go_enter Tryd.func12, Tryd.ntmps12
  go_wp2_with fail
  refine (HC.out _).mono ?_
  rintro e w1 ⟨rfl, hb1⟩
  have HB1 := Lib.hid (hbt (below_al _ _) hb1)
  have HO1 := Lib.hid (spec_at hb1)
  obtain ⟨c0, c1, c2, c3, c4⟩ := obj_cells5 HO1.out
  clear hb1
  go_wp2_with fail
  refine (HG.out _).mono ?_
  rintro e w2 ⟨rfl, hb2⟩
  have HB2 := Lib.hid (hbt HB1.out hb2)
  have HO2 := Lib.hid (obj_below HO1.out hb2)
  clear hb2 c0 c1 c2 c3 c4
  obtain ⟨c0, c1, c2, c3, c4⟩ := obj_cells5 HO2.out
  go_wp2
  go_ret3
  exact ⟨rfl, HB2.out⟩
set_option linter.unusedVariables false in
set_option maxHeartbeats 1600000 in
theorem crg_many2 (n c f lo hi : Int) (p a q : Nat) (s : ByteArray) (w : World) (hf : (f != 1) = true) (hk : spk n c f lo hi = 0) (hs : s.size ≤ 1000000) (hp : p ≤ s.size) (h : hi < (a : Int)) (hn : ¬ (a : Int) < lo)
    (hg : ∀ W, Calls Tryd.prog 25 #[.int .i64 2, .int .i64 f, .string s, .int .i64 (p : Int)] W fun e w' => e = .returned (.tuple #[.int .i64 (a : Int), .int .i64 (q : Int), .int .i64 0]) ∧ Below W.heap.size W w') :
    Calls Tryd.prog 12 #[.int .i64 2, .agg #[.int .i64 n, .int .i64 c, .int .i64 f, .int .i64 lo, .int .i64 hi], .string s, .int .i64 (p : Int)] w fun e w' => e = .returned (.tuple #[.string ⟨#[]⟩, .int .i64 0, .int .i64 5]) ∧ Below w.heap.size w w' := by
  have HC := Lib.hid (fun W => sprefCheck_any n c f lo hi W)
  rw [hk] at HC
  have HG := Lib.hid hg
  have t1 : decide ((p : Int) < 0) = false := by simp
  have t2 : decide (s.size < p) = false := by simp; omega
  have t3 : decide ((a : Int) < lo) = false := by simpa using hn
  have t4 : decide (hi < (a : Int)) = true := by simpa using h
  clear hg hk h hp hn
  go_enter Tryd.func12, Tryd.ntmps12
  go_wp2_with fail
  refine (HC.out _).mono ?_
  rintro e w1 ⟨rfl, hb1⟩
  have HB1 := Lib.hid (hbt (below_al _ _) hb1)
  have HO1 := Lib.hid (spec_at hb1)
  obtain ⟨c0, c1, c2, c3, c4⟩ := obj_cells5 HO1.out
  clear hb1
  go_wp2_with fail
  refine (HG.out _).mono ?_
  rintro e w2 ⟨rfl, hb2⟩
  have HB2 := Lib.hid (hbt HB1.out hb2)
  have HO2 := Lib.hid (obj_below HO1.out hb2)
  clear hb2 c0 c1 c2 c3 c4
  obtain ⟨c0, c1, c2, c3, c4⟩ := obj_cells5 HO2.out
  go_wp2
  go_ret3
  exact ⟨rfl, HB2.out⟩
set_option linter.unusedVariables false in
theorem crt_xa (n c lo : Int) (p a : Nat) (s : ByteArray) (w : World) (hs : s.size ≤ 1000000) (hp : p ≤ s.size) (ha : a ≤ 999) (hc : c = 5 ∨ c = 6)
    (hk : spk n c 1 lo (a : Int) = 0) (h1 : clen 1 1 lo (a : Int) s.data.toList p = (a, p, 0)) :
    Calls Tryd.prog 12 #[.int .i64 1, .agg #[.int .i64 n, .int .i64 c, .int .i64 1, .int .i64 lo, .int .i64 (a : Int)], .string s, .int .i64 (p : Int)] w fun e w' => e = .returned (cgetV (cget 1 n c 1 lo (a : Int) s p)) ∧ Below w.heap.size w w' := by
  have hway : cway 1 c = 2 := by unfold cway; rw [if_neg (by omega), if_pos ⟨rfl, hc⟩]
  have hz : csz (cway 1 c) a = 2 * a := by rw [hway]; rfl
  have hkk := fun W => sprefCheck_any n c 1 lo (a : Int) W
  rw [hk] at hkk
  obtain ⟨a', q', x', e1, g⟩ := cget_cases 1 n c 1 lo (a : Int) s p
  rw [h1] at e1
  cases e1
  rcases g with hx | ⟨_, h2 | ⟨h2, t, y, h3, _⟩⟩
  · exact absurd rfl hx
  · rw [cget_cut h1 h2]
    rw [hz] at h2
    exact crg_xa_cut n c lo p a (2 * a) s w hs hp ha (by simp; omega) (by omega) hkk h2
  · have hxs : (s.extract p (p + csz (cway 1 c) a)).size = csz (cway 1 c) a := by simp; omega
    have e0 : cread 2 (s.extract p (p + csz (cway 1 c) a)) a = (t, y) := (congrFun (congrFun (congrArg cread hway.symm) _) _).trans h3
    have e3 := congrArg Prod.fst e0
    have e4 := congrArg Prod.snd e0
    have h3s := h3
    clear e0
    have hr := fun W => hrefGet_any (s.extract p (p + csz (cway 1 c) a)) W (by omega)
    change hgetS (s.extract p (p + csz (cway 1 c) a)).data.toList = t at e3
    change (if hgetB (s.extract p (p + csz (cway 1 c) a)).data.toList = true then 0 else 3) = y at e4
    rw [e3] at hr
    cases hB : hgetB (s.extract p (p + csz (cway 1 c) a)).data.toList
    · rw [hB] at hr e4
      obtain rfl : y = 3 := e4.symm
      rw [cget_read h1 h2 h3 (by decide)]
      rw [hz] at h2 hr
      exact crg_xa_read n c lo p a (2 * a) s w hs hp ha (by simp; omega) (by omega) hkk h2 _ _ hr
    · rw [hB] at hr e4
      obtain rfl : y = 0 := e4.symm
      have hv := fun W => sprefValue_any n c 1 lo (a : Int) t W (by have := (cread_spell hxs h3s).1; unfold maxLen; omega)
      by_cases h4 : spv n c 1 lo (a : Int) t = 0
      · rw [cget_ok h1 h2 h3 h4]
        rw [h4] at hv
        rw [hz] at h2 hr ⊢
        exact crg_xa_ok n c lo p a (2 * a) s w hs hp ha (by simp; omega) (by omega) hkk h2 _ _ hr hv
      · rw [cget_val h1 h2 h3 h4]
        rw [hz] at h2 hr
        exact crg_xa_val n c lo p a (2 * a) s w hs hp ha (by simp; omega) (by omega) hkk h2 _ _ hr _ (by simpa using h4) hv
set_option linter.unusedVariables false in
theorem crt_xb (n c lo : Int) (p a : Nat) (s : ByteArray) (w : World) (hs : s.size ≤ 1000000) (hp : p ≤ s.size) (ha : a ≤ 999) (hc : c < 5)
    (hk : spk n c 1 lo (a : Int) = 0) (h1 : clen 1 1 lo (a : Int) s.data.toList p = (a, p, 0)) :
    Calls Tryd.prog 12 #[.int .i64 1, .agg #[.int .i64 n, .int .i64 c, .int .i64 1, .int .i64 lo, .int .i64 (a : Int)], .string s, .int .i64 (p : Int)] w fun e w' => e = .returned (cgetV (cget 1 n c 1 lo (a : Int) s p)) ∧ Below w.heap.size w w' := by
  have hway : cway 1 c = 0 := by unfold cway; rw [if_neg (by omega), if_neg (by omega)]
  have hz : csz (cway 1 c) a = a := by rw [hway]; rfl
  have hkk := fun W => sprefCheck_any n c 1 lo (a : Int) W
  rw [hk] at hkk
  obtain ⟨a', q', x', e1, g⟩ := cget_cases 1 n c 1 lo (a : Int) s p
  rw [h1] at e1
  cases e1
  rcases g with hx | ⟨_, h2 | ⟨h2, t, y, h3, _⟩⟩
  · exact absurd rfl hx
  · rw [cget_cut h1 h2]
    rw [hz] at h2
    exact crg_xb_cut n c lo p a s w hs hp ha (by simp; omega) hkk h2
  · have hxs : (s.extract p (p + csz (cway 1 c) a)).size = csz (cway 1 c) a := by simp; omega
    have e0 : cread 0 (s.extract p (p + csz (cway 1 c) a)) a = (t, y) := (congrFun (congrFun (congrArg cread hway.symm) _) _).trans h3
    have e3 := congrArg Prod.fst e0
    have e4 := congrArg Prod.snd e0
    have h3s := h3
    clear e0
    change s.extract p (p + csz (cway 1 c) a) = t at e3
    change 0 = y at e4
    obtain rfl : y = 0 := e4.symm
    have hv := fun W => sprefValue_any n c 1 lo (a : Int) t W (by have := (cread_spell hxs h3s).1; unfold maxLen; omega)
    by_cases h4 : spv n c 1 lo (a : Int) t = 0
    · rw [cget_ok h1 h2 h3 h4]
      rw [h4] at hv
      subst e3
      rw [hz] at h2 hv ⊢
      exact crg_xb_ok n c lo p a s w hs hp ha (by simp; omega) hkk h2 hv
    · rw [cget_val h1 h2 h3 h4]
      subst e3
      rw [hz] at h2 hv ⊢
      exact crg_xb_val n c lo p a s w hs hp ha (by simp; omega) hkk h2 _ (by rw [hz] at h4; simpa using h4) hv
set_option linter.unusedVariables false in
theorem crt_xc (n lo : Int) (p a : Nat) (s : ByteArray) (w : World) (hs : s.size ≤ 1000000) (hp : p ≤ s.size) (ha : a ≤ 999)
    (hk : spk n 1 1 lo (a : Int) = 0) (h1 : clen 2 1 lo (a : Int) s.data.toList p = (a, p, 0)) :
    Calls Tryd.prog 12 #[.int .i64 2, .agg #[.int .i64 n, .int .i64 1, .int .i64 1, .int .i64 lo, .int .i64 (a : Int)], .string s, .int .i64 (p : Int)] w fun e w' => e = .returned (cgetV (cget 2 n 1 1 lo (a : Int) s p)) ∧ Below w.heap.size w w' := by
  have hway : cway 2 1 = 1 := by rfl
  have hz : csz (cway 2 1) a = (a + 1) / 2 := by rw [hway]; rfl
  have hkk := fun W => sprefCheck_any n 1 1 lo (a : Int) W
  rw [hk] at hkk
  obtain ⟨a', q', x', e1, g⟩ := cget_cases 2 n 1 1 lo (a : Int) s p
  rw [h1] at e1
  cases e1
  rcases g with hx | ⟨_, h2 | ⟨h2, t, y, h3, _⟩⟩
  · exact absurd rfl hx
  · rw [cget_cut h1 h2]
    rw [hz] at h2
    exact crg_xc_cut n lo p a ((a + 1) / 2) s w hs hp ha (by omega) hkk h2
  · have hxs : (s.extract p (p + csz (cway 2 1) a)).size = csz (cway 2 1) a := by simp; omega
    have e0 : cread 1 (s.extract p (p + csz (cway 2 1) a)) a = (t, y) := (congrFun (congrFun (congrArg cread hway.symm) _) _).trans h3
    have e3 := congrArg Prod.fst e0
    have e4 := congrArg Prod.snd e0
    have h3s := h3
    clear e0
    have hr := fun W => brefGet_any (s.extract p (p + csz (cway 2 1) a)) (a : Int) W
    unfold bgetV at hr
    change (⟨(bget (s.extract p (p + csz (cway 2 1) a)).data.toList a).1.toArray⟩ : ByteArray) = t at e3
    change (bget (s.extract p (p + csz (cway 2 1) a)).data.toList a).2.1 = y at e4
    rw [e3, e4] at hr
    by_cases hy : y = 0
    · subst hy
      have hv := fun W => sprefValue_any n 1 1 lo (a : Int) t W (by have := (cread_spell hxs h3s).1; unfold maxLen; omega)
      by_cases h4 : spv n 1 1 lo (a : Int) t = 0
      · rw [cget_ok h1 h2 h3 h4]
        rw [h4] at hv
        rw [hz] at h2 hr ⊢
        exact crg_xc_ok n lo p a ((a + 1) / 2) s w hs hp ha (by omega) hkk h2 _ _ hr hv
      · rw [cget_val h1 h2 h3 h4]
        rw [hz] at h2 hr
        exact crg_xc_val n lo p a ((a + 1) / 2) s w hs hp ha (by omega) hkk h2 _ _ hr _ (by simpa using h4) hv
    · rw [cget_read h1 h2 h3 hy]
      rw [hz] at h2 hr
      exact crg_xc_read n lo p a ((a + 1) / 2) s w hs hp ha (by omega) hkk h2 _ _ _ (by simpa using hy) hr
set_option linter.unusedVariables false in
theorem crt_xd (n c lo : Int) (p a : Nat) (s : ByteArray) (w : World) (hs : s.size ≤ 1000000) (hp : p ≤ s.size) (ha : a ≤ 999) (hc : c ≠ 1)
    (hk : spk n c 1 lo (a : Int) = 0) (h1 : clen 2 1 lo (a : Int) s.data.toList p = (a, p, 0)) :
    Calls Tryd.prog 12 #[.int .i64 2, .agg #[.int .i64 n, .int .i64 c, .int .i64 1, .int .i64 lo, .int .i64 (a : Int)], .string s, .int .i64 (p : Int)] w fun e w' => e = .returned (cgetV (cget 2 n c 1 lo (a : Int) s p)) ∧ Below w.heap.size w w' := by
  have hway : cway 2 c = 0 := by unfold cway; rw [if_neg (by omega), if_neg (by omega)]
  have hz : csz (cway 2 c) a = a := by rw [hway]; rfl
  have hkk := fun W => sprefCheck_any n c 1 lo (a : Int) W
  rw [hk] at hkk
  obtain ⟨a', q', x', e1, g⟩ := cget_cases 2 n c 1 lo (a : Int) s p
  rw [h1] at e1
  cases e1
  rcases g with hx | ⟨_, h2 | ⟨h2, t, y, h3, _⟩⟩
  · exact absurd rfl hx
  · rw [cget_cut h1 h2]
    rw [hz] at h2
    exact crg_xd_cut n c lo p a s w hs hp ha (by simpa using hc) hkk h2
  · have hxs : (s.extract p (p + csz (cway 2 c) a)).size = csz (cway 2 c) a := by simp; omega
    have e0 : cread 0 (s.extract p (p + csz (cway 2 c) a)) a = (t, y) := (congrFun (congrFun (congrArg cread hway.symm) _) _).trans h3
    have e3 := congrArg Prod.fst e0
    have e4 := congrArg Prod.snd e0
    have h3s := h3
    clear e0
    change s.extract p (p + csz (cway 2 c) a) = t at e3
    change 0 = y at e4
    obtain rfl : y = 0 := e4.symm
    have hv := fun W => sprefValue_any n c 1 lo (a : Int) t W (by have := (cread_spell hxs h3s).1; unfold maxLen; omega)
    by_cases h4 : spv n c 1 lo (a : Int) t = 0
    · rw [cget_ok h1 h2 h3 h4]
      rw [h4] at hv
      subst e3
      rw [hz] at h2 hv ⊢
      exact crg_xd_ok n c lo p a s w hs hp ha (by simpa using hc) hkk h2 hv
    · rw [cget_val h1 h2 h3 h4]
      subst e3
      rw [hz] at h2 hv ⊢
      exact crg_xd_val n c lo p a s w hs hp ha (by simpa using hc) hkk h2 _ (by rw [hz] at h4; simpa using h4) hv
set_option linter.unusedVariables false in
theorem crt_va (n c lo hi f : Int) (p a q : Nat) (s : ByteArray) (w : World) (hs : s.size ≤ 1000000) (hp : p ≤ s.size) (ha : a ≤ 999) (hq : q ≤ s.size) (hf : (f != 1) = true) (hlo : ¬ ((a : Int) < lo ∨ hi < (a : Int))) (hc : c = 5 ∨ c = 6)
    (hk : spk n c f lo hi = 0) (h1 : clen 1 f lo hi s.data.toList p = (a, q, 0))
    (hg : ∀ W, Calls Tryd.prog 25 #[.int .i64 1, .int .i64 f, .string s, .int .i64 (p : Int)] W fun e w' => e = .returned (.tuple #[.int .i64 (a : Int), .int .i64 (q : Int), .int .i64 0]) ∧ Below W.heap.size W w') :
    Calls Tryd.prog 12 #[.int .i64 1, .agg #[.int .i64 n, .int .i64 c, .int .i64 f, .int .i64 lo, .int .i64 hi], .string s, .int .i64 (p : Int)] w fun e w' => e = .returned (cgetV (cget 1 n c f lo hi s p)) ∧ Below w.heap.size w w' := by
  have hway : cway 1 c = 2 := by unfold cway; rw [if_neg (by omega), if_pos ⟨rfl, hc⟩]
  have hz : csz (cway 1 c) a = 2 * a := by rw [hway]; rfl
  have hkk := fun W => sprefCheck_any n c f lo hi W
  rw [hk] at hkk
  obtain ⟨a', q', x', e1, g⟩ := cget_cases 1 n c f lo hi s p
  rw [h1] at e1
  cases e1
  rcases g with hx | ⟨_, h2 | ⟨h2, t, y, h3, _⟩⟩
  · exact absurd rfl hx
  · rw [cget_cut h1 h2]
    rw [hz] at h2
    exact crg_va_cut n c lo hi f p a q (2 * a) s w hs hp ha hq hf hlo (by simp; omega) (by omega) hkk hg h2
  · have hxs : (s.extract q (q + csz (cway 1 c) a)).size = csz (cway 1 c) a := by simp; omega
    have e0 : cread 2 (s.extract q (q + csz (cway 1 c) a)) a = (t, y) := (congrFun (congrFun (congrArg cread hway.symm) _) _).trans h3
    have e3 := congrArg Prod.fst e0
    have e4 := congrArg Prod.snd e0
    have h3s := h3
    clear e0
    have hr := fun W => hrefGet_any (s.extract q (q + csz (cway 1 c) a)) W (by omega)
    change hgetS (s.extract q (q + csz (cway 1 c) a)).data.toList = t at e3
    change (if hgetB (s.extract q (q + csz (cway 1 c) a)).data.toList = true then 0 else 3) = y at e4
    rw [e3] at hr
    cases hB : hgetB (s.extract q (q + csz (cway 1 c) a)).data.toList
    · rw [hB] at hr e4
      obtain rfl : y = 3 := e4.symm
      rw [cget_read h1 h2 h3 (by decide)]
      rw [hz] at h2 hr
      exact crg_va_read n c lo hi f p a q (2 * a) s w hs hp ha hq hf hlo (by simp; omega) (by omega) hkk hg h2 _ _ hr
    · rw [hB] at hr e4
      obtain rfl : y = 0 := e4.symm
      have hv := fun W => sprefValue_any n c f lo hi t W (by have := (cread_spell hxs h3s).1; unfold maxLen; omega)
      by_cases h4 : spv n c f lo hi t = 0
      · rw [cget_ok h1 h2 h3 h4]
        rw [h4] at hv
        rw [hz] at h2 hr ⊢
        exact crg_va_ok n c lo hi f p a q (2 * a) s w hs hp ha hq hf hlo (by simp; omega) (by omega) hkk hg h2 _ _ hr hv
      · rw [cget_val h1 h2 h3 h4]
        rw [hz] at h2 hr
        exact crg_va_val n c lo hi f p a q (2 * a) s w hs hp ha hq hf hlo (by simp; omega) (by omega) hkk hg h2 _ _ hr _ (by simpa using h4) hv
set_option linter.unusedVariables false in
theorem crt_vb (n c lo hi f : Int) (p a q : Nat) (s : ByteArray) (w : World) (hs : s.size ≤ 1000000) (hp : p ≤ s.size) (ha : a ≤ 999) (hq : q ≤ s.size) (hf : (f != 1) = true) (hlo : ¬ ((a : Int) < lo ∨ hi < (a : Int))) (hc : c < 5)
    (hk : spk n c f lo hi = 0) (h1 : clen 1 f lo hi s.data.toList p = (a, q, 0))
    (hg : ∀ W, Calls Tryd.prog 25 #[.int .i64 1, .int .i64 f, .string s, .int .i64 (p : Int)] W fun e w' => e = .returned (.tuple #[.int .i64 (a : Int), .int .i64 (q : Int), .int .i64 0]) ∧ Below W.heap.size W w') :
    Calls Tryd.prog 12 #[.int .i64 1, .agg #[.int .i64 n, .int .i64 c, .int .i64 f, .int .i64 lo, .int .i64 hi], .string s, .int .i64 (p : Int)] w fun e w' => e = .returned (cgetV (cget 1 n c f lo hi s p)) ∧ Below w.heap.size w w' := by
  have hway : cway 1 c = 0 := by unfold cway; rw [if_neg (by omega), if_neg (by omega)]
  have hz : csz (cway 1 c) a = a := by rw [hway]; rfl
  have hkk := fun W => sprefCheck_any n c f lo hi W
  rw [hk] at hkk
  obtain ⟨a', q', x', e1, g⟩ := cget_cases 1 n c f lo hi s p
  rw [h1] at e1
  cases e1
  rcases g with hx | ⟨_, h2 | ⟨h2, t, y, h3, _⟩⟩
  · exact absurd rfl hx
  · rw [cget_cut h1 h2]
    rw [hz] at h2
    exact crg_vb_cut n c lo hi f p a q s w hs hp ha hq hf hlo (by simp; omega) hkk hg h2
  · have hxs : (s.extract q (q + csz (cway 1 c) a)).size = csz (cway 1 c) a := by simp; omega
    have e0 : cread 0 (s.extract q (q + csz (cway 1 c) a)) a = (t, y) := (congrFun (congrFun (congrArg cread hway.symm) _) _).trans h3
    have e3 := congrArg Prod.fst e0
    have e4 := congrArg Prod.snd e0
    have h3s := h3
    clear e0
    change s.extract q (q + csz (cway 1 c) a) = t at e3
    change 0 = y at e4
    obtain rfl : y = 0 := e4.symm
    have hv := fun W => sprefValue_any n c f lo hi t W (by have := (cread_spell hxs h3s).1; unfold maxLen; omega)
    by_cases h4 : spv n c f lo hi t = 0
    · rw [cget_ok h1 h2 h3 h4]
      rw [h4] at hv
      subst e3
      rw [hz] at h2 hv ⊢
      exact crg_vb_ok n c lo hi f p a q s w hs hp ha hq hf hlo (by simp; omega) hkk hg h2 hv
    · rw [cget_val h1 h2 h3 h4]
      subst e3
      rw [hz] at h2 hv ⊢
      exact crg_vb_val n c lo hi f p a q s w hs hp ha hq hf hlo (by simp; omega) hkk hg h2 _ (by rw [hz] at h4; simpa using h4) hv
set_option linter.unusedVariables false in
theorem crt_vc (n lo hi f : Int) (p a q : Nat) (s : ByteArray) (w : World) (hs : s.size ≤ 1000000) (hp : p ≤ s.size) (ha : a ≤ 999) (hq : q ≤ s.size) (hf : (f != 1) = true) (hlo : ¬ ((a : Int) < lo ∨ hi < (a : Int)))
    (hk : spk n 1 f lo hi = 0) (h1 : clen 2 f lo hi s.data.toList p = (a, q, 0))
    (hg : ∀ W, Calls Tryd.prog 25 #[.int .i64 2, .int .i64 f, .string s, .int .i64 (p : Int)] W fun e w' => e = .returned (.tuple #[.int .i64 (a : Int), .int .i64 (q : Int), .int .i64 0]) ∧ Below W.heap.size W w') :
    Calls Tryd.prog 12 #[.int .i64 2, .agg #[.int .i64 n, .int .i64 1, .int .i64 f, .int .i64 lo, .int .i64 hi], .string s, .int .i64 (p : Int)] w fun e w' => e = .returned (cgetV (cget 2 n 1 f lo hi s p)) ∧ Below w.heap.size w w' := by
  have hway : cway 2 1 = 1 := by rfl
  have hz : csz (cway 2 1) a = (a + 1) / 2 := by rw [hway]; rfl
  have hkk := fun W => sprefCheck_any n 1 f lo hi W
  rw [hk] at hkk
  obtain ⟨a', q', x', e1, g⟩ := cget_cases 2 n 1 f lo hi s p
  rw [h1] at e1
  cases e1
  rcases g with hx | ⟨_, h2 | ⟨h2, t, y, h3, _⟩⟩
  · exact absurd rfl hx
  · rw [cget_cut h1 h2]
    rw [hz] at h2
    exact crg_vc_cut n lo hi f p a q ((a + 1) / 2) s w hs hp ha hq hf hlo (by omega) hkk hg h2
  · have hxs : (s.extract q (q + csz (cway 2 1) a)).size = csz (cway 2 1) a := by simp; omega
    have e0 : cread 1 (s.extract q (q + csz (cway 2 1) a)) a = (t, y) := (congrFun (congrFun (congrArg cread hway.symm) _) _).trans h3
    have e3 := congrArg Prod.fst e0
    have e4 := congrArg Prod.snd e0
    have h3s := h3
    clear e0
    have hr := fun W => brefGet_any (s.extract q (q + csz (cway 2 1) a)) (a : Int) W
    unfold bgetV at hr
    change (⟨(bget (s.extract q (q + csz (cway 2 1) a)).data.toList a).1.toArray⟩ : ByteArray) = t at e3
    change (bget (s.extract q (q + csz (cway 2 1) a)).data.toList a).2.1 = y at e4
    rw [e3, e4] at hr
    by_cases hy : y = 0
    · subst hy
      have hv := fun W => sprefValue_any n 1 f lo hi t W (by have := (cread_spell hxs h3s).1; unfold maxLen; omega)
      by_cases h4 : spv n 1 f lo hi t = 0
      · rw [cget_ok h1 h2 h3 h4]
        rw [h4] at hv
        rw [hz] at h2 hr ⊢
        exact crg_vc_ok n lo hi f p a q ((a + 1) / 2) s w hs hp ha hq hf hlo (by omega) hkk hg h2 _ _ hr hv
      · rw [cget_val h1 h2 h3 h4]
        rw [hz] at h2 hr
        exact crg_vc_val n lo hi f p a q ((a + 1) / 2) s w hs hp ha hq hf hlo (by omega) hkk hg h2 _ _ hr _ (by simpa using h4) hv
    · rw [cget_read h1 h2 h3 hy]
      rw [hz] at h2 hr
      exact crg_vc_read n lo hi f p a q ((a + 1) / 2) s w hs hp ha hq hf hlo (by omega) hkk hg h2 _ _ _ (by simpa using hy) hr
set_option linter.unusedVariables false in
theorem crt_vd (n c lo hi f : Int) (p a q : Nat) (s : ByteArray) (w : World) (hs : s.size ≤ 1000000) (hp : p ≤ s.size) (ha : a ≤ 999) (hq : q ≤ s.size) (hf : (f != 1) = true) (hlo : ¬ ((a : Int) < lo ∨ hi < (a : Int))) (hc : c ≠ 1)
    (hk : spk n c f lo hi = 0) (h1 : clen 2 f lo hi s.data.toList p = (a, q, 0))
    (hg : ∀ W, Calls Tryd.prog 25 #[.int .i64 2, .int .i64 f, .string s, .int .i64 (p : Int)] W fun e w' => e = .returned (.tuple #[.int .i64 (a : Int), .int .i64 (q : Int), .int .i64 0]) ∧ Below W.heap.size W w') :
    Calls Tryd.prog 12 #[.int .i64 2, .agg #[.int .i64 n, .int .i64 c, .int .i64 f, .int .i64 lo, .int .i64 hi], .string s, .int .i64 (p : Int)] w fun e w' => e = .returned (cgetV (cget 2 n c f lo hi s p)) ∧ Below w.heap.size w w' := by
  have hway : cway 2 c = 0 := by unfold cway; rw [if_neg (by omega), if_neg (by omega)]
  have hz : csz (cway 2 c) a = a := by rw [hway]; rfl
  have hkk := fun W => sprefCheck_any n c f lo hi W
  rw [hk] at hkk
  obtain ⟨a', q', x', e1, g⟩ := cget_cases 2 n c f lo hi s p
  rw [h1] at e1
  cases e1
  rcases g with hx | ⟨_, h2 | ⟨h2, t, y, h3, _⟩⟩
  · exact absurd rfl hx
  · rw [cget_cut h1 h2]
    rw [hz] at h2
    exact crg_vd_cut n c lo hi f p a q s w hs hp ha hq hf hlo (by simpa using hc) hkk hg h2
  · have hxs : (s.extract q (q + csz (cway 2 c) a)).size = csz (cway 2 c) a := by simp; omega
    have e0 : cread 0 (s.extract q (q + csz (cway 2 c) a)) a = (t, y) := (congrFun (congrFun (congrArg cread hway.symm) _) _).trans h3
    have e3 := congrArg Prod.fst e0
    have e4 := congrArg Prod.snd e0
    have h3s := h3
    clear e0
    change s.extract q (q + csz (cway 2 c) a) = t at e3
    change 0 = y at e4
    obtain rfl : y = 0 := e4.symm
    have hv := fun W => sprefValue_any n c f lo hi t W (by have := (cread_spell hxs h3s).1; unfold maxLen; omega)
    by_cases h4 : spv n c f lo hi t = 0
    · rw [cget_ok h1 h2 h3 h4]
      rw [h4] at hv
      subst e3
      rw [hz] at h2 hv ⊢
      exact crg_vd_ok n c lo hi f p a q s w hs hp ha hq hf hlo (by simpa using hc) hkk hg h2 hv
    · rw [cget_val h1 h2 h3 h4]
      subst e3
      rw [hz] at h2 hv ⊢
      exact crg_vd_val n c lo hi f p a q s w hs hp ha hq hf hlo (by simpa using hc) hkk hg h2 _ (by rw [hz] at h4; simpa using h4) hv

theorem prefGet_int {st p : Nat} {f : Int} (s : ByteArray) (W : World) (hst : st = 1 ∨ st = 2) (hf : f = 2 ∨ f = 3) (hs : s.size ≤ 1000000) (hp : p ≤ s.size) :
    Calls Tryd.prog 25 #[.int .i64 (st : Int), .int .i64 f, .string s, .int .i64 (p : Int)] W fun e w' => e = .returned (pgetV (pget st f.toNat s.data.toList p)) ∧ Below W.heap.size W w' := by
  rcases hf with rfl | rfl
  · exact prefGet_any st 2 p s W hst (.inl rfl) hs hp
  · exact prefGet_any st 3 p s W hst (.inr rfl) hs hp

/-- What the document's Get answers at a place of a text. -/
theorem crget_any (st p : Nat) (n c f lo hi : Int) (s : ByteArray) (w : World) (hst : st = 1 ∨ st = 2) (hk : spk n c f lo hi = 0) (hs : s.size ≤ 1000000) (hp : p ≤ s.size) :
    Calls Tryd.prog 12 #[.int .i64 (st : Int), .agg #[.int .i64 n, .int .i64 c, .int .i64 f, .int .i64 lo, .int .i64 hi], .string s, .int .i64 (p : Int)] w fun e w' => e = .returned (cgetV (cget st n c f lo hi s p)) ∧ Below w.heap.size w w' := by
  obtain ⟨hC, k1, k2, k3⟩ := spk_in hk
  rw [isC_iff] at hC
  by_cases hf : f = 1
  · subst hf
    obtain ⟨a, rfl⟩ := Int.eq_ofNat_of_zero_le (show 0 ≤ hi by omega)
    have h1 := clen_fixed st lo (a : Int) s.data.toList p
    rw [Int.toNat_natCast] at h1
    rcases hst with rfl | rfl
    · by_cases h5 : 5 ≤ c
      · exact crt_xa n c lo p a s w hs hp (by omega) (by omega) hk h1
      · exact crt_xb n c lo p a s w hs hp (by omega) (by omega) hk h1
    · by_cases h5 : c = 1
      · subst h5
        exact crt_xc n lo p a s w hs hp (by omega) hk h1
      · exact crt_xd n c lo p a s w hs hp (by omega) h5 hk h1
  · have hf2 : f = 2 ∨ f = 3 := by have := (spk_more hk).1; omega
    have hf1 : (f != 1) = true := by simpa using hf
    have hg := fun W => prefGet_int s W hst hf2 hs hp
    unfold pgetV at hg
    by_cases h : (pget st f.toNat s.data.toList p).2.2 = 0
    · rw [h] at hg
      by_cases h0 : ((pget st f.toNat s.data.toList p).1 : Int) < lo ∨ hi < ((pget st f.toNat s.data.toList p).1 : Int)
      · rw [cget_len (clen_range hf h h0) (by decide)]
        by_cases h2 : ((pget st f.toNat s.data.toList p).1 : Int) < lo
        · rcases hst with rfl | rfl
          · exact crg_few1 n c f lo hi p _ _ s w hf1 hk hs hp h2 hg
          · exact crg_few2 n c f lo hi p _ _ s w hf1 hk hs hp h2 hg
        · rcases hst with rfl | rfl
          · exact crg_many1 n c f lo hi p _ _ s w hf1 hk hs hp (by omega) h2 hg
          · exact crg_many2 n c f lo hi p _ _ s w hf1 hk hs hp (by omega) h2 hg
      · obtain ⟨g1, g2, _⟩ := pget_zero h
        rw [list_size] at g1
        have h1 : clen st f lo hi s.data.toList p = ((pget st f.toNat s.data.toList p).1, (pget st f.toNat s.data.toList p).2.1, 0) := by
          rw [clen_ok hf h h0]
          conv => lhs; rw [← Prod.eta (pget st f.toNat s.data.toList p), ← Prod.eta (pget st f.toNat s.data.toList p).2, h]
        generalize (pget st f.toNat s.data.toList p).1 = a at *
        generalize (pget st f.toNat s.data.toList p).2.1 = q at *
        rcases hst with rfl | rfl
        · by_cases h5 : 5 ≤ c
          · exact crt_va n c lo hi f p a q s w hs hp (by omega) (by omega) hf1 h0 (by omega) hk h1 hg
          · exact crt_vb n c lo hi f p a q s w hs hp (by omega) (by omega) hf1 h0 (by omega) hk h1 hg
        · by_cases h5 : c = 1
          · subst h5
            exact crt_vc n lo hi f p a q s w hs hp (by omega) (by omega) hf1 h0 hk h1 hg
          · exact crt_vd n c lo hi f p a q s w hs hp (by omega) (by omega) hf1 h0 h5 hk h1 hg
    · rw [cget_len (clen_err hf h) h]
      rcases hst with rfl | rfl
      · exact crg_err1 n c f lo hi p _ _ s w hf1 hk hs hp _ h hg
      · exact crg_err2 n c f lo hi p _ _ s w hf1 hk hs hp _ h hg

end Go.Proofs.YtjmpjdefafkldaaDoor
