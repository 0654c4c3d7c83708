/-
  What the document's Get answers, where the length is told.
-/
import Derived.Test.YtjmpjdefafkldaaDoorCelGet
import Derived.Test.YtjmpjdefafkldaaDoorPackPfx
import Derived.Test.YtjmpjdefafkldaaDoorPackHex
import Derived.Test.YtjmpjdefafkldaaDoorPackBcd
namespace Go.Proofs.YtjmpjdefafkldaaDoor
open Go.RowKit

set_option linter.unusedVariables false in
set_option maxHeartbeats 1600000 in
theorem crg_va_cut (n c lo hi f : Int) (p a q z : Nat) (s : ByteArray) (w : World)
    (hs : s.size ≤ 1000000) (hp : p ≤ s.size) (ha : a ≤ 999) (hq : q ≤ s.size) (hf : (f != 1) = true) (hlo : ¬ ((a : Int) < lo ∨ hi < (a : Int)))
    (hc : decide (5 ≤ c) = true)
    (hzq : (a : Int) + (a : Int) = (z : Int))
    (hk : ∀ W, Calls Tryd.prog 24 #[.agg #[.int .i64 n, .int .i64 c, .int .i64 f, .int .i64 lo, .int .i64 hi]] W fun e w' => e = .returned (.int .i64 0) ∧ Below W.heap.size W w')
    (hg : ∀ W, Calls Tryd.prog 25 #[.int .i64 1, .int .i64 f, .string s, .int .i64 (p : Int)] W fun e w' => e = .returned (.tuple #[.int .i64 (a : Int), .int .i64 (q : Int), .int .i64 0]) ∧ Below W.heap.size W w')
    (h : s.size < q + z) :
    Calls Tryd.prog 12 #[.int .i64 1, .agg #[.int .i64 n, .int .i64 c, .int .i64 f, .int .i64 lo, .int .i64 hi], .string s, .int .i64 (p : Int)] w fun e w' => e = .returned (.tuple #[.string ⟨#[]⟩, .int .i64 0, .int .i64 2]) ∧ Below w.heap.size w w' := by
  have HK := Lib.hid hk
  have t1 : decide ((p : Int) < 0) = false := by simp
  have t2 : decide (s.size < p) = false := by simp; omega
  have HG := Lib.hid hg
  have t3 : decide ((a : Int) < lo) = false := by simp; omega
  have t4 : decide (hi < (a : Int)) = false := by simp; omega
  have hzb : z ≤ 2000 := by omega
  have t5 : decide ((s.size : Int) - (q : Int) < (z : Int)) = true := by simp; omega
  clear hk hg hlo h
  go_enter Tryd.func12, Tryd.ntmps12
  go_wp2_with fail
  refine (HK.out _).mono ?_
  rintro e w1 ⟨rfl, hb1⟩
  have HB1 := Lib.hid (hbt (below_al _ _) hb1)
  have HO1 := Lib.hid (spec_at hb1)
  obtain ⟨c0, c1, c2, c3, c4⟩ := obj_cells5 HO1.out
  clear hb1
  go_wp2_with fail
  refine (HG.out _).mono ?_
  rintro e w2 ⟨rfl, hb2⟩
  have HB2 := Lib.hid (hbt HB1.out hb2)
  have HO2 := Lib.hid (obj_below HO1.out hb2)
  clear hb2 c0 c1 c2 c3 c4
  obtain ⟨c0, c1, c2, c3, c4⟩ := obj_cells5 HO2.out
  go_wp2
  go_ret3
  exact ⟨rfl, HB2.out⟩
set_option linter.unusedVariables false in
set_option maxHeartbeats 1600000 in
theorem crg_va_read (n c lo hi f : Int) (p a q z : Nat) (s : ByteArray) (w : World)
    (hs : s.size ≤ 1000000) (hp : p ≤ s.size) (ha : a ≤ 999) (hq : q ≤ s.size) (hf : (f != 1) = true) (hlo : ¬ ((a : Int) < lo ∨ hi < (a : Int)))
    (hc : decide (5 ≤ c) = true)
    (hzq : (a : Int) + (a : Int) = (z : Int))
    (hk : ∀ W, Calls Tryd.prog 24 #[.agg #[.int .i64 n, .int .i64 c, .int .i64 f, .int .i64 lo, .int .i64 hi]] W fun e w' => e = .returned (.int .i64 0) ∧ Below W.heap.size W w')
    (hg : ∀ W, Calls Tryd.prog 25 #[.int .i64 1, .int .i64 f, .string s, .int .i64 (p : Int)] W fun e w' => e = .returned (.tuple #[.int .i64 (a : Int), .int .i64 (q : Int), .int .i64 0]) ∧ Below W.heap.size W w')
    (h : q + z ≤ s.size)
    (t : ByteArray) (y : Int)
    (hr : ∀ W, Calls Tryd.prog 27 #[.string (s.extract q (q + z))] W fun e w' => e = .returned (.tuple #[.string t, .int .i64 y, .bool false]) ∧ Below W.heap.size W w') :
    Calls Tryd.prog 12 #[.int .i64 1, .agg #[.int .i64 n, .int .i64 c, .int .i64 f, .int .i64 lo, .int .i64 hi], .string s, .int .i64 (p : Int)] w fun e w' => e = .returned (.tuple #[.string ⟨#[]⟩, .int .i64 0, .int .i64 3]) ∧ Below w.heap.size w w' := by
  have HK := Lib.hid hk
  have t1 : decide ((p : Int) < 0) = false := by simp
  have t2 : decide (s.size < p) = false := by simp; omega
  have HG := Lib.hid hg
  have t3 : decide ((a : Int) < lo) = false := by simp; omega
  have t4 : decide (hi < (a : Int)) = false := by simp; omega
  have hzb : z ≤ 2000 := by omega
  have t5 : decide ((s.size : Int) - (q : Int) < (z : Int)) = false := by simp; omega
  have HR := Lib.hid hr
  clear hk hg hlo hr
  go_enter Tryd.func12, Tryd.ntmps12
  go_wp2_with fail
  refine (HK.out _).mono ?_
  rintro e w1 ⟨rfl, hb1⟩
  have HB1 := Lib.hid (hbt (below_al _ _) hb1)
  have HO1 := Lib.hid (spec_at hb1)
  obtain ⟨c0, c1, c2, c3, c4⟩ := obj_cells5 HO1.out
  clear hb1
  go_wp2_with fail
  refine (HG.out _).mono ?_
  rintro e w2 ⟨rfl, hb2⟩
  have HB2 := Lib.hid (hbt HB1.out hb2)
  have HO2 := Lib.hid (obj_below HO1.out hb2)
  clear hb2 c0 c1 c2 c3 c4
  obtain ⟨c0, c1, c2, c3, c4⟩ := obj_cells5 HO2.out
  go_wp2_with fail
  refine (HR.out _).mono ?_
  rintro e w3 ⟨rfl, hb3⟩
  have HB3 := Lib.hid (hbt HB2.out hb3)
  have HO3 := Lib.hid (obj_below HO2.out hb3)
  clear hb3 c0 c1 c2 c3 c4
  obtain ⟨c0, c1, c2, c3, c4⟩ := obj_cells5 HO3.out
  go_wp2
  go_ret3
  exact ⟨rfl, HB3.out⟩
set_option linter.unusedVariables false in
set_option maxHeartbeats 1600000 in
theorem crg_va_val (n c lo hi f : Int) (p a q z : Nat) (s : ByteArray) (w : World)
    (hs : s.size ≤ 1000000) (hp : p ≤ s.size) (ha : a ≤ 999) (hq : q ≤ s.size) (hf : (f != 1) = true) (hlo : ¬ ((a : Int) < lo ∨ hi < (a : Int)))
    (hc : decide (5 ≤ c) = true)
    (hzq : (a : Int) + (a : Int) = (z : Int))
    (hk : ∀ W, Calls Tryd.prog 24 #[.agg #[.int .i64 n, .int .i64 c, .int .i64 f, .int .i64 lo, .int .i64 hi]] W fun e w' => e = .returned (.int .i64 0) ∧ Below W.heap.size W w')
    (hg : ∀ W, Calls Tryd.prog 25 #[.int .i64 1, .int .i64 f, .string s, .int .i64 (p : Int)] W fun e w' => e = .returned (.tuple #[.int .i64 (a : Int), .int .i64 (q : Int), .int .i64 0]) ∧ Below W.heap.size W w')
    (h : q + z ≤ s.size)
    (t : ByteArray) (y : Int)
    (hr : ∀ W, Calls Tryd.prog 27 #[.string (s.extract q (q + z))] W fun e w' => e = .returned (.tuple #[.string t, .int .i64 y, .bool true]) ∧ Below W.heap.size W w')
    (x : Int) (hx : (x != 0) = true)
    (hv : ∀ W, Calls Tryd.prog 17 #[.agg #[.int .i64 n, .int .i64 c, .int .i64 f, .int .i64 lo, .int .i64 hi], .string t] W fun e w' => e = .returned (.int .i64 x) ∧ Below W.heap.size W w') :
    Calls Tryd.prog 12 #[.int .i64 1, .agg #[.int .i64 n, .int .i64 c, .int .i64 f, .int .i64 lo, .int .i64 hi], .string s, .int .i64 (p : Int)] w fun e w' => e = .returned (.tuple #[.string ⟨#[]⟩, .int .i64 0, .int .i64 x]) ∧ Below w.heap.size w w' := by
  have HK := Lib.hid hk
  have t1 : decide ((p : Int) < 0) = false := by simp
  have t2 : decide (s.size < p) = false := by simp; omega
  have HG := Lib.hid hg
  have t3 : decide ((a : Int) < lo) = false := by simp; omega
  have t4 : decide (hi < (a : Int)) = false := by simp; omega
  have hzb : z ≤ 2000 := by omega
  have t5 : decide ((s.size : Int) - (q : Int) < (z : Int)) = false := by simp; omega
  have HR := Lib.hid hr
  have HV := Lib.hid hv
  clear hk hg hlo hv hr
  go_enter Tryd.func12, Tryd.ntmps12
  go_wp2_with fail
  refine (HK.out _).mono ?_
  rintro e w1 ⟨rfl, hb1⟩
  have HB1 := Lib.hid (hbt (below_al _ _) hb1)
  have HO1 := Lib.hid (spec_at hb1)
  obtain ⟨c0, c1, c2, c3, c4⟩ := obj_cells5 HO1.out
  clear hb1
  go_wp2_with fail
  refine (HG.out _).mono ?_
  rintro e w2 ⟨rfl, hb2⟩
  have HB2 := Lib.hid (hbt HB1.out hb2)
  have HO2 := Lib.hid (obj_below HO1.out hb2)
  clear hb2 c0 c1 c2 c3 c4
  obtain ⟨c0, c1, c2, c3, c4⟩ := obj_cells5 HO2.out
  go_wp2_with fail
  refine (HR.out _).mono ?_
  rintro e w3 ⟨rfl, hb3⟩
  have HB3 := Lib.hid (hbt HB2.out hb3)
  have HO3 := Lib.hid (obj_below HO2.out hb3)
  clear hb3 c0 c1 c2 c3 c4
  obtain ⟨c0, c1, c2, c3, c4⟩ := obj_cells5 HO3.out
  go_wp2_with fail
  refine (HV.out _).mono ?_
  rintro e w4 ⟨rfl, hb4⟩
  have HB4 := Lib.hid (hbt HB3.out hb4)
  have HO4 := Lib.hid (obj_below HO3.out hb4)
  clear hb4 c0 c1 c2 c3 c4
  obtain ⟨c0, c1, c2, c3, c4⟩ := obj_cells5 HO4.out
  go_wp2
  go_ret3
  exact ⟨rfl, HB4.out⟩
set_option linter.unusedVariables false in
set_option maxHeartbeats 1600000 in
theorem crg_va_ok (n c lo hi f : Int) (p a q z : Nat) (s : ByteArray) (w : World)
    (hs : s.size ≤ 1000000) (hp : p ≤ s.size) (ha : a ≤ 999) (hq : q ≤ s.size) (hf : (f != 1) = true) (hlo : ¬ ((a : Int) < lo ∨ hi < (a : Int)))
    (hc : decide (5 ≤ c) = true)
    (hzq : (a : Int) + (a : Int) = (z : Int))
    (hk : ∀ W, Calls Tryd.prog 24 #[.agg #[.int .i64 n, .int .i64 c, .int .i64 f, .int .i64 lo, .int .i64 hi]] W fun e w' => e = .returned (.int .i64 0) ∧ Below W.heap.size W w')
    (hg : ∀ W, Calls Tryd.prog 25 #[.int .i64 1, .int .i64 f, .string s, .int .i64 (p : Int)] W fun e w' => e = .returned (.tuple #[.int .i64 (a : Int), .int .i64 (q : Int), .int .i64 0]) ∧ Below W.heap.size W w')
    (h : q + z ≤ s.size)
    (t : ByteArray) (y : Int)
    (hr : ∀ W, Calls Tryd.prog 27 #[.string (s.extract q (q + z))] W fun e w' => e = .returned (.tuple #[.string t, .int .i64 y, .bool true]) ∧ Below W.heap.size W w')
    (hv : ∀ W, Calls Tryd.prog 17 #[.agg #[.int .i64 n, .int .i64 c, .int .i64 f, .int .i64 lo, .int .i64 hi], .string t] W fun e w' => e = .returned (.int .i64 0) ∧ Below W.heap.size W w') :
    Calls Tryd.prog 12 #[.int .i64 1, .agg #[.int .i64 n, .int .i64 c, .int .i64 f, .int .i64 lo, .int .i64 hi], .string s, .int .i64 (p : Int)] w fun e w' => e = .returned (.tuple #[.string t, .int .i64 ((q + z : Nat) : Int), .int .i64 0]) ∧ Below w.heap.size w w' := by
  have HK := Lib.hid hk
  have t1 : decide ((p : Int) < 0) = false := by simp
  have t2 : decide (s.size < p) = false := by simp; omega
  have HG := Lib.hid hg
  have t3 : decide ((a : Int) < lo) = false := by simp; omega
  have t4 : decide (hi < (a : Int)) = false := by simp; omega
  have hzb : z ≤ 2000 := by omega
  have t5 : decide ((s.size : Int) - (q : Int) < (z : Int)) = false := by simp; omega
  have HR := Lib.hid hr
  have HV := Lib.hid hv
  clear hk hg hlo hv hr
  go_enter Tryd.func12, Tryd.ntmps12
  go_wp2_with fail
  refine (HK.out _).mono ?_
  rintro e w1 ⟨rfl, hb1⟩
  have HB1 := Lib.hid (hbt (below_al _ _) hb1)
  have HO1 := Lib.hid (spec_at hb1)
  obtain ⟨c0, c1, c2, c3, c4⟩ := obj_cells5 HO1.out
  clear hb1
  go_wp2_with fail
  refine (HG.out _).mono ?_
  rintro e w2 ⟨rfl, hb2⟩
  have HB2 := Lib.hid (hbt HB1.out hb2)
  have HO2 := Lib.hid (obj_below HO1.out hb2)
  clear hb2 c0 c1 c2 c3 c4
  obtain ⟨c0, c1, c2, c3, c4⟩ := obj_cells5 HO2.out
  go_wp2_with fail
  refine (HR.out _).mono ?_
  rintro e w3 ⟨rfl, hb3⟩
  have HB3 := Lib.hid (hbt HB2.out hb3)
  have HO3 := Lib.hid (obj_below HO2.out hb3)
  clear hb3 c0 c1 c2 c3 c4
  obtain ⟨c0, c1, c2, c3, c4⟩ := obj_cells5 HO3.out
  go_wp2_with fail
  refine (HV.out _).mono ?_
  rintro e w4 ⟨rfl, hb4⟩
  have HB4 := Lib.hid (hbt HB3.out hb4)
  have HO4 := Lib.hid (obj_below HO3.out hb4)
  clear hb4 c0 c1 c2 c3 c4
  obtain ⟨c0, c1, c2, c3, c4⟩ := obj_cells5 HO4.out
  go_wp2
  go_ret3
  exact ⟨rfl, HB4.out⟩
set_option linter.unusedVariables false in
set_option maxHeartbeats 1600000 in
theorem crg_vb_cut (n c lo hi f : Int) (p a q : Nat) (s : ByteArray) (w : World)
    (hs : s.size ≤ 1000000) (hp : p ≤ s.size) (ha : a ≤ 999) (hq : q ≤ s.size) (hf : (f != 1) = true) (hlo : ¬ ((a : Int) < lo ∨ hi < (a : Int)))
    (hc : decide (5 ≤ c) = false)
    (hk : ∀ W, Calls Tryd.prog 24 #[.agg #[.int .i64 n, .int .i64 c, .int .i64 f, .int .i64 lo, .int .i64 hi]] W fun e w' => e = .returned (.int .i64 0) ∧ Below W.heap.size W w')
    (hg : ∀ W, Calls Tryd.prog 25 #[.int .i64 1, .int .i64 f, .string s, .int .i64 (p : Int)] W fun e w' => e = .returned (.tuple #[.int .i64 (a : Int), .int .i64 (q : Int), .int .i64 0]) ∧ Below W.heap.size W w')
    (h : s.size < q + a) :
    Calls Tryd.prog 12 #[.int .i64 1, .agg #[.int .i64 n, .int .i64 c, .int .i64 f, .int .i64 lo, .int .i64 hi], .string s, .int .i64 (p : Int)] w fun e w' => e = .returned (.tuple #[.string ⟨#[]⟩, .int .i64 0, .int .i64 2]) ∧ Below w.heap.size w w' := by
  have HK := Lib.hid hk
  have t1 : decide ((p : Int) < 0) = false := by simp
  have t2 : decide (s.size < p) = false := by simp; omega
  have HG := Lib.hid hg
  have t3 : decide ((a : Int) < lo) = false := by simp; omega
  have t4 : decide (hi < (a : Int)) = false := by simp; omega
  have t5 : decide ((s.size : Int) - (q : Int) < (a : Int)) = true := by simp; omega
  clear hk hg hlo h
  go_enter Tryd.func12, Tryd.ntmps12
  go_wp2_with fail
  refine (HK.out _).mono ?_
  rintro e w1 ⟨rfl, hb1⟩
  have HB1 := Lib.hid (hbt (below_al _ _) hb1)
  have HO1 := Lib.hid (spec_at hb1)
  obtain ⟨c0, c1, c2, c3, c4⟩ := obj_cells5 HO1.out
  clear hb1
  go_wp2_with fail
  refine (HG.out _).mono ?_
  rintro e w2 ⟨rfl, hb2⟩
  have HB2 := Lib.hid (hbt HB1.out hb2)
  have HO2 := Lib.hid (obj_below HO1.out hb2)
  clear hb2 c0 c1 c2 c3 c4
  obtain ⟨c0, c1, c2, c3, c4⟩ := obj_cells5 HO2.out
  go_wp2
  go_ret3
  exact ⟨rfl, HB2.out⟩
set_option linter.unusedVariables false in
set_option maxHeartbeats 1600000 in
theorem crg_vb_val (n c lo hi f : Int) (p a q : Nat) (s : ByteArray) (w : World)
    (hs : s.size ≤ 1000000) (hp : p ≤ s.size) (ha : a ≤ 999) (hq : q ≤ s.size) (hf : (f != 1) = true) (hlo : ¬ ((a : Int) < lo ∨ hi < (a : Int)))
    (hc : decide (5 ≤ c) = false)
    (hk : ∀ W, Calls Tryd.prog 24 #[.agg #[.int .i64 n, .int .i64 c, .int .i64 f, .int .i64 lo, .int .i64 hi]] W fun e w' => e = .returned (.int .i64 0) ∧ Below W.heap.size W w')
    (hg : ∀ W, Calls Tryd.prog 25 #[.int .i64 1, .int .i64 f, .string s, .int .i64 (p : Int)] W fun e w' => e = .returned (.tuple #[.int .i64 (a : Int), .int .i64 (q : Int), .int .i64 0]) ∧ Below W.heap.size W w')
    (h : q + a ≤ s.size)
    (x : Int) (hx : (x != 0) = true)
    (hv : ∀ W, Calls Tryd.prog 17 #[.agg #[.int .i64 n, .int .i64 c, .int .i64 f, .int .i64 lo, .int .i64 hi], .string (s.extract q (q + a))] W fun e w' => e = .returned (.int .i64 x) ∧ Below W.heap.size W w') :
    Calls Tryd.prog 12 #[.int .i64 1, .agg #[.int .i64 n, .int .i64 c, .int .i64 f, .int .i64 lo, .int .i64 hi], .string s, .int .i64 (p : Int)] w fun e w' => e = .returned (.tuple #[.string ⟨#[]⟩, .int .i64 0, .int .i64 x]) ∧ Below w.heap.size w w' := by
  have HK := Lib.hid hk
  have t1 : decide ((p : Int) < 0) = false := by simp
  have t2 : decide (s.size < p) = false := by simp; omega
  have HG := Lib.hid hg
  have t3 : decide ((a : Int) < lo) = false := by simp; omega
  have t4 : decide (hi < (a : Int)) = false := by simp; omega
  have t5 : decide ((s.size : Int) - (q : Int) < (a : Int)) = false := by simp; omega
  have HV := Lib.hid hv
  clear hk hg hlo hv
  go_enter Tryd.func12, Tryd.ntmps12
  go_wp2_with fail
  refine (HK.out _).mono ?_
  rintro e w1 ⟨rfl, hb1⟩
  have HB1 := Lib.hid (hbt (below_al _ _) hb1)
  have HO1 := Lib.hid (spec_at hb1)
  obtain ⟨c0, c1, c2, c3, c4⟩ := obj_cells5 HO1.out
  clear hb1
  go_wp2_with fail
  refine (HG.out _).mono ?_
  rintro e w2 ⟨rfl, hb2⟩
  have HB2 := Lib.hid (hbt HB1.out hb2)
  have HO2 := Lib.hid (obj_below HO1.out hb2)
  clear hb2 c0 c1 c2 c3 c4
  obtain ⟨c0, c1, c2, c3, c4⟩ := obj_cells5 HO2.out
  go_wp2_with fail
  refine (HV.out _).mono ?_
  rintro e w3 ⟨rfl, hb3⟩
  have HB3 := Lib.hid (hbt HB2.out hb3)
  have HO3 := Lib.hid (obj_below HO2.out hb3)
  clear hb3 c0 c1 c2 c3 c4
  obtain ⟨c0, c1, c2, c3, c4⟩ := obj_cells5 HO3.out
  go_wp2
  go_ret3
  exact ⟨rfl, HB3.out⟩
set_option linter.unusedVariables false in
set_option maxHeartbeats 1600000 in
theorem crg_vb_ok (n c lo hi f : Int) (p a q : Nat) (s : ByteArray) (w : World)
    (hs : s.size ≤ 1000000) (hp : p ≤ s.size) (ha : a ≤ 999) (hq : q ≤ s.size) (hf : (f != 1) = true) (hlo : ¬ ((a : Int) < lo ∨ hi < (a : Int)))
    (hc : decide (5 ≤ c) = false)
    (hk : ∀ W, Calls Tryd.prog 24 #[.agg #[.int .i64 n, .int .i64 c, .int .i64 f, .int .i64 lo, .int .i64 hi]] W fun e w' => e = .returned (.int .i64 0) ∧ Below W.heap.size W w')
    (hg : ∀ W, Calls Tryd.prog 25 #[.int .i64 1, .int .i64 f, .string s, .int .i64 (p : Int)] W fun e w' => e = .returned (.tuple #[.int .i64 (a : Int), .int .i64 (q : Int), .int .i64 0]) ∧ Below W.heap.size W w')
    (h : q + a ≤ s.size)
    (hv : ∀ W, Calls Tryd.prog 17 #[.agg #[.int .i64 n, .int .i64 c, .int .i64 f, .int .i64 lo, .int .i64 hi], .string (s.extract q (q + a))] W fun e w' => e = .returned (.int .i64 0) ∧ Below W.heap.size W w') :
    Calls Tryd.prog 12 #[.int .i64 1, .agg #[.int .i64 n, .int .i64 c, .int .i64 f, .int .i64 lo, .int .i64 hi], .string s, .int .i64 (p : Int)] w fun e w' => e = .returned (.tuple #[.string (s.extract q (q + a)), .int .i64 ((q + a : Nat) : Int), .int .i64 0]) ∧ Below w.heap.size w w' := by
  have HK := Lib.hid hk
  have t1 : decide ((p : Int) < 0) = false := by simp
  have t2 : decide (s.size < p) = false := by simp; omega
  have HG := Lib.hid hg
  have t3 : decide ((a : Int) < lo) = false := by simp; omega
  have t4 : decide (hi < (a : Int)) = false := by simp; omega
  have t5 : decide ((s.size : Int) - (q : Int) < (a : Int)) = false := by simp; omega
  have HV := Lib.hid hv
  clear hk hg hlo hv
  go_enter Tryd.func12, Tryd.ntmps12
  go_wp2_with fail
  refine (HK.out _).mono ?_
  rintro e w1 ⟨rfl, hb1⟩
  have HB1 := Lib.hid (hbt (below_al _ _) hb1)
  have HO1 := Lib.hid (spec_at hb1)
  obtain ⟨c0, c1, c2, c3, c4⟩ := obj_cells5 HO1.out
  clear hb1
  go_wp2_with fail
  refine (HG.out _).mono ?_
  rintro e w2 ⟨rfl, hb2⟩
  have HB2 := Lib.hid (hbt HB1.out hb2)
  have HO2 := Lib.hid (obj_below HO1.out hb2)
  clear hb2 c0 c1 c2 c3 c4
  obtain ⟨c0, c1, c2, c3, c4⟩ := obj_cells5 HO2.out
  go_wp2_with fail
  refine (HV.out _).mono ?_
  rintro e w3 ⟨rfl, hb3⟩
  have HB3 := Lib.hid (hbt HB2.out hb3)
  have HO3 := Lib.hid (obj_below HO2.out hb3)
  clear hb3 c0 c1 c2 c3 c4
  obtain ⟨c0, c1, c2, c3, c4⟩ := obj_cells5 HO3.out
  go_wp2
  go_ret3
  exact ⟨rfl, HB3.out⟩
set_option linter.unusedVariables false in
set_option maxHeartbeats 1600000 in
theorem crg_vc_cut (n lo hi f : Int) (p a q z : Nat) (s : ByteArray) (w : World)
    (hs : s.size ≤ 1000000) (hp : p ≤ s.size) (ha : a ≤ 999) (hq : q ≤ s.size) (hf : (f != 1) = true) (hlo : ¬ ((a : Int) < lo ∨ hi < (a : Int)))
    (hzq : ((a : Int) + 1) / 2 = (z : Int))
    (hk : ∀ W, Calls Tryd.prog 24 #[.agg #[.int .i64 n, .int .i64 1, .int .i64 f, .int .i64 lo, .int .i64 hi]] W fun e w' => e = .returned (.int .i64 0) ∧ Below W.heap.size W w')
    (hg : ∀ W, Calls Tryd.prog 25 #[.int .i64 2, .int .i64 f, .string s, .int .i64 (p : Int)] W fun e w' => e = .returned (.tuple #[.int .i64 (a : Int), .int .i64 (q : Int), .int .i64 0]) ∧ Below W.heap.size W w')
    (h : s.size < q + z) :
    Calls Tryd.prog 12 #[.int .i64 2, .agg #[.int .i64 n, .int .i64 1, .int .i64 f, .int .i64 lo, .int .i64 hi], .string s, .int .i64 (p : Int)] w fun e w' => e = .returned (.tuple #[.string ⟨#[]⟩, .int .i64 0, .int .i64 2]) ∧ Below w.heap.size w w' := by
  have HK := Lib.hid hk
  have t1 : decide ((p : Int) < 0) = false := by simp
  have t2 : decide (s.size < p) = false := by simp; omega
  have HG := Lib.hid hg
  have t3 : decide ((a : Int) < lo) = false := by simp; omega
  have t4 : decide (hi < (a : Int)) = false := by simp; omega
  have hzb : z ≤ 2000 := by omega
  have t5 : decide ((s.size : Int) - (q : Int) < (z : Int)) = true := by simp; omega
  clear hk hg hlo h
  go_enter Tryd.func12, Tryd.ntmps12
  go_wp2_with fail
  refine (HK.out _).mono ?_
  rintro e w1 ⟨rfl, hb1⟩
  have HB1 := Lib.hid (hbt (below_al _ _) hb1)
  have HO1 := Lib.hid (spec_at hb1)
  obtain ⟨c0, c1, c2, c3, c4⟩ := obj_cells5 HO1.out
  clear hb1
  go_wp2_with fail
  refine (HG.out _).mono ?_
  rintro e w2 ⟨rfl, hb2⟩
  have HB2 := Lib.hid (hbt HB1.out hb2)
  have HO2 := Lib.hid (obj_below HO1.out hb2)
  clear hb2 c0 c1 c2 c3 c4
  obtain ⟨c0, c1, c2, c3, c4⟩ := obj_cells5 HO2.out
  go_wp2
  go_ret3
  exact ⟨rfl, HB2.out⟩
set_option linter.unusedVariables false in
set_option maxHeartbeats 1600000 in
theorem crg_vc_read (n lo hi f : Int) (p a q z : Nat) (s : ByteArray) (w : World)
    (hs : s.size ≤ 1000000) (hp : p ≤ s.size) (ha : a ≤ 999) (hq : q ≤ s.size) (hf : (f != 1) = true) (hlo : ¬ ((a : Int) < lo ∨ hi < (a : Int)))
    (hzq : ((a : Int) + 1) / 2 = (z : Int))
    (hk : ∀ W, Calls Tryd.prog 24 #[.agg #[.int .i64 n, .int .i64 1, .int .i64 f, .int .i64 lo, .int .i64 hi]] W fun e w' => e = .returned (.int .i64 0) ∧ Below W.heap.size W w')
    (hg : ∀ W, Calls Tryd.prog 25 #[.int .i64 2, .int .i64 f, .string s, .int .i64 (p : Int)] W fun e w' => e = .returned (.tuple #[.int .i64 (a : Int), .int .i64 (q : Int), .int .i64 0]) ∧ Below W.heap.size W w')
    (h : q + z ≤ s.size)
    (t : ByteArray) (y x : Int) (hx : (x != 0) = true)
    (hr : ∀ W, Calls Tryd.prog 26 #[.string (s.extract q (q + z)), .int .i64 (a : Int)] W fun e w' => e = .returned (.tuple #[.string t, .int .i64 x, .int .i64 y]) ∧ Below W.heap.size W w') :
    Calls Tryd.prog 12 #[.int .i64 2, .agg #[.int .i64 n, .int .i64 1, .int .i64 f, .int .i64 lo, .int .i64 hi], .string s, .int .i64 (p : Int)] w fun e w' => e = .returned (.tuple #[.string ⟨#[]⟩, .int .i64 0, .int .i64 x]) ∧ Below w.heap.size w w' := by
  have HK := Lib.hid hk
  have t1 : decide ((p : Int) < 0) = false := by simp
  have t2 : decide (s.size < p) = false := by simp; omega
  have HG := Lib.hid hg
  have t3 : decide ((a : Int) < lo) = false := by simp; omega
  have t4 : decide (hi < (a : Int)) = false := by simp; omega
  have hzb : z ≤ 2000 := by omega
  have t5 : decide ((s.size : Int) - (q : Int) < (z : Int)) = false := by simp; omega
  have HR := Lib.hid hr
  clear hk hg hlo hr
  go_enter Tryd.func12, Tryd.ntmps12
  go_wp2_with fail
  refine (HK.out _).mono ?_
  rintro e w1 ⟨rfl, hb1⟩
  have HB1 := Lib.hid (hbt (below_al _ _) hb1)
  have HO1 := Lib.hid (spec_at hb1)
  obtain ⟨c0, c1, c2, c3, c4⟩ := obj_cells5 HO1.out
  clear hb1
  go_wp2_with fail
  refine (HG.out _).mono ?_
  rintro e w2 ⟨rfl, hb2⟩
  have HB2 := Lib.hid (hbt HB1.out hb2)
  have HO2 := Lib.hid (obj_below HO1.out hb2)
  clear hb2 c0 c1 c2 c3 c4
  obtain ⟨c0, c1, c2, c3, c4⟩ := obj_cells5 HO2.out
  go_wp2_with fail
  refine (HR.out _).mono ?_
  rintro e w3 ⟨rfl, hb3⟩
  have HB3 := Lib.hid (hbt HB2.out hb3)
  have HO3 := Lib.hid (obj_below HO2.out hb3)
  clear hb3 c0 c1 c2 c3 c4
  obtain ⟨c0, c1, c2, c3, c4⟩ := obj_cells5 HO3.out
  go_wp2
  go_ret3
  exact ⟨rfl, HB3.out⟩
set_option linter.unusedVariables false in
set_option maxHeartbeats 1600000 in
theorem crg_vc_val (n lo hi f : Int) (p a q z : Nat) (s : ByteArray) (w : World)
    (hs : s.size ≤ 1000000) (hp : p ≤ s.size) (ha : a ≤ 999) (hq : q ≤ s.size) (hf : (f != 1) = true) (hlo : ¬ ((a : Int) < lo ∨ hi < (a : Int)))
    (hzq : ((a : Int) + 1) / 2 = (z : Int))
    (hk : ∀ W, Calls Tryd.prog 24 #[.agg #[.int .i64 n, .int .i64 1, .int .i64 f, .int .i64 lo, .int .i64 hi]] W fun e w' => e = .returned (.int .i64 0) ∧ Below W.heap.size W w')
    (hg : ∀ W, Calls Tryd.prog 25 #[.int .i64 2, .int .i64 f, .string s, .int .i64 (p : Int)] W fun e w' => e = .returned (.tuple #[.int .i64 (a : Int), .int .i64 (q : Int), .int .i64 0]) ∧ Below W.heap.size W w')
    (h : q + z ≤ s.size)
    (t : ByteArray) (y : Int)
    (hr : ∀ W, Calls Tryd.prog 26 #[.string (s.extract q (q + z)), .int .i64 (a : Int)] W fun e w' => e = .returned (.tuple #[.string t, .int .i64 0, .int .i64 y]) ∧ Below W.heap.size W w')
    (x : Int) (hx : (x != 0) = true)
    (hv : ∀ W, Calls Tryd.prog 17 #[.agg #[.int .i64 n, .int .i64 1, .int .i64 f, .int .i64 lo, .int .i64 hi], .string t] W fun e w' => e = .returned (.int .i64 x) ∧ Below W.heap.size W w') :
    Calls Tryd.prog 12 #[.int .i64 2, .agg #[.int .i64 n, .int .i64 1, .int .i64 f, .int .i64 lo, .int .i64 hi], .string s, .int .i64 (p : Int)] w fun e w' => e = .returned (.tuple #[.string ⟨#[]⟩, .int .i64 0, .int .i64 x]) ∧ Below w.heap.size w w' := by
  have HK := Lib.hid hk
  have t1 : decide ((p : Int) < 0) = false := by simp
  have t2 : decide (s.size < p) = false := by simp; omega
  have HG := Lib.hid hg
  have t3 : decide ((a : Int) < lo) = false := by simp; omega
  have t4 : decide (hi < (a : Int)) = false := by simp; omega
  have hzb : z ≤ 2000 := by omega
  have t5 : decide ((s.size : Int) - (q : Int) < (z : Int)) = false := by simp; omega
  have HR := Lib.hid hr
  have HV := Lib.hid hv
  clear hk hg hlo hv hr
  go_enter Tryd.func12, Tryd.ntmps12
  go_wp2_with fail
  refine (HK.out _).mono ?_
  rintro e w1 ⟨rfl, hb1⟩
  have HB1 := Lib.hid (hbt (below_al _ _) hb1)
  have HO1 := Lib.hid (spec_at hb1)
  obtain ⟨c0, c1, c2, c3, c4⟩ := obj_cells5 HO1.out
  clear hb1
  go_wp2_with fail
  refine (HG.out _).mono ?_
  rintro e w2 ⟨rfl, hb2⟩
  have HB2 := Lib.hid (hbt HB1.out hb2)
  have HO2 := Lib.hid (obj_below HO1.out hb2)
  clear hb2 c0 c1 c2 c3 c4
  obtain ⟨c0, c1, c2, c3, c4⟩ := obj_cells5 HO2.out
  go_wp2_with fail
  refine (HR.out _).mono ?_
  rintro e w3 ⟨rfl, hb3⟩
  have HB3 := Lib.hid (hbt HB2.out hb3)
  have HO3 := Lib.hid (obj_below HO2.out hb3)
  clear hb3 c0 c1 c2 c3 c4
  obtain ⟨c0, c1, c2, c3, c4⟩ := obj_cells5 HO3.out
  go_wp2_with fail
  refine (HV.out _).mono ?_
  rintro e w4 ⟨rfl, hb4⟩
  have HB4 := Lib.hid (hbt HB3.out hb4)
  have HO4 := Lib.hid (obj_below HO3.out hb4)
  clear hb4 c0 c1 c2 c3 c4
  obtain ⟨c0, c1, c2, c3, c4⟩ := obj_cells5 HO4.out
  go_wp2
  go_ret3
  exact ⟨rfl, HB4.out⟩
set_option linter.unusedVariables false in
set_option maxHeartbeats 1600000 in
theorem crg_vc_ok (n lo hi f : Int) (p a q z : Nat) (s : ByteArray) (w : World)
    (hs : s.size ≤ 1000000) (hp : p ≤ s.size) (ha : a ≤ 999) (hq : q ≤ s.size) (hf : (f != 1) = true) (hlo : ¬ ((a : Int) < lo ∨ hi < (a : Int)))
    (hzq : ((a : Int) + 1) / 2 = (z : Int))
    (hk : ∀ W, Calls Tryd.prog 24 #[.agg #[.int .i64 n, .int .i64 1, .int .i64 f, .int .i64 lo, .int .i64 hi]] W fun e w' => e = .returned (.int .i64 0) ∧ Below W.heap.size W w')
    (hg : ∀ W, Calls Tryd.prog 25 #[.int .i64 2, .int .i64 f, .string s, .int .i64 (p : Int)] W fun e w' => e = .returned (.tuple #[.int .i64 (a : Int), .int .i64 (q : Int), .int .i64 0]) ∧ Below W.heap.size W w')
    (h : q + z ≤ s.size)
    (t : ByteArray) (y : Int)
    (hr : ∀ W, Calls Tryd.prog 26 #[.string (s.extract q (q + z)), .int .i64 (a : Int)] W fun e w' => e = .returned (.tuple #[.string t, .int .i64 0, .int .i64 y]) ∧ Below W.heap.size W w')
    (hv : ∀ W, Calls Tryd.prog 17 #[.agg #[.int .i64 n, .int .i64 1, .int .i64 f, .int .i64 lo, .int .i64 hi], .string t] W fun e w' => e = .returned (.int .i64 0) ∧ Below W.heap.size W w') :
    Calls Tryd.prog 12 #[.int .i64 2, .agg #[.int .i64 n, .int .i64 1, .int .i64 f, .int .i64 lo, .int .i64 hi], .string s, .int .i64 (p : Int)] w fun e w' => e = .returned (.tuple #[.string t, .int .i64 ((q + z : Nat) : Int), .int .i64 0]) ∧ Below w.heap.size w w' := by
  have HK := Lib.hid hk
  have t1 : decide ((p : Int) < 0) = false := by simp
  have t2 : decide (s.size < p) = false := by simp; omega
  have HG := Lib.hid hg
  have t3 : decide ((a : Int) < lo) = false := by simp; omega
  have t4 : decide (hi < (a : Int)) = false := by simp; omega
  have hzb : z ≤ 2000 := by omega
  have t5 : decide ((s.size : Int) - (q : Int) < (z : Int)) = false := by simp; omega
  have HR := Lib.hid hr
  have HV := Lib.hid hv
  clear hk hg hlo hv hr
  go_enter Tryd.func12, Tryd.ntmps12
  go_wp2_with fail
  refine (HK.out _).mono ?_
  rintro e w1 ⟨rfl, hb1⟩
  have HB1 := Lib.hid (hbt (below_al _ _) hb1)
  have HO1 := Lib.hid (spec_at hb1)
  obtain ⟨c0, c1, c2, c3, c4⟩ := obj_cells5 HO1.out
  clear hb1
  go_wp2_with fail
  refine (HG.out _).mono ?_
  rintro e w2 ⟨rfl, hb2⟩
  have HB2 := Lib.hid (hbt HB1.out hb2)
  have HO2 := Lib.hid (obj_below HO1.out hb2)
  clear hb2 c0 c1 c2 c3 c4
  obtain ⟨c0, c1, c2, c3, c4⟩ := obj_cells5 HO2.out
  go_wp2_with fail
  refine (HR.out _).mono ?_
  rintro e w3 ⟨rfl, hb3⟩
  have HB3 := Lib.hid (hbt HB2.out hb3)
  have HO3 := Lib.hid (obj_below HO2.out hb3)
  clear hb3 c0 c1 c2 c3 c4
  obtain ⟨c0, c1, c2, c3, c4⟩ := obj_cells5 HO3.out
  go_wp2_with fail
  refine (HV.out _).mono ?_
  rintro e w4 ⟨rfl, hb4⟩
  have HB4 := Lib.hid (hbt HB3.out hb4)
  have HO4 := Lib.hid (obj_below HO3.out hb4)
  clear hb4 c0 c1 c2 c3 c4
  obtain ⟨c0, c1, c2, c3, c4⟩ := obj_cells5 HO4.out
  go_wp2
  go_ret3
  exact ⟨rfl, HB4.out⟩
set_option linter.unusedVariables false in
set_option maxHeartbeats 1600000 in
theorem crg_vd_cut (n c lo hi f : Int) (p a q : Nat) (s : ByteArray) (w : World)
    (hs : s.size ≤ 1000000) (hp : p ≤ s.size) (ha : a ≤ 999) (hq : q ≤ s.size) (hf : (f != 1) = true) (hlo : ¬ ((a : Int) < lo ∨ hi < (a : Int)))
    (hc : (c == 1) = false)
    (hk : ∀ W, Calls Tryd.prog 24 #[.agg #[.int .i64 n, .int .i64 c, .int .i64 f, .int .i64 lo, .int .i64 hi]] W fun e w' => e = .returned (.int .i64 0) ∧ Below W.heap.size W w')
    (hg : ∀ W, Calls Tryd.prog 25 #[.int .i64 2, .int .i64 f, .string s, .int .i64 (p : Int)] W fun e w' => e = .returned (.tuple #[.int .i64 (a : Int), .int .i64 (q : Int), .int .i64 0]) ∧ Below W.heap.size W w')
    (h : s.size < q + a) :
    Calls Tryd.prog 12 #[.int .i64 2, .agg #[.int .i64 n, .int .i64 c, .int .i64 f, .int .i64 lo, .int .i64 hi], .string s, .int .i64 (p : Int)] w fun e w' => e = .returned (.tuple #[.string ⟨#[]⟩, .int .i64 0, .int .i64 2]) ∧ Below w.heap.size w w' := by
  have HK := Lib.hid hk
  have t1 : decide ((p : Int) < 0) = false := by simp
  have t2 : decide (s.size < p) = false := by simp; omega
  have HG := Lib.hid hg
  have t3 : decide ((a : Int) < lo) = false := by simp; omega
  have t4 : decide (hi < (a : Int)) = false := by simp; omega
  have t5 : decide ((s.size : Int) - (q : Int) < (a : Int)) = true := by simp; omega
  clear hk hg hlo h
  go_enter Tryd.func12, Tryd.ntmps12
  go_wp2_with fail
  refine (HK.out _).mono ?_
  rintro e w1 ⟨rfl, hb1⟩
  have HB1 := Lib.hid (hbt (below_al _ _) hb1)
  have HO1 := Lib.hid (spec_at hb1)
  obtain ⟨c0, c1, c2, c3, c4⟩ := obj_cells5 HO1.out
  clear hb1
  go_wp2_with fail
  refine (HG.out _).mono ?_
  rintro e w2 ⟨rfl, hb2⟩
  have HB2 := Lib.hid (hbt HB1.out hb2)
  have HO2 := Lib.hid (obj_below HO1.out hb2)
  clear hb2 c0 c1 c2 c3 c4
  obtain ⟨c0, c1, c2, c3, c4⟩ := obj_cells5 HO2.out
  go_wp2
  go_ret3
  exact ⟨rfl, HB2.out⟩
set_option linter.unusedVariables false in
set_option maxHeartbeats 1600000 in
theorem crg_vd_val (n c lo hi f : Int) (p a q : Nat) (s : ByteArray) (w : World)
    (hs : s.size ≤ 1000000) (hp : p ≤ s.size) (ha : a ≤ 999) (hq : q ≤ s.size) (hf : (f != 1) = true) (hlo : ¬ ((a : Int) < lo ∨ hi < (a : Int)))
    (hc : (c == 1) = false)
    (hk : ∀ W, Calls Tryd.prog 24 #[.agg #[.int .i64 n, .int .i64 c, .int .i64 f, .int .i64 lo, .int .i64 hi]] W fun e w' => e = .returned (.int .i64 0) ∧ Below W.heap.size W w')
    (hg : ∀ W, Calls Tryd.prog 25 #[.int .i64 2, .int .i64 f, .string s, .int .i64 (p : Int)] W fun e w' => e = .returned (.tuple #[.int .i64 (a : Int), .int .i64 (q : Int), .int .i64 0]) ∧ Below W.heap.size W w')
    (h : q + a ≤ s.size)
    (x : Int) (hx : (x != 0) = true)
    (hv : ∀ W, Calls Tryd.prog 17 #[.agg #[.int .i64 n, .int .i64 c, .int .i64 f, .int .i64 lo, .int .i64 hi], .string (s.extract q (q + a))] W fun e w' => e = .returned (.int .i64 x) ∧ Below W.heap.size W w') :
    Calls Tryd.prog 12 #[.int .i64 2, .agg #[.int .i64 n, .int .i64 c, .int .i64 f, .int .i64 lo, .int .i64 hi], .string s, .int .i64 (p : Int)] w fun e w' => e = .returned (.tuple #[.string ⟨#[]⟩, .int .i64 0, .int .i64 x]) ∧ Below w.heap.size w w' := by
  have HK := Lib.hid hk
  have t1 : decide ((p : Int) < 0) = false := by simp
  have t2 : decide (s.size < p) = false := by simp; omega
  have HG := Lib.hid hg
  have t3 : decide ((a : Int) < lo) = false := by simp; omega
  have t4 : decide (hi < (a : Int)) = false := by simp; omega
  have t5 : decide ((s.size : Int) - (q : Int) < (a : Int)) = false := by simp; omega
  have HV := Lib.hid hv
  clear hk hg hlo hv
  go_enter Tryd.func12, Tryd.ntmps12
  go_wp2_with fail
  refine (HK.out _).mono ?_
  rintro e w1 ⟨rfl, hb1⟩
  have HB1 := Lib.hid (hbt (below_al _ _) hb1)
  have HO1 := Lib.hid (spec_at hb1)
  obtain ⟨c0, c1, c2, c3, c4⟩ := obj_cells5 HO1.out
  clear hb1
  go_wp2_with fail
  refine (HG.out _).mono ?_
  rintro e w2 ⟨rfl, hb2⟩
  have HB2 := Lib.hid (hbt HB1.out hb2)
  have HO2 := Lib.hid (obj_below HO1.out hb2)
  clear hb2 c0 c1 c2 c3 c4
  obtain ⟨c0, c1, c2, c3, c4⟩ := obj_cells5 HO2.out
  go_wp2_with fail
  refine (HV.out _).mono ?_
  rintro e w3 ⟨rfl, hb3⟩
  have HB3 := Lib.hid (hbt HB2.out hb3)
  have HO3 := Lib.hid (obj_below HO2.out hb3)
  clear hb3 c0 c1 c2 c3 c4
  obtain ⟨c0, c1, c2, c3, c4⟩ := obj_cells5 HO3.out
  go_wp2
  go_ret3
  exact ⟨rfl, HB3.out⟩
set_option linter.unusedVariables false in
set_option maxHeartbeats 1600000 in
theorem crg_vd_ok (n c lo hi f : Int) (p a q : Nat) (s : ByteArray) (w : World)
    (hs : s.size ≤ 1000000) (hp : p ≤ s.size) (ha : a ≤ 999) (hq : q ≤ s.size) (hf : (f != 1) = true) (hlo : ¬ ((a : Int) < lo ∨ hi < (a : Int)))
    (hc : (c == 1) = false)
    (hk : ∀ W, Calls Tryd.prog 24 #[.agg #[.int .i64 n, .int .i64 c, .int .i64 f, .int .i64 lo, .int .i64 hi]] W fun e w' => e = .returned (.int .i64 0) ∧ Below W.heap.size W w')
    (hg : ∀ W, Calls Tryd.prog 25 #[.int .i64 2, .int .i64 f, .string s, .int .i64 (p : Int)] W fun e w' => e = .returned (.tuple #[.int .i64 (a : Int), .int .i64 (q : Int), .int .i64 0]) ∧ Below W.heap.size W w')
    (h : q + a ≤ s.size)
    (hv : ∀ W, Calls Tryd.prog 17 #[.agg #[.int .i64 n, .int .i64 c, .int .i64 f, .int .i64 lo, .int .i64 hi], .string (s.extract q (q + a))] W fun e w' => e = .returned (.int .i64 0) ∧ Below W.heap.size W w') :
    Calls Tryd.prog 12 #[.int .i64 2, .agg #[.int .i64 n, .int .i64 c, .int .i64 f, .int .i64 lo, .int .i64 hi], .string s, .int .i64 (p : Int)] w fun e w' => e = .returned (.tuple #[.string (s.extract q (q + a)), .int .i64 ((q + a : Nat) : Int), .int .i64 0]) ∧ Below w.heap.size w w' := by
  have HK := Lib.hid hk
  have t1 : decide ((p : Int) < 0) = false := by simp
  have t2 : decide (s.size < p) = false := by simp; omega
  have HG := Lib.hid hg
  have t3 : decide ((a : Int) < lo) = false := by simp; omega
  have t4 : decide (hi < (a : Int)) = false := by simp; omega
  have t5 : decide ((s.size : Int) - (q : Int) < (a : Int)) = false := by simp; omega
  have HV := Lib.hid hv
  clear hk hg hlo hv
  go_enter Tryd.func12, Tryd.ntmps12
  go_wp2_with fail
  refine (HK.out _).mono ?_
  rintro e w1 ⟨rfl, hb1⟩
  have HB1 := Lib.hid (hbt (below_al _ _) hb1)
  have HO1 := Lib.hid (spec_at hb1)
  obtain ⟨c0, c1, c2, c3, c4⟩ := obj_cells5 HO1.out
  clear hb1
  go_wp2_with fail
  refine (HG.out _).mono ?_
  rintro e w2 ⟨rfl, hb2⟩
  have HB2 := Lib.hid (hbt HB1.out hb2)
  have HO2 := Lib.hid (obj_below HO1.out hb2)
  clear hb2 c0 c1 c2 c3 c4
  obtain ⟨c0, c1, c2, c3, c4⟩ := obj_cells5 HO2.out
  go_wp2_with fail
  refine (HV.out _).mono ?_
  rintro e w3 ⟨rfl, hb3⟩
  have HB3 := Lib.hid (hbt HB2.out hb3)
  have HO3 := Lib.hid (obj_below HO2.out hb3)
  clear hb3 c0 c1 c2 c3 c4
  obtain ⟨c0, c1, c2, c3, c4⟩ := obj_cells5 HO3.out
  go_wp2
  go_ret3
  exact ⟨rfl, HB3.out⟩


end Go.Proofs.YtjmpjdefafkldaaDoor
