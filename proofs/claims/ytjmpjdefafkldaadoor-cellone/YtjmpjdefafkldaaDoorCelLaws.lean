/-
  CellPuts, CellGets, CellBack and CellOne: for every input, in every world in which the table of kinds stands as the program's text lays it.
-/
import Derived.Test.YtjmpjdefafkldaaDoorCelAwake
import Derived.Test.YtjmpjdefafkldaaDoorCelRef
import Derived.Test.YtjmpjdefafkldaaDoorCelRefGet
namespace Go.Proofs.YtjmpjdefafkldaaDoor
open Go.RowKit

set_option maxRecDepth 100000 in
set_option maxHeartbeats 3200000 in
theorem cputs_long (st n c f lo hi : Int) (s : ByteArray) (w : World) (hw : Kinds w) (hm : s.size ≤ maxLen) (hl : 2000 < s.size) :
    Calls Tryd.prog 3 #[.int .i64 st, .agg #[.int .i64 n, .int .i64 c, .int .i64 f, .int .i64 lo, .int .i64 hi], .string s] w fun e w' => e = .returned (.bool true) ∧ Below w.heap.size w w' := by
  unfold maxLen at hm
  have HA := Lib.hid (fun W hW => cawake_any W hW)
  have HS0 := Lib.hid (spec1_new w n c f lo hi)
  have HW := Lib.hid hw
  have t1 : decide ((2000 : Int) < (s.size : Int)) = true := by simp; omega
  clear hw hl
  go_enter Tryd.func3, Tryd.ntmps3
  go_wp2_with fail
  refine (HA.out _ (HW.out.below HS0.out.1)).mono ?_
  rintro e w1 ⟨rfl, hb1⟩
  have HS1 := Lib.hid (HS0.out.below hb1)
  clear hb1
  obtain ⟨c0, c1, c2, c3, c4⟩ := obj_cells5 HS1.out.2
  go_wp2_with fail
  refine (HA.out _ (HW.out.below HS1.out.1)).mono ?_
  rintro e w2 ⟨rfl, hb2⟩
  have HS2 := Lib.hid (HS1.out.below hb2)
  clear hb2 c0 c1 c2 c3 c4
  obtain ⟨c0, c1, c2, c3, c4⟩ := obj_cells5 HS2.out.2
  go_wp2
  go_ret
  exact ⟨rfl, HS2.out.1⟩
set_option maxRecDepth 100000 in
set_option maxHeartbeats 3200000 in
theorem cgets_long (st n c f lo hi : Int) (s : ByteArray) (w : World) (hw : Kinds w) (hm : s.size ≤ maxLen) (hl : 2500 < s.size) :
    Calls Tryd.prog 4 #[.int .i64 st, .agg #[.int .i64 n, .int .i64 c, .int .i64 f, .int .i64 lo, .int .i64 hi], .string s] w fun e w' => e = .returned (.bool true) ∧ Below w.heap.size w w' := by
  unfold maxLen at hm
  have HA := Lib.hid (fun W hW => cawake_any W hW)
  have HS0 := Lib.hid (spec1_new w n c f lo hi)
  have HW := Lib.hid hw
  have t1 : decide ((2500 : Int) < (s.size : Int)) = true := by simp; omega
  clear hw hl
  go_enter Tryd.func4, Tryd.ntmps4
  go_wp2_with fail
  refine (HA.out _ (HW.out.below HS0.out.1)).mono ?_
  rintro e w1 ⟨rfl, hb1⟩
  have HS1 := Lib.hid (HS0.out.below hb1)
  clear hb1
  obtain ⟨c0, c1, c2, c3, c4⟩ := obj_cells5 HS1.out.2
  go_wp2_with fail
  refine (HA.out _ (HW.out.below HS1.out.1)).mono ?_
  rintro e w2 ⟨rfl, hb2⟩
  have HS2 := Lib.hid (HS1.out.below hb2)
  clear hb2 c0 c1 c2 c3 c4
  obtain ⟨c0, c1, c2, c3, c4⟩ := obj_cells5 HS2.out.2
  go_wp2
  go_ret
  exact ⟨rfl, HS2.out.1⟩
set_option maxRecDepth 100000 in
set_option maxHeartbeats 3200000 in
theorem cback_long (st n c f lo hi : Int) (s : ByteArray) (w : World) (hw : Kinds w) (hm : s.size ≤ maxLen) (hl : 999 < s.size) :
    Calls Tryd.prog 5 #[.int .i64 st, .agg #[.int .i64 n, .int .i64 c, .int .i64 f, .int .i64 lo, .int .i64 hi], .string s] w fun e w' => e = .returned (.bool true) ∧ Below w.heap.size w w' := by
  unfold maxLen at hm
  have HA := Lib.hid (fun W hW => cawake_any W hW)
  have HS0 := Lib.hid (spec1_new w n c f lo hi)
  have HW := Lib.hid hw
  have t1 : decide ((999 : Int) < (s.size : Int)) = true := by simp; omega
  clear hw hl
  go_enter Tryd.func5, Tryd.ntmps5
  go_wp2_with fail
  refine (HA.out _ (HW.out.below HS0.out.1)).mono ?_
  rintro e w1 ⟨rfl, hb1⟩
  have HS1 := Lib.hid (HS0.out.below hb1)
  clear hb1
  obtain ⟨c0, c1, c2, c3, c4⟩ := obj_cells5 HS1.out.2
  go_wp2_with fail
  refine (HA.out _ (HW.out.below HS1.out.1)).mono ?_
  rintro e w2 ⟨rfl, hb2⟩
  have HS2 := Lib.hid (HS1.out.below hb2)
  clear hb2 c0 c1 c2 c3 c4
  obtain ⟨c0, c1, c2, c3, c4⟩ := obj_cells5 HS2.out.2
  go_wp2
  go_ret
  exact ⟨rfl, HS2.out.1⟩
set_option maxRecDepth 100000 in
set_option maxHeartbeats 3200000 in
theorem cone_long (st n c f lo hi : Int) (s : ByteArray) (w : World) (hw : Kinds w) (hm : s.size ≤ maxLen) (hl : 2500 < s.size) :
    Calls Tryd.prog 6 #[.int .i64 st, .agg #[.int .i64 n, .int .i64 c, .int .i64 f, .int .i64 lo, .int .i64 hi], .string s] w fun e w' => e = .returned (.bool true) ∧ Below w.heap.size w w' := by
  unfold maxLen at hm
  have HA := Lib.hid (fun W hW => cawake_any W hW)
  have HS0 := Lib.hid (spec1_new w n c f lo hi)
  have HW := Lib.hid hw
  have t1 : decide ((2500 : Int) < (s.size : Int)) = true := by simp; omega
  clear hw hl
  go_enter Tryd.func6, Tryd.ntmps6
  go_wp2_with fail
  refine (HA.out _ (HW.out.below HS0.out.1)).mono ?_
  rintro e w1 ⟨rfl, hb1⟩
  have HS1 := Lib.hid (HS0.out.below hb1)
  clear hb1
  obtain ⟨c0, c1, c2, c3, c4⟩ := obj_cells5 HS1.out.2
  go_wp2_with fail
  refine (HA.out _ (HW.out.below HS1.out.1)).mono ?_
  rintro e w2 ⟨rfl, hb2⟩
  have HS2 := Lib.hid (HS1.out.below hb2)
  clear hb2 c0 c1 c2 c3 c4
  obtain ⟨c0, c1, c2, c3, c4⟩ := obj_cells5 HS2.out.2
  go_wp2
  go_ret
  exact ⟨rfl, HS2.out.1⟩
set_option maxRecDepth 100000 in
set_option maxHeartbeats 3200000 in
theorem cputs_both (st n c f lo hi : Int) (s : ByteArray) (w : World) (hw : Kinds w) (hl : s.size ≤ 2000) (x : ByteArray) (k : Int)
    (hp : ∀ W, Kinds W → Calls Tryd.prog 9 #[.int .i64 st, .agg #[.int .i64 n, .int .i64 c, .int .i64 f, .int .i64 lo, .int .i64 hi], .string s] W fun e w' => e = .returned (.tuple #[.string x, .int .i64 k]) ∧ Below W.heap.size W w')
    (hr : ∀ W, Calls Tryd.prog 10 #[.int .i64 st, .agg #[.int .i64 n, .int .i64 c, .int .i64 f, .int .i64 lo, .int .i64 hi], .string s] W fun e w' => e = .returned (.tuple #[.string x, .int .i64 k]) ∧ Below W.heap.size W w') :
    Calls Tryd.prog 3 #[.int .i64 st, .agg #[.int .i64 n, .int .i64 c, .int .i64 f, .int .i64 lo, .int .i64 hi], .string s] w fun e w' => e = .returned (.bool true) ∧ Below w.heap.size w w' := by
  have HA := Lib.hid (fun W hW => cawake_any W hW)
  have HS0 := Lib.hid (spec1_new w n c f lo hi)
  have HW := Lib.hid hw
  have HP := Lib.hid hp
  have HR := Lib.hid hr
  have t1 : decide ((2000 : Int) < (s.size : Int)) = false := by simp; omega
  clear hw hp hr hl
  go_enter Tryd.func3, Tryd.ntmps3
  go_wp2_with fail
  refine (HA.out _ (HW.out.below HS0.out.1)).mono ?_
  rintro e w1 ⟨rfl, hb1⟩
  have HS1 := Lib.hid (HS0.out.below hb1)
  clear hb1
  obtain ⟨c0, c1, c2, c3, c4⟩ := obj_cells5 HS1.out.2
  go_wp2_with fail
  refine (HP.out _ (HW.out.below HS1.out.1)).mono ?_
  rintro e w2 ⟨rfl, hb2⟩
  have HS2 := Lib.hid (HS1.out.below hb2)
  clear hb2 c0 c1 c2 c3 c4
  obtain ⟨c0, c1, c2, c3, c4⟩ := obj_cells5 HS2.out.2
  go_wp2_with fail
  refine (HR.out _).mono ?_
  rintro e w3 ⟨rfl, hb3⟩
  have HS3 := Lib.hid (HS2.out.below hb3)
  clear hb3 c0 c1 c2 c3 c4
  obtain ⟨c0, c1, c2, c3, c4⟩ := obj_cells5 HS3.out.2
  go_wp2
  go_ret
  exact ⟨by simp, HS3.out.1⟩
set_option maxRecDepth 100000 in
set_option maxHeartbeats 3200000 in
theorem cgets_both (st n c f lo hi : Int) (s : ByteArray) (w : World) (hw : Kinds w) (hl : s.size ≤ 2500) (x : ByteArray) (q k : Int)
    (hp : ∀ W, Kinds W → Calls Tryd.prog 11 #[.int .i64 st, .agg #[.int .i64 n, .int .i64 c, .int .i64 f, .int .i64 lo, .int .i64 hi], .string s, .int .i64 0] W fun e w' => e = .returned (.tuple #[.string x, .int .i64 q, .int .i64 k]) ∧ Below W.heap.size W w')
    (hr : ∀ W, Calls Tryd.prog 12 #[.int .i64 st, .agg #[.int .i64 n, .int .i64 c, .int .i64 f, .int .i64 lo, .int .i64 hi], .string s, .int .i64 0] W fun e w' => e = .returned (.tuple #[.string x, .int .i64 q, .int .i64 k]) ∧ Below W.heap.size W w') :
    Calls Tryd.prog 4 #[.int .i64 st, .agg #[.int .i64 n, .int .i64 c, .int .i64 f, .int .i64 lo, .int .i64 hi], .string s] w fun e w' => e = .returned (.bool true) ∧ Below w.heap.size w w' := by
  have HA := Lib.hid (fun W hW => cawake_any W hW)
  have HS0 := Lib.hid (spec1_new w n c f lo hi)
  have HW := Lib.hid hw
  have HP := Lib.hid hp
  have HR := Lib.hid hr
  have t1 : decide ((2500 : Int) < (s.size : Int)) = false := by simp; omega
  clear hw hp hr hl
  go_enter Tryd.func4, Tryd.ntmps4
  go_wp2_with fail
  refine (HA.out _ (HW.out.below HS0.out.1)).mono ?_
  rintro e w1 ⟨rfl, hb1⟩
  have HS1 := Lib.hid (HS0.out.below hb1)
  clear hb1
  obtain ⟨c0, c1, c2, c3, c4⟩ := obj_cells5 HS1.out.2
  go_wp2_with fail
  refine (HP.out _ (HW.out.below HS1.out.1)).mono ?_
  rintro e w2 ⟨rfl, hb2⟩
  have HS2 := Lib.hid (HS1.out.below hb2)
  clear hb2 c0 c1 c2 c3 c4
  obtain ⟨c0, c1, c2, c3, c4⟩ := obj_cells5 HS2.out.2
  go_wp2_with fail
  refine (HR.out _).mono ?_
  rintro e w3 ⟨rfl, hb3⟩
  have HS3 := Lib.hid (HS2.out.below hb3)
  clear hb3 c0 c1 c2 c3 c4
  obtain ⟨c0, c1, c2, c3, c4⟩ := obj_cells5 HS3.out.2
  go_wp2
  go_ret
  exact ⟨by simp, HS3.out.1⟩
set_option maxRecDepth 100000 in
set_option maxHeartbeats 3200000 in
theorem cback_err (st n c f lo hi : Int) (s : ByteArray) (w : World) (hw : Kinds w) (hl : s.size ≤ 999) (k : Int) (hk : (k != 0) = true)
    (hp : ∀ W, Kinds W → Calls Tryd.prog 9 #[.int .i64 st, .agg #[.int .i64 n, .int .i64 c, .int .i64 f, .int .i64 lo, .int .i64 hi], .string s] W fun e w' => e = .returned (.tuple #[.string ⟨#[]⟩, .int .i64 k]) ∧ Below W.heap.size W w') :
    Calls Tryd.prog 5 #[.int .i64 st, .agg #[.int .i64 n, .int .i64 c, .int .i64 f, .int .i64 lo, .int .i64 hi], .string s] w fun e w' => e = .returned (.bool true) ∧ Below w.heap.size w w' := by
  have HA := Lib.hid (fun W hW => cawake_any W hW)
  have HS0 := Lib.hid (spec1_new w n c f lo hi)
  have HW := Lib.hid hw
  have HP := Lib.hid hp
  have t1 : decide ((999 : Int) < (s.size : Int)) = false := by simp; omega
  clear hw hp hl
  go_enter Tryd.func5, Tryd.ntmps5
  go_wp2_with fail
  refine (HA.out _ (HW.out.below HS0.out.1)).mono ?_
  rintro e w1 ⟨rfl, hb1⟩
  have HS1 := Lib.hid (HS0.out.below hb1)
  clear hb1
  obtain ⟨c0, c1, c2, c3, c4⟩ := obj_cells5 HS1.out.2
  go_wp2_with fail
  refine (HP.out _ (HW.out.below HS1.out.1)).mono ?_
  rintro e w2 ⟨rfl, hb2⟩
  have HS2 := Lib.hid (HS1.out.below hb2)
  clear hb2 c0 c1 c2 c3 c4
  obtain ⟨c0, c1, c2, c3, c4⟩ := obj_cells5 HS2.out.2
  go_wp2
  go_ret
  exact ⟨rfl, HS2.out.1⟩
set_option maxRecDepth 100000 in
set_option maxHeartbeats 3200000 in
theorem cback_ok (st n c f lo hi : Int) (s : ByteArray) (w : World) (hw : Kinds w) (hl : s.size ≤ 999) (x : ByteArray)
    (hp : ∀ W, Kinds W → Calls Tryd.prog 9 #[.int .i64 st, .agg #[.int .i64 n, .int .i64 c, .int .i64 f, .int .i64 lo, .int .i64 hi], .string s] W fun e w' => e = .returned (.tuple #[.string x, .int .i64 0]) ∧ Below W.heap.size W w')
    (hg : ∀ W, Kinds W → Calls Tryd.prog 11 #[.int .i64 st, .agg #[.int .i64 n, .int .i64 c, .int .i64 f, .int .i64 lo, .int .i64 hi], .string x, .int .i64 0] W fun e w' => e = .returned (.tuple #[.string s, .int .i64 (x.size : Int), .int .i64 0]) ∧ Below W.heap.size W w') :
    Calls Tryd.prog 5 #[.int .i64 st, .agg #[.int .i64 n, .int .i64 c, .int .i64 f, .int .i64 lo, .int .i64 hi], .string s] w fun e w' => e = .returned (.bool true) ∧ Below w.heap.size w w' := by
  have HA := Lib.hid (fun W hW => cawake_any W hW)
  have HS0 := Lib.hid (spec1_new w n c f lo hi)
  have HW := Lib.hid hw
  have HP := Lib.hid hp
  have HG := Lib.hid hg
  have t1 : decide ((999 : Int) < (s.size : Int)) = false := by simp; omega
  clear hw hp hg hl
  go_enter Tryd.func5, Tryd.ntmps5
  go_wp2_with fail
  refine (HA.out _ (HW.out.below HS0.out.1)).mono ?_
  rintro e w1 ⟨rfl, hb1⟩
  have HS1 := Lib.hid (HS0.out.below hb1)
  clear hb1
  obtain ⟨c0, c1, c2, c3, c4⟩ := obj_cells5 HS1.out.2
  go_wp2_with fail
  refine (HP.out _ (HW.out.below HS1.out.1)).mono ?_
  rintro e w2 ⟨rfl, hb2⟩
  have HS2 := Lib.hid (HS1.out.below hb2)
  clear hb2 c0 c1 c2 c3 c4
  obtain ⟨c0, c1, c2, c3, c4⟩ := obj_cells5 HS2.out.2
  go_wp2_with fail
  refine (HG.out _ (HW.out.below HS2.out.1)).mono ?_
  rintro e w3 ⟨rfl, hb3⟩
  have HS3 := Lib.hid (HS2.out.below hb3)
  clear hb3 c0 c1 c2 c3 c4
  obtain ⟨c0, c1, c2, c3, c4⟩ := obj_cells5 HS3.out.2
  go_wp2
  go_ret
  exact ⟨by simp, HS3.out.1⟩
set_option maxRecDepth 100000 in
set_option maxHeartbeats 3200000 in
theorem cone_err (st n c f lo hi : Int) (s : ByteArray) (w : World) (hw : Kinds w) (hl : s.size ≤ 2500) (k : Int) (hk : (k != 0) = true)
    (hg : ∀ W, Kinds W → Calls Tryd.prog 11 #[.int .i64 st, .agg #[.int .i64 n, .int .i64 c, .int .i64 f, .int .i64 lo, .int .i64 hi], .string s, .int .i64 0] W fun e w' => e = .returned (.tuple #[.string ⟨#[]⟩, .int .i64 0, .int .i64 k]) ∧ Below W.heap.size W w') :
    Calls Tryd.prog 6 #[.int .i64 st, .agg #[.int .i64 n, .int .i64 c, .int .i64 f, .int .i64 lo, .int .i64 hi], .string s] w fun e w' => e = .returned (.bool true) ∧ Below w.heap.size w w' := by
  have HA := Lib.hid (fun W hW => cawake_any W hW)
  have HS0 := Lib.hid (spec1_new w n c f lo hi)
  have HW := Lib.hid hw
  have HG := Lib.hid hg
  have t1 : decide ((2500 : Int) < (s.size : Int)) = false := by simp; omega
  clear hw hg hl
  go_enter Tryd.func6, Tryd.ntmps6
  go_wp2_with fail
  refine (HA.out _ (HW.out.below HS0.out.1)).mono ?_
  rintro e w1 ⟨rfl, hb1⟩
  have HS1 := Lib.hid (HS0.out.below hb1)
  clear hb1
  obtain ⟨c0, c1, c2, c3, c4⟩ := obj_cells5 HS1.out.2
  go_wp2_with fail
  refine (HG.out _ (HW.out.below HS1.out.1)).mono ?_
  rintro e w2 ⟨rfl, hb2⟩
  have HS2 := Lib.hid (HS1.out.below hb2)
  clear hb2 c0 c1 c2 c3 c4
  obtain ⟨c0, c1, c2, c3, c4⟩ := obj_cells5 HS2.out.2
  go_wp2
  go_ret
  exact ⟨rfl, HS2.out.1⟩
set_option maxRecDepth 100000 in
set_option maxHeartbeats 3200000 in
theorem cone_ok (st n c f lo hi : Int) (s : ByteArray) (w : World) (hw : Kinds w) (hl : s.size ≤ 2500) (t : ByteArray) (q : Nat) (hq : q ≤ s.size)
    (hg : ∀ W, Kinds W → Calls Tryd.prog 11 #[.int .i64 st, .agg #[.int .i64 n, .int .i64 c, .int .i64 f, .int .i64 lo, .int .i64 hi], .string s, .int .i64 0] W fun e w' => e = .returned (.tuple #[.string t, .int .i64 (q : Int), .int .i64 0]) ∧ Below W.heap.size W w')
    (hp : ∀ W, Kinds W → Calls Tryd.prog 9 #[.int .i64 st, .agg #[.int .i64 n, .int .i64 c, .int .i64 f, .int .i64 lo, .int .i64 hi], .string t] W fun e w' => e = .returned (.tuple #[.string (s.extract 0 q), .int .i64 0]) ∧ Below W.heap.size W w') :
    Calls Tryd.prog 6 #[.int .i64 st, .agg #[.int .i64 n, .int .i64 c, .int .i64 f, .int .i64 lo, .int .i64 hi], .string s] w fun e w' => e = .returned (.bool true) ∧ Below w.heap.size w w' := by
  have HA := Lib.hid (fun W hW => cawake_any W hW)
  have HS0 := Lib.hid (spec1_new w n c f lo hi)
  have HW := Lib.hid hw
  have HG := Lib.hid hg
  have HP := Lib.hid hp
  have t1 : decide ((2500 : Int) < (s.size : Int)) = false := by simp; omega
  have hq' : (q : Int) ≤ (s.size : Int) := by omega
  clear hw hg hp
  go_enter Tryd.func6, Tryd.ntmps6
  go_wp2_with fail
  refine (HA.out _ (HW.out.below HS0.out.1)).mono ?_
  rintro e w1 ⟨rfl, hb1⟩
  have HS1 := Lib.hid (HS0.out.below hb1)
  clear hb1
  obtain ⟨c0, c1, c2, c3, c4⟩ := obj_cells5 HS1.out.2
  go_wp2_with fail
  refine (HG.out _ (HW.out.below HS1.out.1)).mono ?_
  rintro e w2 ⟨rfl, hb2⟩
  have HS2 := Lib.hid (HS1.out.below hb2)
  clear hb2 c0 c1 c2 c3 c4
  obtain ⟨c0, c1, c2, c3, c4⟩ := obj_cells5 HS2.out.2
  go_wp2_with fail
  refine (HP.out _ (HW.out.below HS2.out.1)).mono ?_
  rintro e w3 ⟨rfl, hb3⟩
  have HS3 := Lib.hid (HS2.out.below hb3)
  clear hb3 c0 c1 c2 c3 c4
  obtain ⟨c0, c1, c2, c3, c4⟩ := obj_cells5 HS3.out.2
  go_wp2
  go_ret
  exact ⟨by simp, HS3.out.1⟩
theorem cputs_walk (st n c f lo hi : Int) (s : ByteArray) (w : World) (hw : Kinds w) (_h1 : -9223372036854775808 ≤ st) (_h2 : st ≤ 9223372036854775807) (hm : s.size ≤ maxLen) :
    Calls Tryd.prog 3 #[.int .i64 st, .agg #[.int .i64 n, .int .i64 c, .int .i64 f, .int .i64 lo, .int .i64 hi], .string s] w fun e w' => e = .returned (.bool true) ∧ Below w.heap.size w w' := by
  by_cases hl : 2000 < s.size
  · exact cputs_long st n c f lo hi s w hw hm hl
  by_cases hst : st = 1 ∨ st = 2
  · by_cases hv : spv n c f lo hi s = 0
    · obtain ⟨st, rfl⟩ := Int.eq_ofNat_of_zero_le (show 0 ≤ st by omega)
      exact cputs_both (st : Int) n c f lo hi s w hw (by omega) _ _ (fun W hW => cput_ok st n c f lo hi s W hW (by omega) hv) (fun W => crput_ok st n c f lo hi s W (by omega) hv)
    · exact cputs_both st n c f lo hi s w hw (by omega) _ _ (fun W hW => cput_err st n c f lo hi s W hW hm hst hv) (fun W => crput_err st n c f lo hi s W hm hst hv)
  · exact cputs_both st n c f lo hi s w hw (by omega) _ _ (fun W _ => cput_arg st n c f lo hi s W (by omega)) (fun W => crput_arg st n c f lo hi s W (by omega))

theorem cgets_walk (st n c f lo hi : Int) (s : ByteArray) (w : World) (hw : Kinds w) (_h1 : -9223372036854775808 ≤ st) (_h2 : st ≤ 9223372036854775807) (hm : s.size ≤ maxLen) :
    Calls Tryd.prog 4 #[.int .i64 st, .agg #[.int .i64 n, .int .i64 c, .int .i64 f, .int .i64 lo, .int .i64 hi], .string s] w fun e w' => e = .returned (.bool true) ∧ Below w.heap.size w w' := by
  by_cases hl : 2500 < s.size
  · exact cgets_long st n c f lo hi s w hw hm hl
  by_cases hst : st = 1 ∨ st = 2
  · by_cases hk : spk n c f lo hi = 0
    · obtain ⟨st, rfl⟩ := Int.eq_ofNat_of_zero_le (show 0 ≤ st by omega)
      exact cgets_both (st : Int) n c f lo hi s w hw (by omega) _ _ _ (fun W hW => cget_any st 0 n c f lo hi s W hW (by omega) hk (by omega) (by omega)) (fun W => crget_any st 0 n c f lo hi s W (by omega) hk (by omega) (by omega))
    · refine cgets_both st n c f lo hi s w hw (by omega) _ _ _ (fun W _ => cgw_check st n c f lo hi 0 s W hst hk) (fun W => ?_)
      rcases hst with rfl | rfl
      · exact crg_check1 n c f lo hi 0 s W hk
      · exact crg_check2 n c f lo hi 0 s W hk
  · exact cgets_both st n c f lo hi s w hw (by omega) _ _ _ (fun W _ => cgw_style st n c f lo hi 0 s W (by omega)) (fun W => crg_style st n c f lo hi 0 s W (by omega))

theorem cback_walk (st n c f lo hi : Int) (s : ByteArray) (w : World) (hw : Kinds w) (_h1 : -9223372036854775808 ≤ st) (_h2 : st ≤ 9223372036854775807) (hm : s.size ≤ maxLen) :
    Calls Tryd.prog 5 #[.int .i64 st, .agg #[.int .i64 n, .int .i64 c, .int .i64 f, .int .i64 lo, .int .i64 hi], .string s] w fun e w' => e = .returned (.bool true) ∧ Below w.heap.size w w' := by
  by_cases hl : 999 < s.size
  · exact cback_long st n c f lo hi s w hw hm hl
  by_cases hst : st = 1 ∨ st = 2
  · by_cases hv : spv n c f lo hi s = 0
    · obtain ⟨st, rfl⟩ := Int.eq_ofNat_of_zero_le (show 0 ≤ st by omega)
      refine cback_ok (st : Int) n c f lo hi s w hw (by omega) _ (fun W hW => cput_ok st n c f lo hi s W hW (by omega) hv) (fun W hW => ?_)
      have e := mk_size (cputL st c f s.data.toList)
      have e1 := cputL_length_le (st := st) (c := c) (l := s.data.toList) (spk_more (spv_in hv).1).1
      have e2 := list_size s
      have h := cget_any st 0 n c f lo hi ⟨(cputL st c f s.data.toList).toArray⟩ W hW (by omega) (spv_in hv).1 (by rw [e]; omega) (by omega)
      rw [cget_back hv, ← e] at h
      exact h
    · exact cback_err st n c f lo hi s w hw (by omega) _ (by simpa using hv) (fun W hW => cput_err st n c f lo hi s W hW hm hst hv)
  · exact cback_err st n c f lo hi s w hw (by omega) 1 (by decide) (fun W _ => cput_arg st n c f lo hi s W (by omega))

theorem cone_walk (st n c f lo hi : Int) (s : ByteArray) (w : World) (hw : Kinds w) (_h1 : -9223372036854775808 ≤ st) (_h2 : st ≤ 9223372036854775807) (hm : s.size ≤ maxLen) :
    Calls Tryd.prog 6 #[.int .i64 st, .agg #[.int .i64 n, .int .i64 c, .int .i64 f, .int .i64 lo, .int .i64 hi], .string s] w fun e w' => e = .returned (.bool true) ∧ Below w.heap.size w w' := by
  by_cases hl : 2500 < s.size
  · exact cone_long st n c f lo hi s w hw hm hl
  by_cases hst : st = 1 ∨ st = 2
  · by_cases hk : spk n c f lo hi = 0
    · obtain ⟨st, rfl⟩ := Int.eq_ofNat_of_zero_le (show 0 ≤ st by omega)
      have hg := fun W hW => cget_any st 0 n c f lo hi s W hW (by omega) hk (by omega) (by omega)
      by_cases he : (cget st n c f lo hi s 0).2.2 = 0
      · obtain ⟨a, q, t, _, _, _, _, h5⟩ := cget_zero he
        rw [h5] at hg
        generalize q + csz (cway st c) a = z at *
        obtain ⟨g1, g2, g3⟩ := cget_one hk h5
        refine cone_ok (st : Int) n c f lo hi s w hw (by omega) t z g2 hg (fun W hW => ?_)
        have hp := cput_ok st n c f lo hi t W hW (by omega) g1
        rw [g3] at hp
        rw [show s.extract 0 z = ⟨(s.data.toList.take z).toArray⟩ from by
          apply ext_eq
          have := piece_list s 0 z
          rw [Nat.zero_add, List.drop_zero] at this
          rw [this, mk_list]]
        exact hp
      · obtain ⟨e1, e2⟩ := cget_err he
        unfold cgetV at hg
        rw [e1, e2] at hg
        exact cone_err (st : Int) n c f lo hi s w hw (by omega) _ (by simpa using he) hg
    · exact cone_err st n c f lo hi s w hw (by omega) 1 (by decide) (fun W _ => cgw_check st n c f lo hi 0 s W hst hk)
  · exact cone_err st n c f lo hi s w hw (by omega) 1 (by decide) (fun W _ => cgw_style st n c f lo hi 0 s W (by omega))

end Go.Proofs.YtjmpjdefafkldaaDoor
