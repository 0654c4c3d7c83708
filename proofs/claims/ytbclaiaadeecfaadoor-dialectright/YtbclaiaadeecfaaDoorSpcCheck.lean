/-
  What Check and the document's Check answer: for every spec, in every world.
-/
import Derived.Test.YtbclaiaadeecfaaDoorSpcLen
import Derived.Test.YtbclaiaadeecfaaDoorClsSmall
namespace Go.Proofs.YtbclaiaadeecfaaDoor
open Go.RowKit

set_option maxHeartbeats 800000 in
theorem spc_arg (n c f lo hi : Int) (w : World) (h : n < 2 ∨ 128 < n) :
    Calls Tryd.prog 22 #[.agg #[.int .i64 n, .int .i64 c, .int .i64 f, .int .i64 lo, .int .i64 hi]] w fun e w' => e = .returned (.int .i64 1) ∧ Below w.heap.size w w' := by
  by_cases h1 : n < 2
  · have t1 : decide (n < 2) = true := by simpa using h1
    clear h h1
    go_enter Tryd.func22, Tryd.ntmps22
    go_wp2
    go_ret
    exact ⟨rfl, below_al _ _⟩
  · have t1 : decide (n < 2) = false := by simpa using h1
    have t2 : decide (128 < n) = true := by simp; omega
    clear h h1
    go_enter Tryd.func22, Tryd.ntmps22
    go_wp2
    go_ret
    exact ⟨rfl, below_al _ _⟩
set_option maxHeartbeats 800000 in
theorem spc_class (n c f lo hi : Int) (w : World) (h : ¬ (n < 2 ∨ 128 < n)) (h1 : isC c = false) :
    Calls Tryd.prog 22 #[.agg #[.int .i64 n, .int .i64 c, .int .i64 f, .int .i64 lo, .int .i64 hi]] w fun e w' => e = .returned (.int .i64 6) ∧ Below w.heap.size w w' := by
  have t1 : decide (n < 2) = false := by simp; omega
  have t2 : decide (128 < n) = false := by simp; omega
  have HK := Lib.hid (fun W => known_no (c := c) h1 W)
  clear h h1
  go_enter Tryd.func22, Tryd.ntmps22
  go_wp2_with fail
  refine (HK.out _).mono ?_
  rintro e w1 ⟨rfl, rfl⟩
  go_wp2
  go_ret
  exact ⟨rfl, below_al _ _⟩
set_option maxHeartbeats 800000 in
theorem spc_form (n c f lo hi : Int) (w : World) (h : ¬ (n < 2 ∨ 128 < n)) (h1 : isC c = true) (h2 : f < 1 ∨ 3 < f) :
    Calls Tryd.prog 22 #[.agg #[.int .i64 n, .int .i64 c, .int .i64 f, .int .i64 lo, .int .i64 hi]] w fun e w' => e = .returned (.int .i64 3) ∧ Below w.heap.size w w' := by
  have t1 : decide (n < 2) = false := by simp; omega
  have t2 : decide (128 < n) = false := by simp; omega
  have HK := Lib.hid (fun W => known_yes (c := c) h1 W)
  clear h h1
  by_cases h3 : f < 1
  · have t3 : decide (f < 1) = true := by simpa using h3
    clear h2 h3
    go_enter Tryd.func22, Tryd.ntmps22
    go_wp2_with fail
    refine (HK.out _).mono ?_
    rintro e w1 ⟨rfl, rfl⟩
    go_wp2
    go_ret
    exact ⟨rfl, below_al _ _⟩
  · have t3 : decide (f < 1) = false := by simpa using h3
    have t4 : decide (3 < f) = true := by simp; omega
    clear h2 h3
    go_enter Tryd.func22, Tryd.ntmps22
    go_wp2_with fail
    refine (HK.out _).mono ?_
    rintro e w1 ⟨rfl, rfl⟩
    go_wp2
    go_ret
    exact ⟨rfl, below_al _ _⟩
set_option maxHeartbeats 800000 in
theorem spc_range (n c f lo hi : Int) (w : World) (h : ¬ (n < 2 ∨ 128 < n)) (h1 : isC c = true) (h2 : ¬ (f < 1 ∨ 3 < f)) (h3 : lenB f lo hi = false) :
    Calls Tryd.prog 22 #[.agg #[.int .i64 n, .int .i64 c, .int .i64 f, .int .i64 lo, .int .i64 hi]] w fun e w' => e = .returned (.int .i64 5) ∧ Below w.heap.size w w' := by
  have t1 : decide (n < 2) = false := by simp; omega
  have t2 : decide (128 < n) = false := by simp; omega
  have t3 : decide (f < 1) = false := by simp; omega
  have t4 : decide (3 < f) = false := by simp; omega
  have HK := Lib.hid (fun W => known_yes (c := c) h1 W)
  have HL := Lib.hid (fun W => lengths_any n c f lo hi W (by omega))
  rw [h3] at HL
  clear h h1 h2 h3
  go_enter Tryd.func22, Tryd.ntmps22
  go_wp2_with fail
  refine (HK.out _).mono ?_
  rintro e w1 ⟨rfl, rfl⟩
  go_wp2_with fail
  refine (HL.out _).mono ?_
  rintro e w2 ⟨rfl, hb2⟩
  have HB2 := Lib.hid (hbt (below_al _ _) hb2)
  clear hb2
  go_wp2
  go_ret
  exact ⟨rfl, HB2.out⟩
set_option maxHeartbeats 800000 in
theorem spc_tag (n lo hi : Int) (w : World) (h : ¬ (n < 2 ∨ 128 < n)) (h3 : lenB 1 lo hi = true) :
    Calls Tryd.prog 22 #[.agg #[.int .i64 n, .int .i64 6, .int .i64 1, .int .i64 lo, .int .i64 hi]] w fun e w' => e = .returned (.int .i64 13) ∧ Below w.heap.size w w' := by
  have t1 : decide (n < 2) = false := by simp; omega
  have t2 : decide (128 < n) = false := by simp; omega
  have HK := Lib.hid (fun W => known_yes (c := 6) (by rfl) W)
  have HL := Lib.hid (fun W => lengths_any n 6 1 lo hi W (by omega))
  rw [h3] at HL
  clear h h3
  go_enter Tryd.func22, Tryd.ntmps22
  go_wp2_with fail
  refine (HK.out _).mono ?_
  rintro e w1 ⟨rfl, rfl⟩
  go_wp2_with fail
  refine (HL.out _).mono ?_
  rintro e w2 ⟨rfl, hb2⟩
  have HB2 := Lib.hid (hbt (below_al _ _) hb2)
  obtain ⟨c0, c1, c2, c3, c4⟩ := obj_cells5 (obj_below (heap_alloc_new _ _) hb2)
  clear hb2
  go_wp2
  go_ret
  exact ⟨rfl, HB2.out⟩
set_option maxHeartbeats 800000 in
theorem spc_ok (n c f lo hi : Int) (w : World) (h : ¬ (n < 2 ∨ 128 < n)) (h1 : isC c = true) (h2 : ¬ (f < 1 ∨ 3 < f)) (h3 : lenB f lo hi = true) (h4 : ¬ (c = 6 ∧ f = 1)) :
    Calls Tryd.prog 22 #[.agg #[.int .i64 n, .int .i64 c, .int .i64 f, .int .i64 lo, .int .i64 hi]] w fun e w' => e = .returned (.int .i64 0) ∧ Below w.heap.size w w' := by
  have t1 : decide (n < 2) = false := by simp; omega
  have t2 : decide (128 < n) = false := by simp; omega
  have t3 : decide (f < 1) = false := by simp; omega
  have t4 : decide (3 < f) = false := by simp; omega
  have HK := Lib.hid (fun W => known_yes (c := c) h1 W)
  have HL := Lib.hid (fun W => lengths_any n c f lo hi W (by omega))
  rw [h3] at HL
  by_cases h5 : c = 6
  · subst h5
    have t5 : (f == 1) = false := by simp; omega
    clear h h1 h2 h3 h4
    go_enter Tryd.func22, Tryd.ntmps22
    go_wp2_with fail
    refine (HK.out _).mono ?_
    rintro e w1 ⟨rfl, rfl⟩
    go_wp2_with fail
    refine (HL.out _).mono ?_
    rintro e w2 ⟨rfl, hb2⟩
    have HB2 := Lib.hid (hbt (below_al _ _) hb2)
    obtain ⟨c0, c1, c2, c3, c4⟩ := obj_cells5 (obj_below (heap_alloc_new _ _) hb2)
    clear hb2
    go_wp2
    go_ret
    exact ⟨rfl, HB2.out⟩
  · have t5 : (c == 6) = false := by simpa using h5
    clear h h1 h2 h3 h4 h5
    go_enter Tryd.func22, Tryd.ntmps22
    go_wp2_with fail
    refine (HK.out _).mono ?_
    rintro e w1 ⟨rfl, rfl⟩
    go_wp2_with fail
    refine (HL.out _).mono ?_
    rintro e w2 ⟨rfl, hb2⟩
    have HB2 := Lib.hid (hbt (below_al _ _) hb2)
    obtain ⟨c0, c1, c2, c3, c4⟩ := obj_cells5 (obj_below (heap_alloc_new _ _) hb2)
    clear hb2
    go_wp2
    go_ret
    exact ⟨rfl, HB2.out⟩
theorem spcheck_any (n c f lo hi : Int) (w : World) :
    Calls Tryd.prog 22 #[.agg #[.int .i64 n, .int .i64 c, .int .i64 f, .int .i64 lo, .int .i64 hi]] w fun e w' => e = .returned (.int .i64 (spk n c f lo hi)) ∧ Below w.heap.size w w' := by
  by_cases h : n < 2 ∨ 128 < n
  · rw [spk_arg h]; exact spc_arg n c f lo hi w h
  cases h1 : isC c
  · rw [spk_class h h1]; exact spc_class n c f lo hi w h h1
  by_cases h2 : f < 1 ∨ 3 < f
  · rw [spk_form h h1 h2]; exact spc_form n c f lo hi w h h1 h2
  cases h3 : lenB f lo hi
  · rw [spk_range h h1 h2 h3]; exact spc_range n c f lo hi w h h1 h2 h3
  by_cases h4 : c = 6 ∧ f = 1
  · rw [spk_tag h h1 h2 h3 h4]
    obtain ⟨rfl, rfl⟩ := h4
    exact spc_tag n lo hi w h h3
  · rw [spk_ok h h1 h2 h3 h4]; exact spc_ok n c f lo hi w h h1 h2 h3 h4


end Go.Proofs.YtbclaiaadeecfaaDoor
