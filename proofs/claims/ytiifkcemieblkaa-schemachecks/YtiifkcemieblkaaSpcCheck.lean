/-
  What Check and the document's Check answer: for every spec, in every world.
-/
import Derived.Test.YtiifkcemieblkaaSpcLen
import Derived.Test.YtiifkcemieblkaaClsSmall
namespace Go.Proofs.Ytiifkcemieblkaa
open Go.RowKit

set_option maxHeartbeats 800000 in
theorem spc_arg (n c f lo hi : Int) (w : World) (h : n < 2 ∨ 128 < n) :
    Calls Try.prog 25 #[.agg #[.int .i64 n, .int .i64 c, .int .i64 f, .int .i64 lo, .int .i64 hi]] w fun e w' => e = .returned (.int .i64 1) ∧ Below w.heap.size w w' := by
  by_cases h1 : n < 2
  · have t1 : decide (n < 2) = true := by simpa using h1
    clear h h1
    go_enter Try.func25, Try.ntmps25
    go_wp2
    go_ret
    exact ⟨rfl, below_al _ _⟩
  · have t1 : decide (n < 2) = false := by simpa using h1
    have t2 : decide (128 < n) = true := by simp; omega
    clear h h1
    go_enter Try.func25, Try.ntmps25
    go_wp2
    go_ret
    exact ⟨rfl, below_al _ _⟩
set_option maxHeartbeats 800000 in
theorem spc_class (n c f lo hi : Int) (w : World) (h : ¬ (n < 2 ∨ 128 < n)) (h1 : isC c = false) :
    Calls Try.prog 25 #[.agg #[.int .i64 n, .int .i64 c, .int .i64 f, .int .i64 lo, .int .i64 hi]] w fun e w' => e = .returned (.int .i64 6) ∧ Below w.heap.size w w' := by
  have t1 : decide (n < 2) = false := by simp; omega
  have t2 : decide (128 < n) = false := by simp; omega
  have HK := Lib.hid (fun W => known_no (c := c) h1 W)
  clear h h1
  go_enter Try.func25, Try.ntmps25
  go_wp2_with fail
  refine (HK.out _).mono ?_
  rintro e w1 ⟨rfl, rfl⟩
  go_wp2
  go_ret
  exact ⟨rfl, below_al _ _⟩
set_option maxHeartbeats 800000 in
theorem spc_form (n c f lo hi : Int) (w : World) (h : ¬ (n < 2 ∨ 128 < n)) (h1 : isC c = true) (h2 : f < 1 ∨ 3 < f) :
    Calls Try.prog 25 #[.agg #[.int .i64 n, .int .i64 c, .int .i64 f, .int .i64 lo, .int .i64 hi]] w fun e w' => e = .returned (.int .i64 3) ∧ Below w.heap.size w w' := by
  have t1 : decide (n < 2) = false := by simp; omega
  have t2 : decide (128 < n) = false := by simp; omega
  have HK := Lib.hid (fun W => known_yes (c := c) h1 W)
  clear h h1
  by_cases h3 : f < 1
  · have t3 : decide (f < 1) = true := by simpa using h3
    clear h2 h3
    go_enter Try.func25, Try.ntmps25
    go_wp2_with fail
    refine (HK.out _).mono ?_
    rintro e w1 ⟨rfl, rfl⟩
    go_wp2
    go_ret
    exact ⟨rfl, below_al _ _⟩
  · have t3 : decide (f < 1) = false := by simpa using h3
    have t4 : decide (3 < f) = true := by simp; omega
    clear h2 h3
    go_enter Try.func25, Try.ntmps25
    go_wp2_with fail
    refine (HK.out _).mono ?_
    rintro e w1 ⟨rfl, rfl⟩
    go_wp2
    go_ret
    exact ⟨rfl, below_al _ _⟩
set_option maxHeartbeats 800000 in
theorem spc_range (n c f lo hi : Int) (w : World) (h : ¬ (n < 2 ∨ 128 < n)) (h1 : isC c = true) (h2 : ¬ (f < 1 ∨ 3 < f)) (h3 : lenB f lo hi = false) :
    Calls Try.prog 25 #[.agg #[.int .i64 n, .int .i64 c, .int .i64 f, .int .i64 lo, .int .i64 hi]] w fun e w' => e = .returned (.int .i64 5) ∧ Below w.heap.size w w' := by
  have t1 : decide (n < 2) = false := by simp; omega
  have t2 : decide (128 < n) = false := by simp; omega
  have t3 : decide (f < 1) = false := by simp; omega
  have t4 : decide (3 < f) = false := by simp; omega
  have HK := Lib.hid (fun W => known_yes (c := c) h1 W)
  have HL := Lib.hid (fun W => lengths_any n c f lo hi W (by omega))
  rw [h3] at HL
  clear h h1 h2 h3
  go_enter Try.func25, Try.ntmps25
  go_wp2_with fail
  refine (HK.out _).mono ?_
  rintro e w1 ⟨rfl, rfl⟩
  go_wp2_with fail
  refine (HL.out _).mono ?_
  rintro e w2 ⟨rfl, hb2⟩
  have HB2 := Lib.hid (hbt (below_al _ _) hb2)
  clear hb2
  go_wp2
  go_ret
  exact ⟨rfl, HB2.out⟩
set_option maxHeartbeats 800000 in
theorem spc_tag (n lo hi : Int) (w : World) (h : ¬ (n < 2 ∨ 128 < n)) (h3 : lenB 1 lo hi = true) :
    Calls Try.prog 25 #[.agg #[.int .i64 n, .int .i64 6, .int .i64 1, .int .i64 lo, .int .i64 hi]] w fun e w' => e = .returned (.int .i64 13) ∧ Below w.heap.size w w' := by
  have t1 : decide (n < 2) = false := by simp; omega
  have t2 : decide (128 < n) = false := by simp; omega
  have HK := Lib.hid (fun W => known_yes (c := 6) (by rfl) W)
  have HL := Lib.hid (fun W => lengths_any n 6 1 lo hi W (by omega))
  rw [h3] at HL
  clear h h3
  go_enter Try.func25, Try.ntmps25
  go_wp2_with fail
  refine (HK.out _).mono ?_
  rintro e w1 ⟨rfl, rfl⟩
  go_wp2_with fail
  refine (HL.out _).mono ?_
  rintro e w2 ⟨rfl, hb2⟩
  have HB2 := Lib.hid (hbt (below_al _ _) hb2)
  obtain ⟨c0, c1, c2, c3, c4⟩ := obj_cells5 (obj_below (heap_alloc_new _ _) hb2)
  clear hb2
  go_wp2
  go_ret
  exact ⟨rfl, HB2.out⟩
set_option maxHeartbeats 800000 in
theorem spc_ok (n c f lo hi : Int) (w : World) (h : ¬ (n < 2 ∨ 128 < n)) (h1 : isC c = true) (h2 : ¬ (f < 1 ∨ 3 < f)) (h3 : lenB f lo hi = true) (h4 : ¬ (c = 6 ∧ f = 1)) :
    Calls Try.prog 25 #[.agg #[.int .i64 n, .int .i64 c, .int .i64 f, .int .i64 lo, .int .i64 hi]] w fun e w' => e = .returned (.int .i64 0) ∧ Below w.heap.size w w' := by
  have t1 : decide (n < 2) = false := by simp; omega
  have t2 : decide (128 < n) = false := by simp; omega
  have t3 : decide (f < 1) = false := by simp; omega
  have t4 : decide (3 < f) = false := by simp; omega
  have HK := Lib.hid (fun W => known_yes (c := c) h1 W)
  have HL := Lib.hid (fun W => lengths_any n c f lo hi W (by omega))
  rw [h3] at HL
  by_cases h5 : c = 6
  · subst h5
    have t5 : (f == 1) = false := by simp; omega
    clear h h1 h2 h3 h4
    go_enter Try.func25, Try.ntmps25
    go_wp2_with fail
    refine (HK.out _).mono ?_
    rintro e w1 ⟨rfl, rfl⟩
    go_wp2_with fail
    refine (HL.out _).mono ?_
    rintro e w2 ⟨rfl, hb2⟩
    have HB2 := Lib.hid (hbt (below_al _ _) hb2)
    obtain ⟨c0, c1, c2, c3, c4⟩ := obj_cells5 (obj_below (heap_alloc_new _ _) hb2)
    clear hb2
    go_wp2
    go_ret
    exact ⟨rfl, HB2.out⟩
  · have t5 : (c == 6) = false := by simpa using h5
    clear h h1 h2 h3 h4 h5
    go_enter Try.func25, Try.ntmps25
    go_wp2_with fail
    refine (HK.out _).mono ?_
    rintro e w1 ⟨rfl, rfl⟩
    go_wp2_with fail
    refine (HL.out _).mono ?_
    rintro e w2 ⟨rfl, hb2⟩
    have HB2 := Lib.hid (hbt (below_al _ _) hb2)
    obtain ⟨c0, c1, c2, c3, c4⟩ := obj_cells5 (obj_below (heap_alloc_new _ _) hb2)
    clear hb2
    go_wp2
    go_ret
    exact ⟨rfl, HB2.out⟩
theorem spcheck_any (n c f lo hi : Int) (w : World) :
    Calls Try.prog 25 #[.agg #[.int .i64 n, .int .i64 c, .int .i64 f, .int .i64 lo, .int .i64 hi]] w fun e w' => e = .returned (.int .i64 (spk n c f lo hi)) ∧ Below w.heap.size w w' := by
  by_cases h : n < 2 ∨ 128 < n
  · rw [spk_arg h]; exact spc_arg n c f lo hi w h
  cases h1 : isC c
  · rw [spk_class h h1]; exact spc_class n c f lo hi w h h1
  by_cases h2 : f < 1 ∨ 3 < f
  · rw [spk_form h h1 h2]; exact spc_form n c f lo hi w h h1 h2
  cases h3 : lenB f lo hi
  · rw [spk_range h h1 h2 h3]; exact spc_range n c f lo hi w h h1 h2 h3
  by_cases h4 : c = 6 ∧ f = 1
  · rw [spk_tag h h1 h2 h3 h4]
    obtain ⟨rfl, rfl⟩ := h4
    exact spc_tag n lo hi w h h3
  · rw [spk_ok h h1 h2 h3 h4]; exact spc_ok n c f lo hi w h h1 h2 h3 h4

set_option maxHeartbeats 800000 in
theorem srf_arg (n c f lo hi : Int) (w : World) (h : n < 2 ∨ 128 < n) :
    Calls Try.prog 26 #[.agg #[.int .i64 n, .int .i64 c, .int .i64 f, .int .i64 lo, .int .i64 hi]] w fun e w' => e = .returned (.int .i64 1) ∧ Below w.heap.size w w' := by
  by_cases h1 : n < 2
  · have t1 : decide (n < 2) = true := by simpa using h1
    clear h h1
    go_enter Try.func26, Try.ntmps26
    go_wp2
    go_ret
    exact ⟨rfl, below_al _ _⟩
  · have t1 : decide (n < 2) = false := by simpa using h1
    have t2 : decide (128 < n) = true := by simp; omega
    clear h h1
    go_enter Try.func26, Try.ntmps26
    go_wp2
    go_ret
    exact ⟨rfl, below_al _ _⟩
set_option maxHeartbeats 800000 in
theorem srf_class (n c f lo hi : Int) (w : World) (h : ¬ (n < 2 ∨ 128 < n)) (h1 : isC c = false) :
    Calls Try.prog 26 #[.agg #[.int .i64 n, .int .i64 c, .int .i64 f, .int .i64 lo, .int .i64 hi]] w fun e w' => e = .returned (.int .i64 6) ∧ Below w.heap.size w w' := by
  have t1 : decide (n < 2) = false := by simp; omega
  have t2 : decide (128 < n) = false := by simp; omega
  rw [isC_false] at h1
  by_cases h2 : c < 1
  · have t3 : decide (c < 1) = true := by simpa using h2
    clear h h1 h2
    go_enter Try.func26, Try.ntmps26
    go_wp2
    go_ret
    exact ⟨rfl, below_al _ _⟩
  · have t3 : decide (c < 1) = false := by simpa using h2
    have t4 : decide (6 < c) = true := by simp; omega
    clear h h1 h2
    go_enter Try.func26, Try.ntmps26
    go_wp2
    go_ret
    exact ⟨rfl, below_al _ _⟩
set_option maxHeartbeats 800000 in
theorem srf_form (n c f lo hi : Int) (w : World) (h : ¬ (n < 2 ∨ 128 < n)) (h1 : isC c = true) (h2 : f < 1 ∨ 3 < f) :
    Calls Try.prog 26 #[.agg #[.int .i64 n, .int .i64 c, .int .i64 f, .int .i64 lo, .int .i64 hi]] w fun e w' => e = .returned (.int .i64 3) ∧ Below w.heap.size w w' := by
  have t1 : decide (n < 2) = false := by simp; omega
  have t2 : decide (128 < n) = false := by simp; omega
  rw [isC_iff] at h1
  have t3 : decide (c < 1) = false := by simp; omega
  have t4 : decide (6 < c) = false := by simp; omega
  by_cases h3 : f < 1
  · have t5 : decide (f < 1) = true := by simpa using h3
    clear h h1 h2 h3
    go_enter Try.func26, Try.ntmps26
    go_wp2
    go_ret
    exact ⟨rfl, below_al _ _⟩
  · have t5 : decide (f < 1) = false := by simpa using h3
    have t6 : decide (3 < f) = true := by simp; omega
    clear h h1 h2 h3
    go_enter Try.func26, Try.ntmps26
    go_wp2
    go_ret
    exact ⟨rfl, below_al _ _⟩

theorem lenB_one_no {lo hi : Int} (h : lenB 1 lo hi = false) (h1 : ¬ lo < 1) (h2 : ¬ hi < lo) (h3 : ¬ 999 < hi) : (lo == hi) = false := by
  rw [lenB_one ⟨by omega, by omega, by omega⟩] at h; exact h
theorem lenB_two_no {lo hi : Int} (h : lenB 2 lo hi = false) (h1 : ¬ lo < 1) (h2 : ¬ hi < lo) : 99 < hi := by
  by_cases h3 : hi ≤ 999
  · rw [lenB_two ⟨by omega, by omega, h3⟩] at h
    simpa using h
  · omega
theorem lenB_three_no {lo hi : Int} (h : lenB 3 lo hi = false) (h1 : ¬ lo < 1) (h2 : ¬ hi < lo) : 999 < hi := by
  by_cases h3 : hi ≤ 999
  · rw [lenB_three ⟨by omega, by omega, h3⟩] at h; cases h
  · omega
/-- What the document's Check walks with: number, class and form are right. -/
def Fit (n c f : Int) : Prop := decide (n < 2) = false ∧ decide (128 < n) = false ∧ decide (c < 1) = false ∧ decide (6 < c) = false ∧ (f = 1 ∨ f = 2 ∨ f = 3)

set_option maxHeartbeats 1600000 in
theorem srf_range (n c f lo hi : Int) (w : World) (hfit : Fit n c f) (h3 : lenB f lo hi = false) :
    Calls Try.prog 26 #[.agg #[.int .i64 n, .int .i64 c, .int .i64 f, .int .i64 lo, .int .i64 hi]] w fun e w' => e = .returned (.int .i64 5) ∧ Below w.heap.size w w' := by
  obtain ⟨t1, t2, t3, t4, hf⟩ := hfit
  by_cases g1 : lo < 1
  · have s1 : decide (lo < 1) = true := by simpa using g1
    clear g1 h3
    rcases hf with rfl | rfl | rfl <;>
    · go_enter Try.func26, Try.ntmps26
      go_wp2
      go_ret
      exact ⟨rfl, below_al _ _⟩
  have s1 : decide (lo < 1) = false := by simpa using g1
  by_cases g2 : hi < lo
  · have s2 : decide (hi < lo) = true := by simpa using g2
    clear g1 g2 h3
    rcases hf with rfl | rfl | rfl <;>
    · go_enter Try.func26, Try.ntmps26
      go_wp2
      go_ret
      exact ⟨rfl, below_al _ _⟩
  have s2 : decide (hi < lo) = false := by simpa using g2
  rcases hf with rfl | rfl | rfl
  · by_cases g3 : 999 < hi
    · have s3 : decide (999 < hi) = true := by simpa using g3
      clear g1 g2 g3 h3
      go_enter Try.func26, Try.ntmps26
      go_wp2
      go_ret
      exact ⟨rfl, below_al _ _⟩
    · have s3 : decide (999 < hi) = false := by simpa using g3
      have s4 : (lo == hi) = false := lenB_one_no h3 g1 g2 g3
      have s5 : (lo != hi) = true := by simp [bne, s4]
      clear g1 g2 g3 h3
      go_enter Try.func26, Try.ntmps26
      go_wp2
      go_ret
      exact ⟨rfl, below_al _ _⟩
  · have s3 : decide (99 < hi) = true := by have := lenB_two_no h3 g1 g2; simpa using this
    clear g1 g2 h3
    go_enter Try.func26, Try.ntmps26
    go_wp2
    go_ret
    exact ⟨rfl, below_al _ _⟩
  · have s3 : decide (999 < hi) = true := by have := lenB_three_no h3 g1 g2; simpa using this
    clear g1 g2 h3
    go_enter Try.func26, Try.ntmps26
    go_wp2
    go_ret
    exact ⟨rfl, below_al _ _⟩
set_option maxHeartbeats 1600000 in
theorem srf_tag (n lo hi : Int) (w : World) (hfit : Fit n 6 1) (h3 : lenB 1 lo hi = true) :
    Calls Try.prog 26 #[.agg #[.int .i64 n, .int .i64 6, .int .i64 1, .int .i64 lo, .int .i64 hi]] w fun e w' => e = .returned (.int .i64 13) ∧ Below w.heap.size w w' := by
  obtain ⟨t1, t2, _, _, _⟩ := hfit
  have hl := lenB_in h3
  rw [lenB_one hl] at h3
  obtain rfl : lo = hi := by simpa using h3
  have s1 : decide (lo < 1) = false := by simp; omega
  have s2 : decide (lo < lo) = false := by simp
  have s3 : decide (999 < lo) = false := by simp; omega
  clear hl h3
  go_enter Try.func26, Try.ntmps26
  go_wp2
  go_ret
  exact ⟨rfl, below_al _ _⟩
set_option maxHeartbeats 1600000 in
theorem srf_ok (n c f lo hi : Int) (w : World) (hfit : Fit n c f) (h3 : lenB f lo hi = true) (h4 : ¬ (c = 6 ∧ f = 1)) :
    Calls Try.prog 26 #[.agg #[.int .i64 n, .int .i64 c, .int .i64 f, .int .i64 lo, .int .i64 hi]] w fun e w' => e = .returned (.int .i64 0) ∧ Below w.heap.size w w' := by
  obtain ⟨t1, t2, t3, t4, hf⟩ := hfit
  have hl := lenB_in h3
  have s1 : decide (lo < 1) = false := by simp; omega
  have s2 : decide (hi < lo) = false := by simp; omega
  rcases hf with rfl | rfl | rfl
  · rw [lenB_one hl] at h3
    obtain rfl : lo = hi := by simpa using h3
    have s3 : decide (999 < lo) = false := by simp; omega
    have s4 : (c == 6) = false := by simp; omega
    clear hl h3 h4
    go_enter Try.func26, Try.ntmps26
    go_wp2
    go_ret
    exact ⟨rfl, below_al _ _⟩
  · rw [lenB_two hl] at h3
    have s3 : decide (99 < hi) = false := by simp at h3 ⊢; omega
    clear hl h3 h4
    go_enter Try.func26, Try.ntmps26
    go_wp2
    go_ret
    exact ⟨rfl, below_al _ _⟩
  · have s3 : decide (999 < hi) = false := by simp; omega
    clear hl h3 h4
    go_enter Try.func26, Try.ntmps26
    go_wp2
    go_ret
    exact ⟨rfl, below_al _ _⟩
theorem sprefCheck_any (n c f lo hi : Int) (w : World) :
    Calls Try.prog 26 #[.agg #[.int .i64 n, .int .i64 c, .int .i64 f, .int .i64 lo, .int .i64 hi]] w fun e w' => e = .returned (.int .i64 (spk n c f lo hi)) ∧ Below w.heap.size w w' := by
  by_cases h : n < 2 ∨ 128 < n
  · rw [spk_arg h]; exact srf_arg n c f lo hi w h
  cases h1 : isC c
  · rw [spk_class h h1]; exact srf_class n c f lo hi w h h1
  by_cases h2 : f < 1 ∨ 3 < f
  · rw [spk_form h h1 h2]; exact srf_form n c f lo hi w h h1 h2
  have hfit : Fit n c f := by
    rw [isC_iff] at h1
    exact ⟨by simp; omega, by simp; omega, by simp; omega, by simp; omega, by omega⟩
  cases h3 : lenB f lo hi
  · rw [spk_range h h1 h2 h3]; exact srf_range n c f lo hi w hfit h3
  by_cases h4 : c = 6 ∧ f = 1
  · rw [spk_tag h h1 h2 h3 h4]
    obtain ⟨rfl, rfl⟩ := h4
    exact srf_tag n lo hi w hfit h3
  · rw [spk_ok h h1 h2 h3 h4]; exact srf_ok n c f lo hi w hfit h3 h4

end Go.Proofs.Ytiifkcemieblkaa
