/-
  What Wider and the document's Wider answer: for every two specs.
-/
import Derived.Test.YtmobillfeldcjaaDoorSpcCheck
namespace Go.Proofs.YtmobillfeldcjaaDoor
open Go.RowKit

/-- Two specs in the first two blocks that the call makes. -/
def Specs (w : World) (n c f lo hi n' c' f' lo' hi' : Int) (u : World) : Prop :=
  Below w.heap.size w u ∧ u.heap[w.heap.size]? = some (.cells #[.int .i64 n, .int .i64 c, .int .i64 f, .int .i64 lo, .int .i64 hi] 23) ∧ u.heap[w.heap.size + 1]? = some (.cells #[.int .i64 n', .int .i64 c', .int .i64 f', .int .i64 lo', .int .i64 hi'] 23)
theorem Specs.below {w : World} {n c f lo hi n' c' f' lo' hi' : Int} {u u' : World} (h : Specs w n c f lo hi n' c' f' lo' hi' u) (hb : Below u.heap.size u u') : Specs w n c f lo hi n' c' f' lo' hi' u' :=
  ⟨hbt h.1 hb, obj_below h.2.1 hb, obj_below h.2.2 hb⟩
theorem specs_new (w : World) (n c f lo hi n' c' f' lo' hi' : Int) : Specs w n c f lo hi n' c' f' lo' hi' ((w.alloc (.cells #[.int .i64 n, .int .i64 c, .int .i64 f, .int .i64 lo, .int .i64 hi] 23)).alloc (.cells #[.int .i64 n', .int .i64 c', .int .i64 f', .int .i64 lo', .int .i64 hi'] 23)) :=
  ⟨hbt (below_al _ _) (below_al _ _), obj_below (heap_alloc_new _ _) (below_al _ _), heap_al _ _ _ (by simp)⟩
theorem Specs.cells {w : World} {n c f lo hi n' c' f' lo' hi' : Int} {u : World} (h : Specs w n c f lo hi n' c' f' lo' hi' u) :
    (u.cell? ⟨w.heap.size, 0, none⟩ = some (.int .i64 n) ∧ u.cell? ⟨w.heap.size, 1, none⟩ = some (.int .i64 c) ∧ u.cell? ⟨w.heap.size, 2, none⟩ = some (.int .i64 f) ∧ u.cell? ⟨w.heap.size, 3, none⟩ = some (.int .i64 lo) ∧ u.cell? ⟨w.heap.size, 4, none⟩ = some (.int .i64 hi)) ∧
    (u.cell? ⟨w.heap.size + 1, 0, none⟩ = some (.int .i64 n') ∧ u.cell? ⟨w.heap.size + 1, 1, none⟩ = some (.int .i64 c') ∧ u.cell? ⟨w.heap.size + 1, 2, none⟩ = some (.int .i64 f') ∧ u.cell? ⟨w.heap.size + 1, 3, none⟩ = some (.int .i64 lo') ∧ u.cell? ⟨w.heap.size + 1, 4, none⟩ = some (.int .i64 hi')) :=
  ⟨obj_cells5 h.2.1, obj_cells5 h.2.2⟩

theorem spw_a {n c f lo hi n' c' f' lo' hi' : Int} (h : spk n c f lo hi ≠ 0) : spw n c f lo hi n' c' f' lo' hi' = false := by simp [spw, h]
theorem spw_b {n c f lo hi n' c' f' lo' hi' : Int} (h : spk n' c' f' lo' hi' ≠ 0) : spw n c f lo hi n' c' f' lo' hi' = false := by simp [spw, h]
theorem spw_lo {n c f lo hi n' c' f' lo' hi' : Int} (h : ¬ lo ≤ lo') : spw n c f lo hi n' c' f' lo' hi' = false := by simp [spw, h]
theorem spw_hi {n c f lo hi n' c' f' lo' hi' : Int} (h : ¬ hi' ≤ hi) : spw n c f lo hi n' c' f' lo' hi' = false := by simp [spw, h]
theorem spw_yes {n c f lo hi n' c' f' lo' hi' : Int} (h1 : spk n c f lo hi = 0) (h2 : spk n' c' f' lo' hi' = 0) (h3 : lo ≤ lo') (h4 : hi' ≤ hi) : spw n c f lo hi n' c' f' lo' hi' = widC c c' := by simp [spw, h1, h2, h3, h4]

set_option maxHeartbeats 1600000 in
theorem wd_a (n c f lo hi n' c' f' lo' hi' : Int) (w : World) (h : spk n c f lo hi ≠ 0) :
    Calls Tryd.prog 13 #[.agg #[.int .i64 n, .int .i64 c, .int .i64 f, .int .i64 lo, .int .i64 hi], .agg #[.int .i64 n', .int .i64 c', .int .i64 f', .int .i64 lo', .int .i64 hi']] w fun e w' => e = .returned (.bool false) ∧ Below w.heap.size w w' := by
  have HK := Lib.hid (fun W => spcheck_any n c f lo hi W)
  have HS0 := Lib.hid (specs_new w n c f lo hi n' c' f' lo' hi')
  generalize spk n c f lo hi = x at *
  have t1 : (x == 0) = false := by simpa using h
  clear h
  go_enter Tryd.func13, Tryd.ntmps13
  go_wp2_with fail
  refine (HK.out _).mono ?_
  rintro e w1 ⟨rfl, hb1⟩
  have HB1 := Lib.hid (HS0.out.below hb1).1
  clear hb1
  go_wp2
  go_ret
  exact ⟨rfl, HB1.out⟩
set_option maxHeartbeats 1600000 in
theorem wd_b (n c f lo hi n' c' f' lo' hi' : Int) (w : World) (h0 : spk n c f lo hi = 0) (h : spk n' c' f' lo' hi' ≠ 0) :
    Calls Tryd.prog 13 #[.agg #[.int .i64 n, .int .i64 c, .int .i64 f, .int .i64 lo, .int .i64 hi], .agg #[.int .i64 n', .int .i64 c', .int .i64 f', .int .i64 lo', .int .i64 hi']] w fun e w' => e = .returned (.bool false) ∧ Below w.heap.size w w' := by
  have HK := Lib.hid (fun W => spcheck_any n c f lo hi W)
  have HK' := Lib.hid (fun W => spcheck_any n' c' f' lo' hi' W)
  have HS0 := Lib.hid (specs_new w n c f lo hi n' c' f' lo' hi')
  rw [h0] at HK
  generalize spk n' c' f' lo' hi' = x at *
  have t1 : (x == 0) = false := by simpa using h
  clear h h0
  go_enter Tryd.func13, Tryd.ntmps13
  go_wp2_with fail
  refine (HK.out _).mono ?_
  rintro e w1 ⟨rfl, hb1⟩
  have HS1 := Lib.hid (HS0.out.below hb1)
  obtain ⟨⟨c0, c1, c2, c3, c4⟩, d0, d1, d2, d3, d4⟩ := HS1.out.cells
  clear hb1
  go_wp2_with fail
  refine (HK'.out _).mono ?_
  rintro e w2 ⟨rfl, hb2⟩
  have HB2 := Lib.hid (HS1.out.below hb2).1
  clear hb2 c0 c1 c2 c3 c4 d0 d1 d2 d3 d4
  go_wp2
  go_ret
  exact ⟨rfl, HB2.out⟩
set_option maxHeartbeats 1600000 in
theorem wd_range (n c f lo hi n' c' f' lo' hi' : Int) (w : World) (h0 : spk n c f lo hi = 0) (h1 : spk n' c' f' lo' hi' = 0) (h : ¬ (lo ≤ lo' ∧ hi' ≤ hi)) :
    Calls Tryd.prog 13 #[.agg #[.int .i64 n, .int .i64 c, .int .i64 f, .int .i64 lo, .int .i64 hi], .agg #[.int .i64 n', .int .i64 c', .int .i64 f', .int .i64 lo', .int .i64 hi']] w fun e w' => e = .returned (.bool false) ∧ Below w.heap.size w w' := by
  have HK := Lib.hid (fun W => spcheck_any n c f lo hi W)
  have HK' := Lib.hid (fun W => spcheck_any n' c' f' lo' hi' W)
  have HS0 := Lib.hid (specs_new w n c f lo hi n' c' f' lo' hi')
  rw [h0] at HK
  rw [h1] at HK'
  clear h0 h1
  by_cases g : lo ≤ lo'
  · have t1 : decide (lo ≤ lo') = true := by simpa using g
    have t2 : decide (hi' ≤ hi) = false := by simp; omega
    clear g h
    go_enter Tryd.func13, Tryd.ntmps13
    go_wp2_with fail
    refine (HK.out _).mono ?_
    rintro e w1 ⟨rfl, hb1⟩
    have HS1 := Lib.hid (HS0.out.below hb1)
    obtain ⟨⟨c0, c1, c2, c3, c4⟩, d0, d1, d2, d3, d4⟩ := HS1.out.cells
    clear hb1
    go_wp2_with fail
    refine (HK'.out _).mono ?_
    rintro e w2 ⟨rfl, hb2⟩
    have HS2 := Lib.hid (HS1.out.below hb2)
    clear hb2 c0 c1 c2 c3 c4 d0 d1 d2 d3 d4
    obtain ⟨⟨c0, c1, c2, c3, c4⟩, d0, d1, d2, d3, d4⟩ := HS2.out.cells
    go_wp2
    go_ret
    exact ⟨rfl, HS2.out.1⟩
  · have t1 : decide (lo ≤ lo') = false := by simpa using g
    clear g h
    go_enter Tryd.func13, Tryd.ntmps13
    go_wp2_with fail
    refine (HK.out _).mono ?_
    rintro e w1 ⟨rfl, hb1⟩
    have HS1 := Lib.hid (HS0.out.below hb1)
    obtain ⟨⟨c0, c1, c2, c3, c4⟩, d0, d1, d2, d3, d4⟩ := HS1.out.cells
    clear hb1
    go_wp2_with fail
    refine (HK'.out _).mono ?_
    rintro e w2 ⟨rfl, hb2⟩
    have HS2 := Lib.hid (HS1.out.below hb2)
    clear hb2 c0 c1 c2 c3 c4 d0 d1 d2 d3 d4
    obtain ⟨⟨c0, c1, c2, c3, c4⟩, d0, d1, d2, d3, d4⟩ := HS2.out.cells
    go_wp2
    go_ret
    exact ⟨rfl, HS2.out.1⟩
set_option maxHeartbeats 1600000 in
theorem wd_yes (n c f lo hi n' c' f' lo' hi' : Int) (w : World) (hw : Kinds w) (h0 : spk n c f lo hi = 0) (h1 : spk n' c' f' lo' hi' = 0) (h : lo ≤ lo' ∧ hi' ≤ hi) :
    Calls Tryd.prog 13 #[.agg #[.int .i64 n, .int .i64 c, .int .i64 f, .int .i64 lo, .int .i64 hi], .agg #[.int .i64 n', .int .i64 c', .int .i64 f', .int .i64 lo', .int .i64 hi']] w fun e w' => e = .returned (.bool (widC c c')) ∧ Below w.heap.size w w' := by
  have HK := Lib.hid (fun W => spcheck_any n c f lo hi W)
  have HK' := Lib.hid (fun W => spcheck_any n' c' f' lo' hi' W)
  have HS0 := Lib.hid (specs_new w n c f lo hi n' c' f' lo' hi')
  have HC := Lib.hid (fun W hW => widerClass_any c c' W hW)
  have HW := Lib.hid hw
  rw [h0] at HK
  rw [h1] at HK'
  generalize widC c c' = r at *
  have t1 : decide (lo ≤ lo') = true := by simp; omega
  have t2 : decide (hi' ≤ hi) = true := by simp; omega
  clear h0 h1 h hw
  go_enter Tryd.func13, Tryd.ntmps13
  go_wp2_with fail
  refine (HK.out _).mono ?_
  rintro e w1 ⟨rfl, hb1⟩
  have HS1 := Lib.hid (HS0.out.below hb1)
  obtain ⟨⟨c0, c1, c2, c3, c4⟩, d0, d1, d2, d3, d4⟩ := HS1.out.cells
  clear hb1
  go_wp2_with fail
  refine (HK'.out _).mono ?_
  rintro e w2 ⟨rfl, hb2⟩
  have HS2 := Lib.hid (HS1.out.below hb2)
  clear hb2 c0 c1 c2 c3 c4 d0 d1 d2 d3 d4
  obtain ⟨⟨c0, c1, c2, c3, c4⟩, d0, d1, d2, d3, d4⟩ := HS2.out.cells
  go_wp2_with fail
  refine (HC.out _ (HW.out.below HS2.out.1)).mono ?_
  rintro e w3 ⟨rfl, hb3⟩
  have HB3 := Lib.hid (HS2.out.below hb3).1
  clear hb3 c0 c1 c2 c3 c4 d0 d1 d2 d3 d4
  go_wp2
  go_ret
  exact ⟨rfl, HB3.out⟩
theorem spwider_any (n c f lo hi n' c' f' lo' hi' : Int) (w : World) (hw : Kinds w) :
    Calls Tryd.prog 13 #[.agg #[.int .i64 n, .int .i64 c, .int .i64 f, .int .i64 lo, .int .i64 hi], .agg #[.int .i64 n', .int .i64 c', .int .i64 f', .int .i64 lo', .int .i64 hi']] w fun e w' => e = .returned (.bool (spw n c f lo hi n' c' f' lo' hi')) ∧ Below w.heap.size w w' := by
  by_cases h0 : spk n c f lo hi = 0
  · by_cases h1 : spk n' c' f' lo' hi' = 0
    · by_cases h : lo ≤ lo' ∧ hi' ≤ hi
      · rw [spw_yes h0 h1 h.1 h.2]; exact wd_yes n c f lo hi n' c' f' lo' hi' w hw h0 h1 h
      · have e : spw n c f lo hi n' c' f' lo' hi' = false := by
          by_cases g : lo ≤ lo'
          · exact spw_hi (fun g' => h ⟨g, g'⟩)
          · exact spw_lo g
        rw [e]; exact wd_range n c f lo hi n' c' f' lo' hi' w h0 h1 h
    · rw [spw_b h1]; exact wd_b n c f lo hi n' c' f' lo' hi' w h0 h1
  · rw [spw_a h0]; exact wd_a n c f lo hi n' c' f' lo' hi' w h0

set_option maxHeartbeats 1600000 in
theorem rwd_a (n c f lo hi n' c' f' lo' hi' : Int) (w : World) (h : spk n c f lo hi ≠ 0) :
    Calls Tryd.prog 14 #[.agg #[.int .i64 n, .int .i64 c, .int .i64 f, .int .i64 lo, .int .i64 hi], .agg #[.int .i64 n', .int .i64 c', .int .i64 f', .int .i64 lo', .int .i64 hi']] w fun e w' => e = .returned (.bool false) ∧ Below w.heap.size w w' := by
  have HK := Lib.hid (fun W => sprefCheck_any n c f lo hi W)
  have HS0 := Lib.hid (specs_new w n c f lo hi n' c' f' lo' hi')
  generalize spk n c f lo hi = x at *
  have t1 : (x != 0) = true := by simpa using h
  clear h
  go_enter Tryd.func14, Tryd.ntmps14
  go_wp2_with fail
  refine (HK.out _).mono ?_
  rintro e w1 ⟨rfl, hb1⟩
  have HB1 := Lib.hid (HS0.out.below hb1).1
  clear hb1
  go_wp2
  go_ret
  exact ⟨rfl, HB1.out⟩
set_option maxHeartbeats 1600000 in
theorem rwd_b (n c f lo hi n' c' f' lo' hi' : Int) (w : World) (h0 : spk n c f lo hi = 0) (h : spk n' c' f' lo' hi' ≠ 0) :
    Calls Tryd.prog 14 #[.agg #[.int .i64 n, .int .i64 c, .int .i64 f, .int .i64 lo, .int .i64 hi], .agg #[.int .i64 n', .int .i64 c', .int .i64 f', .int .i64 lo', .int .i64 hi']] w fun e w' => e = .returned (.bool false) ∧ Below w.heap.size w w' := by
  have HK := Lib.hid (fun W => sprefCheck_any n c f lo hi W)
  have HK' := Lib.hid (fun W => sprefCheck_any n' c' f' lo' hi' W)
  have HS0 := Lib.hid (specs_new w n c f lo hi n' c' f' lo' hi')
  rw [h0] at HK
  generalize spk n' c' f' lo' hi' = x at *
  have t1 : (x != 0) = true := by simpa using h
  clear h h0
  go_enter Tryd.func14, Tryd.ntmps14
  go_wp2_with fail
  refine (HK.out _).mono ?_
  rintro e w1 ⟨rfl, hb1⟩
  have HS1 := Lib.hid (HS0.out.below hb1)
  obtain ⟨⟨c0, c1, c2, c3, c4⟩, d0, d1, d2, d3, d4⟩ := HS1.out.cells
  clear hb1
  go_wp2_with fail
  refine (HK'.out _).mono ?_
  rintro e w2 ⟨rfl, hb2⟩
  have HB2 := Lib.hid (HS1.out.below hb2).1
  clear hb2 c0 c1 c2 c3 c4 d0 d1 d2 d3 d4
  go_wp2
  go_ret
  exact ⟨rfl, HB2.out⟩
set_option maxHeartbeats 1600000 in
theorem rwd_range (n c f lo hi n' c' f' lo' hi' : Int) (w : World) (h0 : spk n c f lo hi = 0) (h1 : spk n' c' f' lo' hi' = 0) (h : ¬ (lo ≤ lo' ∧ hi' ≤ hi)) :
    Calls Tryd.prog 14 #[.agg #[.int .i64 n, .int .i64 c, .int .i64 f, .int .i64 lo, .int .i64 hi], .agg #[.int .i64 n', .int .i64 c', .int .i64 f', .int .i64 lo', .int .i64 hi']] w fun e w' => e = .returned (.bool false) ∧ Below w.heap.size w w' := by
  have HK := Lib.hid (fun W => sprefCheck_any n c f lo hi W)
  have HK' := Lib.hid (fun W => sprefCheck_any n' c' f' lo' hi' W)
  have HS0 := Lib.hid (specs_new w n c f lo hi n' c' f' lo' hi')
  rw [h0] at HK
  rw [h1] at HK'
  clear h0 h1
  by_cases g : lo ≤ lo'
  · have t1 : decide (lo' < lo) = false := by simp; omega
    have t2 : decide (hi < hi') = true := by simp; omega
    clear g h
    go_enter Tryd.func14, Tryd.ntmps14
    go_wp2_with fail
    refine (HK.out _).mono ?_
    rintro e w1 ⟨rfl, hb1⟩
    have HS1 := Lib.hid (HS0.out.below hb1)
    obtain ⟨⟨c0, c1, c2, c3, c4⟩, d0, d1, d2, d3, d4⟩ := HS1.out.cells
    clear hb1
    go_wp2_with fail
    refine (HK'.out _).mono ?_
    rintro e w2 ⟨rfl, hb2⟩
    have HS2 := Lib.hid (HS1.out.below hb2)
    clear hb2 c0 c1 c2 c3 c4 d0 d1 d2 d3 d4
    obtain ⟨⟨c0, c1, c2, c3, c4⟩, d0, d1, d2, d3, d4⟩ := HS2.out.cells
    go_wp2
    go_ret
    exact ⟨rfl, HS2.out.1⟩
  · have t1 : decide (lo' < lo) = true := by simp; omega
    clear g h
    go_enter Tryd.func14, Tryd.ntmps14
    go_wp2_with fail
    refine (HK.out _).mono ?_
    rintro e w1 ⟨rfl, hb1⟩
    have HS1 := Lib.hid (HS0.out.below hb1)
    obtain ⟨⟨c0, c1, c2, c3, c4⟩, d0, d1, d2, d3, d4⟩ := HS1.out.cells
    clear hb1
    go_wp2_with fail
    refine (HK'.out _).mono ?_
    rintro e w2 ⟨rfl, hb2⟩
    have HS2 := Lib.hid (HS1.out.below hb2)
    clear hb2 c0 c1 c2 c3 c4 d0 d1 d2 d3 d4
    obtain ⟨⟨c0, c1, c2, c3, c4⟩, d0, d1, d2, d3, d4⟩ := HS2.out.cells
    go_wp2
    go_ret
    exact ⟨rfl, HS2.out.1⟩
/-- What both ways on share: both specs are right, and the lengths fit. -/
def Both (n c f lo hi n' c' f' lo' hi' : Int) : Prop := spk n c f lo hi = 0 ∧ spk n' c' f' lo' hi' = 0 ∧ decide (lo' < lo) = false ∧ decide (hi < hi') = false
set_option maxHeartbeats 1600000 in
theorem rwd_five (n f lo hi n' c' f' lo' hi' : Int) (w : World) (h : Both n 5 f lo hi n' c' f' lo' hi') :
    Calls Tryd.prog 14 #[.agg #[.int .i64 n, .int .i64 5, .int .i64 f, .int .i64 lo, .int .i64 hi], .agg #[.int .i64 n', .int .i64 c', .int .i64 f', .int .i64 lo', .int .i64 hi']] w fun e w' => e = .returned (.bool true) ∧ Below w.heap.size w w' := by
  obtain ⟨h0, h1, t1, t2⟩ := h
  have HK := Lib.hid (fun W => sprefCheck_any n 5 f lo hi W)
  have HK' := Lib.hid (fun W => sprefCheck_any n' c' f' lo' hi' W)
  have HS0 := Lib.hid (specs_new w n 5 f lo hi n' c' f' lo' hi')
  rw [h0] at HK
  rw [h1] at HK'
  clear h0 h1
  go_enter Tryd.func14, Tryd.ntmps14
  go_wp2_with fail
  refine (HK.out _).mono ?_
  rintro e w1 ⟨rfl, hb1⟩
  have HS1 := Lib.hid (HS0.out.below hb1)
  obtain ⟨⟨c0, c1, c2, c3, c4⟩, d0, d1, d2, d3, d4⟩ := HS1.out.cells
  clear hb1
  go_wp2_with fail
  refine (HK'.out _).mono ?_
  rintro e w2 ⟨rfl, hb2⟩
  have HS2 := Lib.hid (HS1.out.below hb2)
  clear hb2 c0 c1 c2 c3 c4 d0 d1 d2 d3 d4
  obtain ⟨⟨c0, c1, c2, c3, c4⟩, d0, d1, d2, d3, d4⟩ := HS2.out.cells
  go_wp2
  go_ret
  exact ⟨rfl, HS2.out.1⟩
set_option maxHeartbeats 1600000 in
theorem rwd_six (n c f lo hi n' c' f' lo' hi' : Int) (w : World) (h : Both n c f lo hi n' c' f' lo' hi') (h5 : c ≠ 5) (h6 : c = 6 ∨ c' = 6) :
    Calls Tryd.prog 14 #[.agg #[.int .i64 n, .int .i64 c, .int .i64 f, .int .i64 lo, .int .i64 hi], .agg #[.int .i64 n', .int .i64 c', .int .i64 f', .int .i64 lo', .int .i64 hi']] w fun e w' => e = .returned (.bool (c == c')) ∧ Below w.heap.size w w' := by
  obtain ⟨h0, h1, t1, t2⟩ := h
  have HK := Lib.hid (fun W => sprefCheck_any n c f lo hi W)
  have HK' := Lib.hid (fun W => sprefCheck_any n' c' f' lo' hi' W)
  have HS0 := Lib.hid (specs_new w n c f lo hi n' c' f' lo' hi')
  rw [h0] at HK
  rw [h1] at HK'
  clear h0 h1
  by_cases hc : c = 6
  · subst hc
    clear h5 h6
    go_enter Tryd.func14, Tryd.ntmps14
    go_wp2_with fail
    refine (HK.out _).mono ?_
    rintro e w1 ⟨rfl, hb1⟩
    have HS1 := Lib.hid (HS0.out.below hb1)
    obtain ⟨⟨c0, c1, c2, c3, c4⟩, d0, d1, d2, d3, d4⟩ := HS1.out.cells
    clear hb1
    go_wp2_with fail
    refine (HK'.out _).mono ?_
    rintro e w2 ⟨rfl, hb2⟩
    have HS2 := Lib.hid (HS1.out.below hb2)
    clear hb2 c0 c1 c2 c3 c4 d0 d1 d2 d3 d4
    obtain ⟨⟨c0, c1, c2, c3, c4⟩, d0, d1, d2, d3, d4⟩ := HS2.out.cells
    go_wp2
    go_ret
    exact ⟨rfl, HS2.out.1⟩
  · obtain rfl : c' = 6 := by omega
    have t3 : (c == 5) = false := by simpa using h5
    have t4 : (c == 6) = false := by simpa using hc
    clear h5 h6 hc
    go_enter Tryd.func14, Tryd.ntmps14
    go_wp2_with fail
    refine (HK.out _).mono ?_
    rintro e w1 ⟨rfl, hb1⟩
    have HS1 := Lib.hid (HS0.out.below hb1)
    obtain ⟨⟨c0, c1, c2, c3, c4⟩, d0, d1, d2, d3, d4⟩ := HS1.out.cells
    clear hb1
    go_wp2_with fail
    refine (HK'.out _).mono ?_
    rintro e w2 ⟨rfl, hb2⟩
    have HS2 := Lib.hid (HS1.out.below hb2)
    clear hb2 c0 c1 c2 c3 c4 d0 d1 d2 d3 d4
    obtain ⟨⟨c0, c1, c2, c3, c4⟩, d0, d1, d2, d3, d4⟩ := HS2.out.cells
    go_wp2
    go_ret
    exact ⟨by first | rfl | simp [t4], HS2.out.1⟩
set_option maxHeartbeats 1600000 in
theorem rwd_else (n c f lo hi n' c' f' lo' hi' : Int) (w : World) (h : Both n c f lo hi n' c' f' lo' hi') (h5 : c ≠ 5) (h6 : ¬ (c = 6 ∨ c' = 6)) :
    Calls Tryd.prog 14 #[.agg #[.int .i64 n, .int .i64 c, .int .i64 f, .int .i64 lo, .int .i64 hi], .agg #[.int .i64 n', .int .i64 c', .int .i64 f', .int .i64 lo', .int .i64 hi']] w fun e w' => e = .returned (.bool (wid c c')) ∧ Below w.heap.size w w' := by
  obtain ⟨h0, h1, t1, t2⟩ := h
  have HK := Lib.hid (fun W => sprefCheck_any n c f lo hi W)
  have HK' := Lib.hid (fun W => sprefCheck_any n' c' f' lo' hi' W)
  have HS0 := Lib.hid (specs_new w n c f lo hi n' c' f' lo' hi')
  have HC := Lib.hid (fun W => refWider_any c c' W)
  rw [h0] at HK
  rw [h1] at HK'
  generalize wid c c' = r at *
  have t3 : (c == 5) = false := by simpa using h5
  have t4 : (c == 6) = false := by simp; omega
  have t5 : (c' == 6) = false := by simp; omega
  clear h0 h1 h5 h6
  go_enter Tryd.func14, Tryd.ntmps14
  go_wp2_with fail
  refine (HK.out _).mono ?_
  rintro e w1 ⟨rfl, hb1⟩
  have HS1 := Lib.hid (HS0.out.below hb1)
  obtain ⟨⟨c0, c1, c2, c3, c4⟩, d0, d1, d2, d3, d4⟩ := HS1.out.cells
  clear hb1
  go_wp2_with fail
  refine (HK'.out _).mono ?_
  rintro e w2 ⟨rfl, hb2⟩
  have HS2 := Lib.hid (HS1.out.below hb2)
  clear hb2 c0 c1 c2 c3 c4 d0 d1 d2 d3 d4
  obtain ⟨⟨c0, c1, c2, c3, c4⟩, d0, d1, d2, d3, d4⟩ := HS2.out.cells
  go_wp2_with fail
  refine (HC.out _).mono ?_
  rintro e w3 ⟨rfl, rfl⟩
  go_wp2
  go_ret
  exact ⟨rfl, HS2.out.1⟩
theorem sprefWider_any (n c f lo hi n' c' f' lo' hi' : Int) (w : World) :
    Calls Tryd.prog 14 #[.agg #[.int .i64 n, .int .i64 c, .int .i64 f, .int .i64 lo, .int .i64 hi], .agg #[.int .i64 n', .int .i64 c', .int .i64 f', .int .i64 lo', .int .i64 hi']] w fun e w' => e = .returned (.bool (spw n c f lo hi n' c' f' lo' hi')) ∧ Below w.heap.size w w' := by
  by_cases h0 : spk n c f lo hi = 0
  · by_cases h1 : spk n' c' f' lo' hi' = 0
    · by_cases h : lo ≤ lo' ∧ hi' ≤ hi
      · rw [spw_yes h0 h1 h.1 h.2]
        have hB : Both n c f lo hi n' c' f' lo' hi' := ⟨h0, h1, by simp; omega, by simp; omega⟩
        unfold widC
        split
        · rename_i h5
          subst h5
          exact rwd_five n f lo hi n' c' f' lo' hi' w hB
        · rename_i h5
          split
          · rename_i h6
            exact rwd_six n c f lo hi n' c' f' lo' hi' w hB h5 h6
          · rename_i h6
            exact rwd_else n c f lo hi n' c' f' lo' hi' w hB h5 h6
      · have e : spw n c f lo hi n' c' f' lo' hi' = false := by
          by_cases g : lo ≤ lo'
          · exact spw_hi (fun g' => h ⟨g, g'⟩)
          · exact spw_lo g
        rw [e]; exact rwd_range n c f lo hi n' c' f' lo' hi' w h0 h1 h
    · rw [spw_b h1]; exact rwd_b n c f lo hi n' c' f' lo' hi' w h0 h1
  · rw [spw_a h0]; exact rwd_a n c f lo hi n' c' f' lo' hi' w h0

end Go.Proofs.YtmobillfeldcjaaDoor
