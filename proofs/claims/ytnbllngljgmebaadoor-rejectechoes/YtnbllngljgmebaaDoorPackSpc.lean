/-
  Texts of one family, laid together: SpcKey, SpcOne, SpcLen, SpcCheck, SpcMath, SpcSmall, SpcValue.
-/
import Derived.Test.YtnbllngljgmebaaDoorPackCls
import Derived.Test.YtnbllngljgmebaaDoorPackBase
import Derived.Test.YtnbllngljgmebaaDoorPackPfx
import Derived.BigQuiet
import Derived.Deep.RegionWith
import Derived.Test.YtnbllngljgmebaaDoorPackTlv

/-
  What a schema says of a field, over numbers alone: which specs may stand in a schema.
-/
namespace Go.Proofs.YtnbllngljgmebaaDoor

/-- May these be the least and the greatest length, by the form? -/
def lenB (f lo hi : Int) : Bool := decide (1 ≤ lo) && decide (lo ≤ hi) && decide (hi ≤ 999) && (if f = 1 then lo == hi else if f = 2 then decide (hi ≤ 99) else true)
/-- The error that Check tells. -/
def spk (n c f lo hi : Int) : Int := if n < 2 ∨ 128 < n then 1 else if isC c = false then 6 else if f < 1 ∨ 3 < f then 3 else if lenB f lo hi = false then 5 else if c = 6 ∧ f = 1 then 13 else 0

theorem spk_arg {n c f lo hi : Int} (h : n < 2 ∨ 128 < n) : spk n c f lo hi = 1 := by unfold spk; rw [if_pos h]
theorem spk_class {n c f lo hi : Int} (h : ¬ (n < 2 ∨ 128 < n)) (h1 : isC c = false) : spk n c f lo hi = 6 := by unfold spk; rw [if_neg h, if_pos h1]
theorem spk_form {n c f lo hi : Int} (h : ¬ (n < 2 ∨ 128 < n)) (h1 : isC c = true) (h2 : f < 1 ∨ 3 < f) : spk n c f lo hi = 3 := by unfold spk; rw [if_neg h, if_neg (by simp [h1]), if_pos h2]
theorem spk_range {n c f lo hi : Int} (h : ¬ (n < 2 ∨ 128 < n)) (h1 : isC c = true) (h2 : ¬ (f < 1 ∨ 3 < f)) (h3 : lenB f lo hi = false) : spk n c f lo hi = 5 := by unfold spk; rw [if_neg h, if_neg (by simp [h1]), if_neg h2, if_pos h3]
theorem spk_tag {n c f lo hi : Int} (h : ¬ (n < 2 ∨ 128 < n)) (h1 : isC c = true) (h2 : ¬ (f < 1 ∨ 3 < f)) (h3 : lenB f lo hi = true) (h4 : c = 6 ∧ f = 1) : spk n c f lo hi = 13 := by unfold spk; rw [if_neg h, if_neg (by simp [h1]), if_neg h2, if_neg (by simp [h3]), if_pos h4]
theorem spk_ok {n c f lo hi : Int} (h : ¬ (n < 2 ∨ 128 < n)) (h1 : isC c = true) (h2 : ¬ (f < 1 ∨ 3 < f)) (h3 : lenB f lo hi = true) (h4 : ¬ (c = 6 ∧ f = 1)) : spk n c f lo hi = 0 := by unfold spk; rw [if_neg h, if_neg (by simp [h1]), if_neg h2, if_neg (by simp [h3]), if_neg h4]
theorem lenB_in {f lo hi : Int} (h : lenB f lo hi = true) : 1 ≤ lo ∧ lo ≤ hi ∧ hi ≤ 999 := by
  simp [lenB] at h
  omega
theorem lenB_bad {f lo hi : Int} (h : ¬ (1 ≤ lo ∧ lo ≤ hi ∧ hi ≤ 999)) : lenB f lo hi = false := by
  cases e : lenB f lo hi
  · rfl
  · exact absurd (lenB_in e) h
theorem lenB_one {lo hi : Int} (h : 1 ≤ lo ∧ lo ≤ hi ∧ hi ≤ 999) : lenB 1 lo hi = (lo == hi) := by
  simp [lenB, h.1, h.2.1, h.2.2]
theorem lenB_two {lo hi : Int} (h : 1 ≤ lo ∧ lo ≤ hi ∧ hi ≤ 999) : lenB 2 lo hi = decide (hi ≤ 99) := by
  simp [lenB, h.1, h.2.1, h.2.2]
theorem lenB_three {lo hi : Int} (h : 1 ≤ lo ∧ lo ≤ hi ∧ hi ≤ 999) : lenB 3 lo hi = true := by
  simp [lenB, h.1, h.2.1, h.2.2]
theorem spk_in {n c f lo hi : Int} (h : spk n c f lo hi = 0) : isC c = true ∧ 1 ≤ lo ∧ lo ≤ hi ∧ hi ≤ 999 := by
  unfold spk at h
  split at h
  · omega
  split at h
  · omega
  rename_i h1
  split at h
  · omega
  split at h
  · omega
  rename_i h2
  exact ⟨by simpa using h1, lenB_in (by simpa using h2)⟩

end Go.Proofs.YtnbllngljgmebaaDoor

/-
  One spec, or two, in the first blocks that a call makes: through calls, and through regions that draw their order.
-/
namespace Go.Proofs.YtnbllngljgmebaaDoor
open Go.RowKit

theorem obj_cells5 {u : World} {g : Nat} {a b c d e : Value} {t : TypeId} (h : u.heap[g]? = some (.cells #[a, b, c, d, e] t)) :
    u.cell? ⟨g, 0, none⟩ = some a ∧ u.cell? ⟨g, 1, none⟩ = some b ∧ u.cell? ⟨g, 2, none⟩ = some c ∧ u.cell? ⟨g, 3, none⟩ = some d ∧ u.cell? ⟨g, 4, none⟩ = some e :=
  ⟨cell_of_row u g 0 _ t _ h, cell_of_row u g 1 _ t _ h, cell_of_row u g 2 _ t _ h, cell_of_row u g 3 _ t _ h, cell_of_row u g 4 _ t _ h⟩

/-- One spec in the first block that the call makes. -/
def Spec1 (w : World) (n c f lo hi : Int) (u : World) : Prop := Below w.heap.size w u ∧ u.heap[w.heap.size]? = some (.cells #[.int .i64 n, .int .i64 c, .int .i64 f, .int .i64 lo, .int .i64 hi] 67)
theorem Spec1.below {w : World} {n c f lo hi : Int} {u u' : World} (h : Spec1 w n c f lo hi u) (hb : Below u.heap.size u u') : Spec1 w n c f lo hi u' := ⟨hbt h.1 hb, obj_below h.2 hb⟩
theorem spec1_new (w : World) (n c f lo hi : Int) : Spec1 w n c f lo hi (w.alloc (.cells #[.int .i64 n, .int .i64 c, .int .i64 f, .int .i64 lo, .int .i64 hi] 67)) := ⟨below_al _ _, heap_alloc_new _ _⟩
theorem Spec1.drew {w : World} {n c f lo hi : Int} {u : World} (h : Spec1 w n c f lo hi u) : Spec1 w n c f lo hi u.drew := ⟨h.1.drew, h.2⟩

/-- Two specs in the first two blocks that the call makes. -/
def Specs (w : World) (n c f lo hi n' c' f' lo' hi' : Int) (u : World) : Prop :=
  Below w.heap.size w u ∧ u.heap[w.heap.size]? = some (.cells #[.int .i64 n, .int .i64 c, .int .i64 f, .int .i64 lo, .int .i64 hi] 67) ∧ u.heap[w.heap.size + 1]? = some (.cells #[.int .i64 n', .int .i64 c', .int .i64 f', .int .i64 lo', .int .i64 hi'] 67)
theorem Specs.below {w : World} {n c f lo hi n' c' f' lo' hi' : Int} {u u' : World} (h : Specs w n c f lo hi n' c' f' lo' hi' u) (hb : Below u.heap.size u u') : Specs w n c f lo hi n' c' f' lo' hi' u' :=
  ⟨hbt h.1 hb, obj_below h.2.1 hb, obj_below h.2.2 hb⟩
theorem specs_new (w : World) (n c f lo hi n' c' f' lo' hi' : Int) : Specs w n c f lo hi n' c' f' lo' hi' ((w.alloc (.cells #[.int .i64 n, .int .i64 c, .int .i64 f, .int .i64 lo, .int .i64 hi] 67)).alloc (.cells #[.int .i64 n', .int .i64 c', .int .i64 f', .int .i64 lo', .int .i64 hi'] 67)) :=
  ⟨hbt (below_al _ _) (below_al _ _), obj_below (heap_alloc_new _ _) (below_al _ _), heap_al _ _ _ (by simp)⟩
theorem Specs.cells {w : World} {n c f lo hi n' c' f' lo' hi' : Int} {u : World} (h : Specs w n c f lo hi n' c' f' lo' hi' u) :
    (u.cell? ⟨w.heap.size, 0, none⟩ = some (.int .i64 n) ∧ u.cell? ⟨w.heap.size, 1, none⟩ = some (.int .i64 c) ∧ u.cell? ⟨w.heap.size, 2, none⟩ = some (.int .i64 f) ∧ u.cell? ⟨w.heap.size, 3, none⟩ = some (.int .i64 lo) ∧ u.cell? ⟨w.heap.size, 4, none⟩ = some (.int .i64 hi)) ∧
    (u.cell? ⟨w.heap.size + 1, 0, none⟩ = some (.int .i64 n') ∧ u.cell? ⟨w.heap.size + 1, 1, none⟩ = some (.int .i64 c') ∧ u.cell? ⟨w.heap.size + 1, 2, none⟩ = some (.int .i64 f') ∧ u.cell? ⟨w.heap.size + 1, 3, none⟩ = some (.int .i64 lo') ∧ u.cell? ⟨w.heap.size + 1, 4, none⟩ = some (.int .i64 hi')) :=
  ⟨obj_cells5 h.2.1, obj_cells5 h.2.2⟩
theorem Specs.drew {w : World} {n c f lo hi n' c' f' lo' hi' : Int} {u : World} (h : Specs w n c f lo hi n' c' f' lo' hi' u) : Specs w n c f lo hi n' c' f' lo' hi' u.drew := ⟨h.1.drew, h.2⟩

end Go.Proofs.YtnbllngljgmebaaDoor

/-
  What lengths answers.
-/
namespace Go.Proofs.YtnbllngljgmebaaDoor
open Go.RowKit

set_option maxRecDepth 100000 in
set_option maxHeartbeats 800000 in
theorem lengths_bad (n c f lo hi : Int) (w : World) (h : ¬ (1 ≤ lo ∧ lo ≤ hi ∧ hi ≤ 999)) :
    Calls Tryd.prog 69 #[.agg #[.int .i64 n, .int .i64 c, .int .i64 f, .int .i64 lo, .int .i64 hi]] w fun e w' => e = .returned (.bool false) ∧ Below w.heap.size w w' := by
  by_cases h1 : lo < 1
  · have t1 : decide (lo < 1) = true := by simpa using h1
    clear h h1
    go_enter Tryd.func69, Tryd.ntmps69
    go_wp2
    go_ret
    exact ⟨rfl, below_al _ _⟩
  have t1 : decide (lo < 1) = false := by simpa using h1
  by_cases h2 : hi < lo
  · have t2 : decide (hi < lo) = true := by simpa using h2
    clear h h1 h2
    go_enter Tryd.func69, Tryd.ntmps69
    go_wp2
    go_ret
    exact ⟨rfl, below_al _ _⟩
  have t2 : decide (hi < lo) = false := by simpa using h2
  have t3 : decide (999 < hi) = true := by simp; omega
  clear h h1 h2
  go_enter Tryd.func69, Tryd.ntmps69
  go_wp2
  go_ret
  exact ⟨rfl, below_al _ _⟩
set_option maxRecDepth 100000 in
set_option maxHeartbeats 800000 in
theorem lengths_one (n c lo hi : Int) (w : World) (h : 1 ≤ lo ∧ lo ≤ hi ∧ hi ≤ 999) :
    Calls Tryd.prog 69 #[.agg #[.int .i64 n, .int .i64 c, .int .i64 1, .int .i64 lo, .int .i64 hi]] w fun e w' => e = .returned (.bool (lo == hi)) ∧ Below w.heap.size w w' := by
  have t1 : decide (lo < 1) = false := by simp; omega
  have t2 : decide (hi < lo) = false := by simp; omega
  have t3 : decide (999 < hi) = false := by simp; omega
  clear h
  go_enter Tryd.func69, Tryd.ntmps69
  go_wp2
  go_ret
  exact ⟨rfl, below_al _ _⟩
set_option maxRecDepth 100000 in
set_option maxHeartbeats 800000 in
theorem lengths_two (n c lo hi : Int) (w : World) (h : 1 ≤ lo ∧ lo ≤ hi ∧ hi ≤ 999) :
    Calls Tryd.prog 69 #[.agg #[.int .i64 n, .int .i64 c, .int .i64 2, .int .i64 lo, .int .i64 hi]] w fun e w' => e = .returned (.bool (decide (hi ≤ 99))) ∧ Below w.heap.size w w' := by
  have t1 : decide (lo < 1) = false := by simp; omega
  have t2 : decide (hi < lo) = false := by simp; omega
  have t3 : decide (999 < hi) = false := by simp; omega
  have HC := Lib.hid ptop_two
  clear h
  go_enter Tryd.func69, Tryd.ntmps69
  go_wp2_with fail
  go_quiet ((go_at_call 82; exact Calls.quiet_of_same (HC.out _)))
  go_wp2
  go_ret
  exact ⟨rfl, hbt (below_al _ _) (below_drewN _ _)⟩
set_option maxRecDepth 100000 in
set_option maxHeartbeats 800000 in
theorem lengths_three (n c lo hi : Int) (w : World) (h : 1 ≤ lo ∧ lo ≤ hi ∧ hi ≤ 999) :
    Calls Tryd.prog 69 #[.agg #[.int .i64 n, .int .i64 c, .int .i64 3, .int .i64 lo, .int .i64 hi]] w fun e w' => e = .returned (.bool true) ∧ Below w.heap.size w w' := by
  have t1 : decide (lo < 1) = false := by simp; omega
  have t2 : decide (hi < lo) = false := by simp; omega
  have t3 : decide (999 < hi) = false := by simp; omega
  have t4 : decide (hi ≤ 999) = true := by simp; omega
  have HC := Lib.hid ptop_three
  clear h
  go_enter Tryd.func69, Tryd.ntmps69
  go_wp2_with fail
  go_quiet ((go_at_call 82; exact Calls.quiet_of_same (HC.out _)))
  go_wp2
  go_ret
  exact ⟨by first | rfl | (rw [← t4]; rfl), hbt (below_al _ _) (below_drewN _ _)⟩
theorem lengths_any (n c f lo hi : Int) (w : World) (hf : f = 1 ∨ f = 2 ∨ f = 3) :
    Calls Tryd.prog 69 #[.agg #[.int .i64 n, .int .i64 c, .int .i64 f, .int .i64 lo, .int .i64 hi]] w fun e w' => e = .returned (.bool (lenB f lo hi)) ∧ Below w.heap.size w w' := by
  by_cases h : 1 ≤ lo ∧ lo ≤ hi ∧ hi ≤ 999
  · rcases hf with rfl | rfl | rfl
    · rw [lenB_one h]; exact lengths_one n c lo hi w h
    · rw [lenB_two h]; exact lengths_two n c lo hi w h
    · rw [lenB_three h]; exact lengths_three n c lo hi w h
  · rw [lenB_bad h]; exact lengths_bad n c f lo hi w h

end Go.Proofs.YtnbllngljgmebaaDoor

/-
  What Check and the document's Check answer: for every spec, in every world.
-/
namespace Go.Proofs.YtnbllngljgmebaaDoor
open Go.RowKit

set_option maxRecDepth 100000 in
set_option maxHeartbeats 800000 in
theorem spc_arg (n c f lo hi : Int) (w : World) (h : n < 2 ∨ 128 < n) :
    Calls Tryd.prog 50 #[.agg #[.int .i64 n, .int .i64 c, .int .i64 f, .int .i64 lo, .int .i64 hi]] w fun e w' => e = .returned (.int .i64 1) ∧ Below w.heap.size w w' := by
  by_cases h1 : n < 2
  · have t1 : decide (n < 2) = true := by simpa using h1
    clear h h1
    go_enter Tryd.func50, Tryd.ntmps50
    go_wp2
    go_ret
    exact ⟨rfl, below_al _ _⟩
  · have t1 : decide (n < 2) = false := by simpa using h1
    have t2 : decide (128 < n) = true := by simp; omega
    clear h h1
    go_enter Tryd.func50, Tryd.ntmps50
    go_wp2
    go_ret
    exact ⟨rfl, below_al _ _⟩
set_option maxRecDepth 100000 in
set_option maxHeartbeats 800000 in
theorem spc_class (n c f lo hi : Int) (w : World) (h : ¬ (n < 2 ∨ 128 < n)) (h1 : isC c = false) :
    Calls Tryd.prog 50 #[.agg #[.int .i64 n, .int .i64 c, .int .i64 f, .int .i64 lo, .int .i64 hi]] w fun e w' => e = .returned (.int .i64 6) ∧ Below w.heap.size w w' := by
  have t1 : decide (n < 2) = false := by simp; omega
  have t2 : decide (128 < n) = false := by simp; omega
  have HK := Lib.hid (fun W => known_no (c := c) h1 W)
  clear h h1
  go_enter Tryd.func50, Tryd.ntmps50
  go_wp2_with fail
  refine (HK.out _).mono ?_
  rintro e w1 ⟨rfl, rfl⟩
  go_wp2
  go_ret
  exact ⟨rfl, below_al _ _⟩
set_option maxRecDepth 100000 in
set_option maxHeartbeats 800000 in
theorem spc_form (n c f lo hi : Int) (w : World) (h : ¬ (n < 2 ∨ 128 < n)) (h1 : isC c = true) (h2 : f < 1 ∨ 3 < f) :
    Calls Tryd.prog 50 #[.agg #[.int .i64 n, .int .i64 c, .int .i64 f, .int .i64 lo, .int .i64 hi]] w fun e w' => e = .returned (.int .i64 3) ∧ Below w.heap.size w w' := by
  have t1 : decide (n < 2) = false := by simp; omega
  have t2 : decide (128 < n) = false := by simp; omega
  have HK := Lib.hid (fun W => known_yes (c := c) h1 W)
  clear h h1
  by_cases h3 : f < 1
  · have t3 : decide (f < 1) = true := by simpa using h3
    clear h2 h3
    go_enter Tryd.func50, Tryd.ntmps50
    go_wp2_with fail
    refine (HK.out _).mono ?_
    rintro e w1 ⟨rfl, rfl⟩
    go_wp2
    go_ret
    exact ⟨rfl, below_al _ _⟩
  · have t3 : decide (f < 1) = false := by simpa using h3
    have t4 : decide (3 < f) = true := by simp; omega
    clear h2 h3
    go_enter Tryd.func50, Tryd.ntmps50
    go_wp2_with fail
    refine (HK.out _).mono ?_
    rintro e w1 ⟨rfl, rfl⟩
    go_wp2
    go_ret
    exact ⟨rfl, below_al _ _⟩
set_option maxRecDepth 100000 in
set_option maxHeartbeats 800000 in
theorem spc_range (n c f lo hi : Int) (w : World) (h : ¬ (n < 2 ∨ 128 < n)) (h1 : isC c = true) (h2 : ¬ (f < 1 ∨ 3 < f)) (h3 : lenB f lo hi = false) :
    Calls Tryd.prog 50 #[.agg #[.int .i64 n, .int .i64 c, .int .i64 f, .int .i64 lo, .int .i64 hi]] w fun e w' => e = .returned (.int .i64 5) ∧ Below w.heap.size w w' := by
  have t1 : decide (n < 2) = false := by simp; omega
  have t2 : decide (128 < n) = false := by simp; omega
  have t3 : decide (f < 1) = false := by simp; omega
  have t4 : decide (3 < f) = false := by simp; omega
  have HK := Lib.hid (fun W => known_yes (c := c) h1 W)
  have HL := Lib.hid (fun W => lengths_any n c f lo hi W (by omega))
  rw [h3] at HL
  clear h h1 h2 h3
  go_enter Tryd.func50, Tryd.ntmps50
  go_wp2_with fail
  refine (HK.out _).mono ?_
  rintro e w1 ⟨rfl, rfl⟩
  go_wp2_with fail
  refine (HL.out _).mono ?_
  rintro e w2 ⟨rfl, hb2⟩
  have HB2 := Lib.hid (hbt (below_al _ _) hb2)
  clear hb2
  go_wp2
  go_ret
  exact ⟨rfl, HB2.out⟩
set_option maxRecDepth 100000 in
set_option maxHeartbeats 800000 in
theorem spc_tag (n lo hi : Int) (w : World) (h : ¬ (n < 2 ∨ 128 < n)) (h3 : lenB 1 lo hi = true) :
    Calls Tryd.prog 50 #[.agg #[.int .i64 n, .int .i64 6, .int .i64 1, .int .i64 lo, .int .i64 hi]] w fun e w' => e = .returned (.int .i64 13) ∧ Below w.heap.size w w' := by
  have t1 : decide (n < 2) = false := by simp; omega
  have t2 : decide (128 < n) = false := by simp; omega
  have HK := Lib.hid (fun W => known_yes (c := 6) (by rfl) W)
  have HL := Lib.hid (fun W => lengths_any n 6 1 lo hi W (by omega))
  rw [h3] at HL
  clear h h3
  go_enter Tryd.func50, Tryd.ntmps50
  go_wp2_with fail
  refine (HK.out _).mono ?_
  rintro e w1 ⟨rfl, rfl⟩
  go_wp2_with fail
  refine (HL.out _).mono ?_
  rintro e w2 ⟨rfl, hb2⟩
  have HB2 := Lib.hid (hbt (below_al _ _) hb2)
  obtain ⟨c0, c1, c2, c3, c4⟩ := obj_cells5 (obj_below (heap_alloc_new _ _) hb2)
  clear hb2
  go_wp2
  go_ret
  exact ⟨rfl, HB2.out⟩
set_option maxRecDepth 100000 in
set_option maxHeartbeats 800000 in
theorem spc_ok (n c f lo hi : Int) (w : World) (h : ¬ (n < 2 ∨ 128 < n)) (h1 : isC c = true) (h2 : ¬ (f < 1 ∨ 3 < f)) (h3 : lenB f lo hi = true) (h4 : ¬ (c = 6 ∧ f = 1)) :
    Calls Tryd.prog 50 #[.agg #[.int .i64 n, .int .i64 c, .int .i64 f, .int .i64 lo, .int .i64 hi]] w fun e w' => e = .returned (.int .i64 0) ∧ Below w.heap.size w w' := by
  have t1 : decide (n < 2) = false := by simp; omega
  have t2 : decide (128 < n) = false := by simp; omega
  have t3 : decide (f < 1) = false := by simp; omega
  have t4 : decide (3 < f) = false := by simp; omega
  have HK := Lib.hid (fun W => known_yes (c := c) h1 W)
  have HL := Lib.hid (fun W => lengths_any n c f lo hi W (by omega))
  rw [h3] at HL
  by_cases h5 : c = 6
  · subst h5
    have t5 : (f == 1) = false := by simp; omega
    clear h h1 h2 h3 h4
    go_enter Tryd.func50, Tryd.ntmps50
    go_wp2_with fail
    refine (HK.out _).mono ?_
    rintro e w1 ⟨rfl, rfl⟩
    go_wp2_with fail
    refine (HL.out _).mono ?_
    rintro e w2 ⟨rfl, hb2⟩
    have HB2 := Lib.hid (hbt (below_al _ _) hb2)
    obtain ⟨c0, c1, c2, c3, c4⟩ := obj_cells5 (obj_below (heap_alloc_new _ _) hb2)
    clear hb2
    go_wp2
    go_ret
    exact ⟨rfl, HB2.out⟩
  · have t5 : (c == 6) = false := by simpa using h5
    clear h h1 h2 h3 h4 h5
    go_enter Tryd.func50, Tryd.ntmps50
    go_wp2_with fail
    refine (HK.out _).mono ?_
    rintro e w1 ⟨rfl, rfl⟩
    go_wp2_with fail
    refine (HL.out _).mono ?_
    rintro e w2 ⟨rfl, hb2⟩
    have HB2 := Lib.hid (hbt (below_al _ _) hb2)
    obtain ⟨c0, c1, c2, c3, c4⟩ := obj_cells5 (obj_below (heap_alloc_new _ _) hb2)
    clear hb2
    go_wp2
    go_ret
    exact ⟨rfl, HB2.out⟩
theorem spcheck_any (n c f lo hi : Int) (w : World) :
    Calls Tryd.prog 50 #[.agg #[.int .i64 n, .int .i64 c, .int .i64 f, .int .i64 lo, .int .i64 hi]] w fun e w' => e = .returned (.int .i64 (spk n c f lo hi)) ∧ Below w.heap.size w w' := by
  by_cases h : n < 2 ∨ 128 < n
  · rw [spk_arg h]; exact spc_arg n c f lo hi w h
  cases h1 : isC c
  · rw [spk_class h h1]; exact spc_class n c f lo hi w h h1
  by_cases h2 : f < 1 ∨ 3 < f
  · rw [spk_form h h1 h2]; exact spc_form n c f lo hi w h h1 h2
  cases h3 : lenB f lo hi
  · rw [spk_range h h1 h2 h3]; exact spc_range n c f lo hi w h h1 h2 h3
  by_cases h4 : c = 6 ∧ f = 1
  · rw [spk_tag h h1 h2 h3 h4]
    obtain ⟨rfl, rfl⟩ := h4
    exact spc_tag n lo hi w h h3
  · rw [spk_ok h h1 h2 h3 h4]; exact spc_ok n c f lo hi w h h1 h2 h3 h4

set_option maxRecDepth 100000 in
set_option maxHeartbeats 800000 in
theorem srf_arg (n c f lo hi : Int) (w : World) (h : n < 2 ∨ 128 < n) :
    Calls Tryd.prog 54 #[.agg #[.int .i64 n, .int .i64 c, .int .i64 f, .int .i64 lo, .int .i64 hi]] w fun e w' => e = .returned (.int .i64 1) ∧ Below w.heap.size w w' := by
  by_cases h1 : n < 2
  · have t1 : decide (n < 2) = true := by simpa using h1
    clear h h1
    go_enter Tryd.func54, Tryd.ntmps54
    go_wp2
    go_ret
    exact ⟨rfl, below_al _ _⟩
  · have t1 : decide (n < 2) = false := by simpa using h1
    have t2 : decide (128 < n) = true := by simp; omega
    clear h h1
    go_enter Tryd.func54, Tryd.ntmps54
    go_wp2
    go_ret
    exact ⟨rfl, below_al _ _⟩
set_option maxRecDepth 100000 in
set_option maxHeartbeats 800000 in
theorem srf_class (n c f lo hi : Int) (w : World) (h : ¬ (n < 2 ∨ 128 < n)) (h1 : isC c = false) :
    Calls Tryd.prog 54 #[.agg #[.int .i64 n, .int .i64 c, .int .i64 f, .int .i64 lo, .int .i64 hi]] w fun e w' => e = .returned (.int .i64 6) ∧ Below w.heap.size w w' := by
  have t1 : decide (n < 2) = false := by simp; omega
  have t2 : decide (128 < n) = false := by simp; omega
  rw [isC_false] at h1
  by_cases h2 : c < 1
  · have t3 : decide (c < 1) = true := by simpa using h2
    clear h h1 h2
    go_enter Tryd.func54, Tryd.ntmps54
    go_wp2
    go_ret
    exact ⟨rfl, below_al _ _⟩
  · have t3 : decide (c < 1) = false := by simpa using h2
    have t4 : decide (6 < c) = true := by simp; omega
    clear h h1 h2
    go_enter Tryd.func54, Tryd.ntmps54
    go_wp2
    go_ret
    exact ⟨rfl, below_al _ _⟩
set_option maxRecDepth 100000 in
set_option maxHeartbeats 800000 in
theorem srf_form (n c f lo hi : Int) (w : World) (h : ¬ (n < 2 ∨ 128 < n)) (h1 : isC c = true) (h2 : f < 1 ∨ 3 < f) :
    Calls Tryd.prog 54 #[.agg #[.int .i64 n, .int .i64 c, .int .i64 f, .int .i64 lo, .int .i64 hi]] w fun e w' => e = .returned (.int .i64 3) ∧ Below w.heap.size w w' := by
  have t1 : decide (n < 2) = false := by simp; omega
  have t2 : decide (128 < n) = false := by simp; omega
  rw [isC_iff] at h1
  have t3 : decide (c < 1) = false := by simp; omega
  have t4 : decide (6 < c) = false := by simp; omega
  by_cases h3 : f < 1
  · have t5 : decide (f < 1) = true := by simpa using h3
    clear h h1 h2 h3
    go_enter Tryd.func54, Tryd.ntmps54
    go_wp2
    go_ret
    exact ⟨rfl, below_al _ _⟩
  · have t5 : decide (f < 1) = false := by simpa using h3
    have t6 : decide (3 < f) = true := by simp; omega
    clear h h1 h2 h3
    go_enter Tryd.func54, Tryd.ntmps54
    go_wp2
    go_ret
    exact ⟨rfl, below_al _ _⟩

theorem lenB_one_no {lo hi : Int} (h : lenB 1 lo hi = false) (h1 : ¬ lo < 1) (h2 : ¬ hi < lo) (h3 : ¬ 999 < hi) : (lo == hi) = false := by
  rw [lenB_one ⟨by omega, by omega, by omega⟩] at h; exact h
theorem lenB_two_no {lo hi : Int} (h : lenB 2 lo hi = false) (h1 : ¬ lo < 1) (h2 : ¬ hi < lo) : 99 < hi := by
  by_cases h3 : hi ≤ 999
  · rw [lenB_two ⟨by omega, by omega, h3⟩] at h
    simpa using h
  · omega
theorem lenB_three_no {lo hi : Int} (h : lenB 3 lo hi = false) (h1 : ¬ lo < 1) (h2 : ¬ hi < lo) : 999 < hi := by
  by_cases h3 : hi ≤ 999
  · rw [lenB_three ⟨by omega, by omega, h3⟩] at h; cases h
  · omega
/-- What the document's Check walks with: number, class and form are right. -/
def Fit (n c f : Int) : Prop := decide (n < 2) = false ∧ decide (128 < n) = false ∧ decide (c < 1) = false ∧ decide (6 < c) = false ∧ (f = 1 ∨ f = 2 ∨ f = 3)

set_option maxRecDepth 100000 in
set_option maxHeartbeats 1600000 in
theorem srf_range (n c f lo hi : Int) (w : World) (hfit : Fit n c f) (h3 : lenB f lo hi = false) :
    Calls Tryd.prog 54 #[.agg #[.int .i64 n, .int .i64 c, .int .i64 f, .int .i64 lo, .int .i64 hi]] w fun e w' => e = .returned (.int .i64 5) ∧ Below w.heap.size w w' := by
  obtain ⟨t1, t2, t3, t4, hf⟩ := hfit
  by_cases g1 : lo < 1
  · have s1 : decide (lo < 1) = true := by simpa using g1
    clear g1 h3
    rcases hf with rfl | rfl | rfl <;>
    · go_enter Tryd.func54, Tryd.ntmps54
      go_wp2
      go_ret
      exact ⟨rfl, below_al _ _⟩
  have s1 : decide (lo < 1) = false := by simpa using g1
  by_cases g2 : hi < lo
  · have s2 : decide (hi < lo) = true := by simpa using g2
    clear g1 g2 h3
    rcases hf with rfl | rfl | rfl <;>
    · go_enter Tryd.func54, Tryd.ntmps54
      go_wp2
      go_ret
      exact ⟨rfl, below_al _ _⟩
  have s2 : decide (hi < lo) = false := by simpa using g2
  rcases hf with rfl | rfl | rfl
  · by_cases g3 : 999 < hi
    · have s3 : decide (999 < hi) = true := by simpa using g3
      clear g1 g2 g3 h3
      go_enter Tryd.func54, Tryd.ntmps54
      go_wp2
      go_ret
      exact ⟨rfl, below_al _ _⟩
    · have s3 : decide (999 < hi) = false := by simpa using g3
      have s4 : (lo == hi) = false := lenB_one_no h3 g1 g2 g3
      have s5 : (lo != hi) = true := by simp [bne, s4]
      clear g1 g2 g3 h3
      go_enter Tryd.func54, Tryd.ntmps54
      go_wp2
      go_ret
      exact ⟨rfl, below_al _ _⟩
  · have s3 : decide (99 < hi) = true := by have := lenB_two_no h3 g1 g2; simpa using this
    clear g1 g2 h3
    go_enter Tryd.func54, Tryd.ntmps54
    go_wp2
    go_ret
    exact ⟨rfl, below_al _ _⟩
  · have s3 : decide (999 < hi) = true := by have := lenB_three_no h3 g1 g2; simpa using this
    clear g1 g2 h3
    go_enter Tryd.func54, Tryd.ntmps54
    go_wp2
    go_ret
    exact ⟨rfl, below_al _ _⟩
set_option maxRecDepth 100000 in
set_option maxHeartbeats 1600000 in
theorem srf_tag (n lo hi : Int) (w : World) (hfit : Fit n 6 1) (h3 : lenB 1 lo hi = true) :
    Calls Tryd.prog 54 #[.agg #[.int .i64 n, .int .i64 6, .int .i64 1, .int .i64 lo, .int .i64 hi]] w fun e w' => e = .returned (.int .i64 13) ∧ Below w.heap.size w w' := by
  obtain ⟨t1, t2, _, _, _⟩ := hfit
  have hl := lenB_in h3
  rw [lenB_one hl] at h3
  obtain rfl : lo = hi := by simpa using h3
  have s1 : decide (lo < 1) = false := by simp; omega
  have s2 : decide (lo < lo) = false := by simp
  have s3 : decide (999 < lo) = false := by simp; omega
  clear hl h3
  go_enter Tryd.func54, Tryd.ntmps54
  go_wp2
  go_ret
  exact ⟨rfl, below_al _ _⟩
set_option maxRecDepth 100000 in
set_option maxHeartbeats 1600000 in
theorem srf_ok (n c f lo hi : Int) (w : World) (hfit : Fit n c f) (h3 : lenB f lo hi = true) (h4 : ¬ (c = 6 ∧ f = 1)) :
    Calls Tryd.prog 54 #[.agg #[.int .i64 n, .int .i64 c, .int .i64 f, .int .i64 lo, .int .i64 hi]] w fun e w' => e = .returned (.int .i64 0) ∧ Below w.heap.size w w' := by
  obtain ⟨t1, t2, t3, t4, hf⟩ := hfit
  have hl := lenB_in h3
  have s1 : decide (lo < 1) = false := by simp; omega
  have s2 : decide (hi < lo) = false := by simp; omega
  rcases hf with rfl | rfl | rfl
  · rw [lenB_one hl] at h3
    obtain rfl : lo = hi := by simpa using h3
    have s3 : decide (999 < lo) = false := by simp; omega
    have s4 : (c == 6) = false := by simp; omega
    clear hl h3 h4
    go_enter Tryd.func54, Tryd.ntmps54
    go_wp2
    go_ret
    exact ⟨rfl, below_al _ _⟩
  · rw [lenB_two hl] at h3
    have s3 : decide (99 < hi) = false := by simp at h3 ⊢; omega
    clear hl h3 h4
    go_enter Tryd.func54, Tryd.ntmps54
    go_wp2
    go_ret
    exact ⟨rfl, below_al _ _⟩
  · have s3 : decide (999 < hi) = false := by simp; omega
    clear hl h3 h4
    go_enter Tryd.func54, Tryd.ntmps54
    go_wp2
    go_ret
    exact ⟨rfl, below_al _ _⟩
theorem sprefCheck_any (n c f lo hi : Int) (w : World) :
    Calls Tryd.prog 54 #[.agg #[.int .i64 n, .int .i64 c, .int .i64 f, .int .i64 lo, .int .i64 hi]] w fun e w' => e = .returned (.int .i64 (spk n c f lo hi)) ∧ Below w.heap.size w w' := by
  by_cases h : n < 2 ∨ 128 < n
  · rw [spk_arg h]; exact srf_arg n c f lo hi w h
  cases h1 : isC c
  · rw [spk_class h h1]; exact srf_class n c f lo hi w h h1
  by_cases h2 : f < 1 ∨ 3 < f
  · rw [spk_form h h1 h2]; exact srf_form n c f lo hi w h h1 h2
  have hfit : Fit n c f := by
    rw [isC_iff] at h1
    exact ⟨by simp; omega, by simp; omega, by simp; omega, by simp; omega, by omega⟩
  cases h3 : lenB f lo hi
  · rw [spk_range h h1 h2 h3]; exact srf_range n c f lo hi w hfit h3
  by_cases h4 : c = 6 ∧ f = 1
  · rw [spk_tag h h1 h2 h3 h4]
    obtain ⟨rfl, rfl⟩ := h4
    exact srf_tag n lo hi w hfit h3
  · rw [spk_ok h h1 h2 h3 h4]; exact srf_ok n c f lo hi w hfit h3 h4

end Go.Proofs.YtnbllngljgmebaaDoor

/-
  What a schema says of a field, over numbers alone: which texts may be values, which spec is the wider one.
-/
namespace Go.Proofs.YtnbllngljgmebaaDoor

/-- The error that Value tells. -/
def spv (n c f lo hi : Int) (s : ByteArray) : Int := if spk n c f lo hi ≠ 0 then 1 else if (s.size : Int) < lo ∨ hi < (s.size : Int) then 5 else if 0 ≤ fst c s.data.toList then 6 else if c = 6 ∧ (tlvN s).1 ≠ 0 then 13 else 0
/-- Which class is the wider one, lists' bytes apart. -/
def widC (a b : Int) : Bool := if a = 5 then true else if a = 6 ∨ b = 6 then a == b else wid a b
/-- Which spec is the wider one. -/
def spw (n c f lo hi n' c' f' lo' hi' : Int) : Bool := decide (spk n c f lo hi = 0) && decide (spk n' c' f' lo' hi' = 0) && decide (lo ≤ lo') && decide (hi' ≤ hi) && widC c c'

theorem spv_arg {n c f lo hi : Int} {s : ByteArray} (h : spk n c f lo hi ≠ 0) : spv n c f lo hi s = 1 := by unfold spv; rw [if_pos h]
theorem spv_range {n c f lo hi : Int} {s : ByteArray} (h : spk n c f lo hi = 0) (h1 : (s.size : Int) < lo ∨ hi < (s.size : Int)) : spv n c f lo hi s = 5 := by unfold spv; rw [if_neg (by simp [h]), if_pos h1]
theorem spv_class {n c f lo hi : Int} {s : ByteArray} (h : spk n c f lo hi = 0) (h1 : ¬ ((s.size : Int) < lo ∨ hi < (s.size : Int))) (h2 : 0 ≤ fst c s.data.toList) : spv n c f lo hi s = 6 := by unfold spv; rw [if_neg (by simp [h]), if_neg h1, if_pos h2]
theorem spv_tag {n f lo hi : Int} {s : ByteArray} (h : spk n 6 f lo hi = 0) (h1 : ¬ ((s.size : Int) < lo ∨ hi < (s.size : Int))) (h2 : ¬ 0 ≤ fst 6 s.data.toList) (h3 : (tlvN s).1 ≠ 0) : spv n 6 f lo hi s = 13 := by unfold spv; rw [if_neg (by simp [h]), if_neg h1, if_neg h2, if_pos ⟨rfl, h3⟩]
theorem spv_list {n f lo hi : Int} {s : ByteArray} (h : spk n 6 f lo hi = 0) (h1 : ¬ ((s.size : Int) < lo ∨ hi < (s.size : Int))) (h2 : ¬ 0 ≤ fst 6 s.data.toList) (h3 : (tlvN s).1 = 0) : spv n 6 f lo hi s = 0 := by unfold spv; rw [if_neg (by simp [h]), if_neg h1, if_neg h2, if_neg (fun g => g.2 h3)]
theorem spv_ok {n c f lo hi : Int} {s : ByteArray} (h : spk n c f lo hi = 0) (h1 : ¬ ((s.size : Int) < lo ∨ hi < (s.size : Int))) (h2 : ¬ 0 ≤ fst c s.data.toList) (h3 : c ≠ 6) : spv n c f lo hi s = 0 := by unfold spv; rw [if_neg (by simp [h]), if_neg h1, if_neg h2, if_neg (fun g => h3 g.1)]
theorem spv_in {n c f lo hi : Int} {s : ByteArray} (h : spv n c f lo hi s = 0) : spk n c f lo hi = 0 ∧ ¬ ((s.size : Int) < lo ∨ hi < (s.size : Int)) ∧ ¬ 0 ≤ fst c s.data.toList ∧ ¬ (c = 6 ∧ (tlvN s).1 ≠ 0) := by
  unfold spv at h
  split at h
  · omega
  rename_i h0
  split at h
  · omega
  rename_i h1
  split at h
  · omega
  rename_i h2
  split at h
  · omega
  rename_i h3
  exact ⟨by simpa using h0, h1, h2, h3⟩

theorem isO_five (n : Nat) : isO 5 n = true := by
  rw [show isO 5 n = ((ks 5) &&& (kd n) != 0) from isO_at (k := 5) (by omega) (by omega) n]
  rcases kd_cases n with h | h | h | h <;> rw [h] <;> rfl
theorem fst_five (l : List UInt8) : fst 5 l = -1 := fst_all (by simp [isO_five])
theorem spw_in {n c f lo hi n' c' f' lo' hi' : Int} (h : spw n c f lo hi n' c' f' lo' hi' = true) : spk n c f lo hi = 0 ∧ spk n' c' f' lo' hi' = 0 ∧ lo ≤ lo' ∧ hi' ≤ hi ∧ widC c c' = true := by
  simp [spw] at h
  exact ⟨h.1.1.1.1, h.1.1.1.2, h.1.1.2, h.1.2, h.2⟩
theorem spw_keeps {n c f lo hi n' c' f' lo' hi' : Int} {s : ByteArray} (h : spw n c f lo hi n' c' f' lo' hi' = true) (hv : spv n' c' f' lo' hi' s = 0) : spv n c f lo hi s = 0 := by
  obtain ⟨h1, h2, h3, h4, h5⟩ := spw_in h
  obtain ⟨g1, g2, g3, g4⟩ := spv_in hv
  have hr : ¬ ((s.size : Int) < lo ∨ hi < (s.size : Int)) := by omega
  unfold widC at h5
  split at h5
  · rename_i hc
    subst hc
    exact spv_ok h1 hr (by rw [fst_five]; omega) (by omega)
  · split at h5
    · have hc : c = c' := by simpa using h5
      subst hc
      by_cases h6 : c = 6
      · subst h6
        exact spv_list h1 hr g3 (by
          apply Classical.byContradiction
          intro hn
          exact g4 ⟨rfl, hn⟩)
      · exact spv_ok h1 hr g3 h6
    · rename_i h6
      have hf := fst_keeps (l := s.data.toList) h5 (by omega)
      exact spv_ok h1 hr (by rw [hf]; omega) (fun e => h6 (Or.inl e))
theorem spv_long {n c f lo hi : Int} {s t : ByteArray} (h : spv n c f lo hi s = 0) (ht : hi < (t.size : Int)) : spv n c f lo hi t = 5 := spv_range (spv_in h).1 (Or.inr ht)

end Go.Proofs.YtnbllngljgmebaaDoor

/-
  What list and widerClass answer.
-/
namespace Go.Proofs.YtnbllngljgmebaaDoor
open Go.RowKit

set_option maxRecDepth 100000 in
set_option maxHeartbeats 800000 in
theorem speclist_any (s : ByteArray) (w : World) (hs : s.size ≤ 5000000) : Calls Tryd.prog 72 #[.string s] w fun e w' => e = .returned (.bool (decide ((tlvN s).1 = 0))) ∧ Below w.heap.size w w' := by
  have HG := Lib.hid (fun W => tlvget_any s W hs)
  generalize (tlvN s).2.2.length = len at *
  generalize (tlvN s).2.2 = l at *
  generalize (tlvN s).2.1 = p at *
  generalize (tlvN s).1 = x at *
  have hx : ((x : Int) == 0) = decide (x = 0) := by rw [Bool.eq_iff_iff]; simp
  go_enter Tryd.func72, Tryd.ntmps72
  go_wp2_with fail
  refine (HG.out _).mono ?_
  rintro e w1 ⟨A, cap, rfl, hA, hb1⟩
  have HB1 := Lib.hid hb1
  clear hA hb1
  go_wp2
  go_ret
  exact ⟨by first | (rw [← hx]; rfl) | simp, HB1.out⟩


end Go.Proofs.YtnbllngljgmebaaDoor

/-
  What Value and the document's Value answer: for every spec and text.
-/
namespace Go.Proofs.YtnbllngljgmebaaDoor
open Go.RowKit

theorem spec_at {w w1 : World} {o : Obj} (hb : Below (w.alloc o).heap.size (w.alloc o) w1) : w1.heap[w.heap.size]? = some o := obj_below (heap_alloc_new _ _) hb

set_option maxRecDepth 100000 in
set_option maxHeartbeats 800000 in
theorem val_arg (n c f lo hi : Int) (s : ByteArray) (w : World) (h : spk n c f lo hi ≠ 0) :
    Calls Tryd.prog 52 #[.agg #[.int .i64 n, .int .i64 c, .int .i64 f, .int .i64 lo, .int .i64 hi], .string s] w fun e w' => e = .returned (.int .i64 1) ∧ Below w.heap.size w w' := by
  have HK := Lib.hid (fun W => spcheck_any n c f lo hi W)
  generalize spk n c f lo hi = x at *
  have t1 : (x != 0) = true := by simpa using h
  clear h
  go_enter Tryd.func52, Tryd.ntmps52
  go_wp2_with fail
  refine (HK.out _).mono ?_
  rintro e w1 ⟨rfl, hb1⟩
  have HB1 := Lib.hid (hbt (below_al _ _) hb1)
  clear hb1
  go_wp2
  go_ret
  exact ⟨rfl, HB1.out⟩
set_option maxRecDepth 100000 in
set_option maxHeartbeats 800000 in
theorem val_range (n c f lo hi : Int) (s : ByteArray) (w : World) (h : spk n c f lo hi = 0) (h1 : (s.size : Int) < lo ∨ hi < (s.size : Int)) :
    Calls Tryd.prog 52 #[.agg #[.int .i64 n, .int .i64 c, .int .i64 f, .int .i64 lo, .int .i64 hi], .string s] w fun e w' => e = .returned (.int .i64 5) ∧ Below w.heap.size w w' := by
  have HK := Lib.hid (fun W => spcheck_any n c f lo hi W)
  rw [h] at HK
  clear h
  by_cases h2 : (s.size : Int) < lo
  · have t1 : decide ((s.size : Int) < lo) = true := by simpa using h2
    clear h1 h2
    go_enter Tryd.func52, Tryd.ntmps52
    go_wp2_with fail
    refine (HK.out _).mono ?_
    rintro e w1 ⟨rfl, hb1⟩
    have HB1 := Lib.hid (hbt (below_al _ _) hb1)
    obtain ⟨c0, c1, c2, c3, c4⟩ := obj_cells5 (spec_at hb1)
    clear hb1
    go_wp2
    go_ret
    exact ⟨rfl, HB1.out⟩
  · have t1 : decide ((s.size : Int) < lo) = false := by simpa using h2
    have t2 : decide (hi < (s.size : Int)) = true := by simp; omega
    clear h1 h2
    go_enter Tryd.func52, Tryd.ntmps52
    go_wp2_with fail
    refine (HK.out _).mono ?_
    rintro e w1 ⟨rfl, hb1⟩
    have HB1 := Lib.hid (hbt (below_al _ _) hb1)
    obtain ⟨c0, c1, c2, c3, c4⟩ := obj_cells5 (spec_at hb1)
    clear hb1
    go_wp2
    go_ret
    exact ⟨rfl, HB1.out⟩
set_option maxRecDepth 100000 in
set_option maxHeartbeats 800000 in
theorem val_class (n c f lo hi : Int) (s : ByteArray) (w : World) (hw : Kinds w) (hs : s.size ≤ maxLen) (h : spk n c f lo hi = 0) (h1 : ¬ ((s.size : Int) < lo ∨ hi < (s.size : Int))) (h2 : 0 ≤ fst c s.data.toList) :
    Calls Tryd.prog 52 #[.agg #[.int .i64 n, .int .i64 c, .int .i64 f, .int .i64 lo, .int .i64 hi], .string s] w fun e w' => e = .returned (.int .i64 6) ∧ Below w.heap.size w w' := by
  have HK := Lib.hid (fun W => spcheck_any n c f lo hi W)
  rw [h] at HK
  have HF := Lib.hid (fun W hW => first_any c s W hW hs)
  generalize fst c s.data.toList = x at *
  have HW := Lib.hid hw
  unfold maxLen at hs
  have t1 : decide ((s.size : Int) < lo) = false := by simp; omega
  have t2 : decide (hi < (s.size : Int)) = false := by simp; omega
  have t3 : decide (0 ≤ x) = true := by simpa using h2
  clear h h1 h2 hw
  go_enter Tryd.func52, Tryd.ntmps52
  go_wp2_with fail
  refine (HK.out _).mono ?_
  rintro e w1 ⟨rfl, hb1⟩
  have HB1 := Lib.hid (hbt (below_al _ _) hb1)
  obtain ⟨c0, c1, c2, c3, c4⟩ := obj_cells5 (spec_at hb1)
  clear hb1
  go_wp2_with fail
  refine (HF.out _ (HW.out.below HB1.out)).mono ?_
  rintro e w2 ⟨rfl, hb2⟩
  have HB2 := Lib.hid (hbt HB1.out hb2)
  clear hb2 c0 c1 c2 c3 c4
  go_wp2
  go_ret
  exact ⟨rfl, HB2.out⟩
set_option maxRecDepth 100000 in
set_option maxHeartbeats 800000 in
theorem val_tlv (n f lo hi : Int) (s : ByteArray) (w : World) (hw : Kinds w) (hs : s.size ≤ maxLen) (h : spk n 6 f lo hi = 0) (h1 : ¬ ((s.size : Int) < lo ∨ hi < (s.size : Int))) (h2 : ¬ 0 ≤ fst 6 s.data.toList) (z : Int) (hz : ((tlvN s).1 ≠ 0 ∧ z = 13) ∨ ((tlvN s).1 = 0 ∧ z = 0)) :
    Calls Tryd.prog 52 #[.agg #[.int .i64 n, .int .i64 6, .int .i64 f, .int .i64 lo, .int .i64 hi], .string s] w fun e w' => e = .returned (.int .i64 z) ∧ Below w.heap.size w w' := by
  have hhi := spk_in h
  have HK := Lib.hid (fun W => spcheck_any n 6 f lo hi W)
  rw [h] at HK
  have HF := Lib.hid (fun W hW => first_any 6 s W hW hs)
  have HL := Lib.hid (fun W => speclist_any s W (by omega))
  generalize fst 6 s.data.toList = x at *
  have HW := Lib.hid hw
  unfold maxLen at hs
  have t1 : decide ((s.size : Int) < lo) = false := by simp; omega
  have t2 : decide (hi < (s.size : Int)) = false := by simp; omega
  have t3 : decide (0 ≤ x) = false := by simpa using h2
  rcases hz with ⟨hn, rfl⟩ | ⟨hn, rfl⟩
  · rw [decide_eq_false hn] at HL
    clear h h1 h2 hw hn hhi
    go_enter Tryd.func52, Tryd.ntmps52
    go_wp2_with fail
    refine (HK.out _).mono ?_
    rintro e w1 ⟨rfl, hb1⟩
    have HB1 := Lib.hid (hbt (below_al _ _) hb1)
    have HO1 := Lib.hid (spec_at hb1)
    obtain ⟨c0, c1, c2, c3, c4⟩ := obj_cells5 HO1.out
    clear hb1
    go_wp2_with fail
    refine (HF.out _ (HW.out.below HB1.out)).mono ?_
    rintro e w2 ⟨rfl, hb2⟩
    have HB2 := Lib.hid (hbt HB1.out hb2)
    clear c0 c1 c2 c3 c4
    obtain ⟨c0, c1, c2, c3, c4⟩ := obj_cells5 (obj_below HO1.out hb2)
    clear hb2
    go_wp2_with fail
    refine (HL.out _).mono ?_
    rintro e w3 ⟨rfl, hb3⟩
    have HB3 := Lib.hid (hbt HB2.out hb3)
    clear hb3 c0 c1 c2 c3 c4
    go_wp2
    go_ret
    exact ⟨rfl, HB3.out⟩
  · rw [decide_eq_true hn] at HL
    clear h h1 h2 hw hn hhi
    go_enter Tryd.func52, Tryd.ntmps52
    go_wp2_with fail
    refine (HK.out _).mono ?_
    rintro e w1 ⟨rfl, hb1⟩
    have HB1 := Lib.hid (hbt (below_al _ _) hb1)
    have HO1 := Lib.hid (spec_at hb1)
    obtain ⟨c0, c1, c2, c3, c4⟩ := obj_cells5 HO1.out
    clear hb1
    go_wp2_with fail
    refine (HF.out _ (HW.out.below HB1.out)).mono ?_
    rintro e w2 ⟨rfl, hb2⟩
    have HB2 := Lib.hid (hbt HB1.out hb2)
    clear c0 c1 c2 c3 c4
    obtain ⟨c0, c1, c2, c3, c4⟩ := obj_cells5 (obj_below HO1.out hb2)
    clear hb2
    go_wp2_with fail
    refine (HL.out _).mono ?_
    rintro e w3 ⟨rfl, hb3⟩
    have HB3 := Lib.hid (hbt HB2.out hb3)
    clear hb3 c0 c1 c2 c3 c4
    go_wp2
    go_ret
    exact ⟨rfl, HB3.out⟩
set_option maxRecDepth 100000 in
set_option maxHeartbeats 800000 in
theorem val_ok (n c f lo hi : Int) (s : ByteArray) (w : World) (hw : Kinds w) (hs : s.size ≤ maxLen) (h : spk n c f lo hi = 0) (h1 : ¬ ((s.size : Int) < lo ∨ hi < (s.size : Int))) (h2 : ¬ 0 ≤ fst c s.data.toList) (h3 : c ≠ 6) :
    Calls Tryd.prog 52 #[.agg #[.int .i64 n, .int .i64 c, .int .i64 f, .int .i64 lo, .int .i64 hi], .string s] w fun e w' => e = .returned (.int .i64 0) ∧ Below w.heap.size w w' := by
  have HK := Lib.hid (fun W => spcheck_any n c f lo hi W)
  rw [h] at HK
  have HF := Lib.hid (fun W hW => first_any c s W hW hs)
  generalize fst c s.data.toList = x at *
  have HW := Lib.hid hw
  unfold maxLen at hs
  have t1 : decide ((s.size : Int) < lo) = false := by simp; omega
  have t2 : decide (hi < (s.size : Int)) = false := by simp; omega
  have t3 : decide (0 ≤ x) = false := by simpa using h2
  have t4 : (c == 6) = false := by simpa using h3
  clear h h1 h2 h3 hw
  go_enter Tryd.func52, Tryd.ntmps52
  go_wp2_with fail
  refine (HK.out _).mono ?_
  rintro e w1 ⟨rfl, hb1⟩
  have HB1 := Lib.hid (hbt (below_al _ _) hb1)
  have HO1 := Lib.hid (spec_at hb1)
  obtain ⟨c0, c1, c2, c3, c4⟩ := obj_cells5 HO1.out
  clear hb1
  go_wp2_with fail
  refine (HF.out _ (HW.out.below HB1.out)).mono ?_
  rintro e w2 ⟨rfl, hb2⟩
  have HB2 := Lib.hid (hbt HB1.out hb2)
  clear c0 c1 c2 c3 c4
  obtain ⟨c0, c1, c2, c3, c4⟩ := obj_cells5 (obj_below HO1.out hb2)
  clear hb2
  go_wp2
  go_ret
  exact ⟨rfl, HB2.out⟩
theorem spvalue_any (n c f lo hi : Int) (s : ByteArray) (w : World) (hw : Kinds w) (hs : s.size ≤ maxLen) :
    Calls Tryd.prog 52 #[.agg #[.int .i64 n, .int .i64 c, .int .i64 f, .int .i64 lo, .int .i64 hi], .string s] w fun e w' => e = .returned (.int .i64 (spv n c f lo hi s)) ∧ Below w.heap.size w w' := by
  by_cases h : spk n c f lo hi = 0
  · by_cases h1 : (s.size : Int) < lo ∨ hi < (s.size : Int)
    · rw [spv_range h h1]; exact val_range n c f lo hi s w h h1
    by_cases h2 : 0 ≤ fst c s.data.toList
    · rw [spv_class h h1 h2]; exact val_class n c f lo hi s w hw hs h h1 h2
    by_cases h3 : c = 6
    · subst h3
      by_cases h4 : (tlvN s).1 = 0
      · rw [spv_list h h1 h2 h4]; exact val_tlv n f lo hi s w hw hs h h1 h2 _ (Or.inr ⟨h4, rfl⟩)
      · rw [spv_tag h h1 h2 h4]; exact val_tlv n f lo hi s w hw hs h h1 h2 _ (Or.inl ⟨h4, rfl⟩)
    · rw [spv_ok h h1 h2 h3]; exact val_ok n c f lo hi s w hw hs h h1 h2 h3
  · rw [spv_arg h]; exact val_arg n c f lo hi s w h

set_option maxRecDepth 100000 in
set_option maxHeartbeats 800000 in
theorem rval_arg (n c f lo hi : Int) (s : ByteArray) (w : World) (h : spk n c f lo hi ≠ 0) :
    Calls Tryd.prog 35 #[.agg #[.int .i64 n, .int .i64 c, .int .i64 f, .int .i64 lo, .int .i64 hi], .string s] w fun e w' => e = .returned (.int .i64 1) ∧ Below w.heap.size w w' := by
  have HK := Lib.hid (fun W => sprefCheck_any n c f lo hi W)
  generalize spk n c f lo hi = x at *
  have t1 : (x != 0) = true := by simpa using h
  clear h
  go_enter Tryd.func35, Tryd.ntmps35
  go_wp2_with fail
  refine (HK.out _).mono ?_
  rintro e w1 ⟨rfl, hb1⟩
  have HB1 := Lib.hid (hbt (below_al _ _) hb1)
  clear hb1
  go_wp2
  go_ret
  exact ⟨rfl, HB1.out⟩
set_option maxRecDepth 100000 in
set_option maxHeartbeats 800000 in
theorem rval_range (n c f lo hi : Int) (s : ByteArray) (w : World) (h : spk n c f lo hi = 0) (h1 : (s.size : Int) < lo ∨ hi < (s.size : Int)) :
    Calls Tryd.prog 35 #[.agg #[.int .i64 n, .int .i64 c, .int .i64 f, .int .i64 lo, .int .i64 hi], .string s] w fun e w' => e = .returned (.int .i64 5) ∧ Below w.heap.size w w' := by
  have HK := Lib.hid (fun W => sprefCheck_any n c f lo hi W)
  rw [h] at HK
  clear h
  by_cases h2 : (s.size : Int) < lo
  · have t1 : decide ((s.size : Int) < lo) = true := by simpa using h2
    clear h1 h2
    go_enter Tryd.func35, Tryd.ntmps35
    go_wp2_with fail
    refine (HK.out _).mono ?_
    rintro e w1 ⟨rfl, hb1⟩
    have HB1 := Lib.hid (hbt (below_al _ _) hb1)
    obtain ⟨c0, c1, c2, c3, c4⟩ := obj_cells5 (spec_at hb1)
    clear hb1
    go_wp2
    go_ret
    exact ⟨rfl, HB1.out⟩
  · have t1 : decide ((s.size : Int) < lo) = false := by simpa using h2
    have t2 : decide (hi < (s.size : Int)) = true := by simp; omega
    clear h1 h2
    go_enter Tryd.func35, Tryd.ntmps35
    go_wp2_with fail
    refine (HK.out _).mono ?_
    rintro e w1 ⟨rfl, hb1⟩
    have HB1 := Lib.hid (hbt (below_al _ _) hb1)
    obtain ⟨c0, c1, c2, c3, c4⟩ := obj_cells5 (spec_at hb1)
    clear hb1
    go_wp2
    go_ret
    exact ⟨rfl, HB1.out⟩
set_option maxRecDepth 100000 in
set_option maxHeartbeats 800000 in
theorem rval_class (n c f lo hi : Int) (s : ByteArray) (w : World) (hs : s.size ≤ maxLen) (h : spk n c f lo hi = 0) (h1 : ¬ ((s.size : Int) < lo ∨ hi < (s.size : Int))) (h2 : 0 ≤ fst c s.data.toList) :
    Calls Tryd.prog 35 #[.agg #[.int .i64 n, .int .i64 c, .int .i64 f, .int .i64 lo, .int .i64 hi], .string s] w fun e w' => e = .returned (.int .i64 6) ∧ Below w.heap.size w w' := by
  have HK := Lib.hid (fun W => sprefCheck_any n c f lo hi W)
  rw [h] at HK
  have HF := Lib.hid (fun W => refFirst_any c s W hs)
  generalize fst c s.data.toList = x at *
  unfold maxLen at hs
  have t1 : decide ((s.size : Int) < lo) = false := by simp; omega
  have t2 : decide (hi < (s.size : Int)) = false := by simp; omega
  have t3 : decide (0 ≤ x) = true := by simpa using h2
  clear h h1 h2
  go_enter Tryd.func35, Tryd.ntmps35
  go_wp2_with fail
  refine (HK.out _).mono ?_
  rintro e w1 ⟨rfl, hb1⟩
  have HB1 := Lib.hid (hbt (below_al _ _) hb1)
  obtain ⟨c0, c1, c2, c3, c4⟩ := obj_cells5 (spec_at hb1)
  clear hb1
  go_wp2_with fail
  refine (HF.out _).mono ?_
  rintro e w2 ⟨rfl, rfl⟩
  go_wp2
  go_ret
  exact ⟨rfl, HB1.out⟩
set_option maxRecDepth 100000 in
set_option maxHeartbeats 800000 in
theorem rval_tlv (n f lo hi : Int) (s : ByteArray) (w : World) (hs : s.size ≤ maxLen) (h : spk n 6 f lo hi = 0) (h1 : ¬ ((s.size : Int) < lo ∨ hi < (s.size : Int))) (h2 : ¬ 0 ≤ fst 6 s.data.toList) (z : Int) (hz : ((tlvN s).1 ≠ 0 ∧ z = 13) ∨ ((tlvN s).1 = 0 ∧ z = 0)) :
    Calls Tryd.prog 35 #[.agg #[.int .i64 n, .int .i64 6, .int .i64 f, .int .i64 lo, .int .i64 hi], .string s] w fun e w' => e = .returned (.int .i64 z) ∧ Below w.heap.size w w' := by
  have hhi := spk_in h
  have HK := Lib.hid (fun W => sprefCheck_any n 6 f lo hi W)
  rw [h] at HK
  have HF := Lib.hid (fun W => refFirst_any 6 s W hs)
  have HL := Lib.hid (fun W => tlvrefGet_any s W (by omega))
  generalize fst 6 s.data.toList = x at *
  generalize (tlvN s).2.2.length = len at *
  generalize (tlvN s).2.2 = l at *
  generalize (tlvN s).2.1 = p at *
  generalize (tlvN s).1 = y at *
  unfold maxLen at hs
  have t1 : decide ((s.size : Int) < lo) = false := by simp; omega
  have t2 : decide (hi < (s.size : Int)) = false := by simp; omega
  have t3 : decide (0 ≤ x) = false := by simpa using h2
  rcases hz with ⟨hn, rfl⟩ | ⟨rfl, rfl⟩
  · have t4 : ((y : Int) != 0) = true := by simpa using hn
    have t5 : y ≠ 0 := hn
    clear h h1 h2 hn hhi
    go_enter Tryd.func35, Tryd.ntmps35
    go_wp2_with fail
    refine (HK.out _).mono ?_
    rintro e w1 ⟨rfl, hb1⟩
    have HB1 := Lib.hid (hbt (below_al _ _) hb1)
    obtain ⟨c0, c1, c2, c3, c4⟩ := obj_cells5 (spec_at hb1)
    clear hb1
    go_wp2_with fail
    refine (HF.out _).mono ?_
    rintro e w2 ⟨rfl, rfl⟩
    go_wp2_with fail
    refine (HL.out _).mono ?_
    rintro e w3 ⟨A, cap, rfl, hA, hb3⟩
    have HB3 := Lib.hid (hbt HB1.out hb3)
    clear hb3 hA c0 c1 c2 c3 c4
    go_wp2
    go_ret
    exact ⟨rfl, HB3.out⟩
  · clear h h1 h2 hhi
    go_enter Tryd.func35, Tryd.ntmps35
    go_wp2_with fail
    refine (HK.out _).mono ?_
    rintro e w1 ⟨rfl, hb1⟩
    have HB1 := Lib.hid (hbt (below_al _ _) hb1)
    obtain ⟨c0, c1, c2, c3, c4⟩ := obj_cells5 (spec_at hb1)
    clear hb1
    go_wp2_with fail
    refine (HF.out _).mono ?_
    rintro e w2 ⟨rfl, rfl⟩
    go_wp2_with fail
    refine (HL.out _).mono ?_
    rintro e w3 ⟨A, cap, rfl, hA, hb3⟩
    have HB3 := Lib.hid (hbt HB1.out hb3)
    clear hb3 hA c0 c1 c2 c3 c4
    go_wp2
    go_ret
    exact ⟨rfl, HB3.out⟩
set_option maxRecDepth 100000 in
set_option maxHeartbeats 800000 in
theorem rval_ok (n c f lo hi : Int) (s : ByteArray) (w : World) (hs : s.size ≤ maxLen) (h : spk n c f lo hi = 0) (h1 : ¬ ((s.size : Int) < lo ∨ hi < (s.size : Int))) (h2 : ¬ 0 ≤ fst c s.data.toList) (h3 : c ≠ 6) :
    Calls Tryd.prog 35 #[.agg #[.int .i64 n, .int .i64 c, .int .i64 f, .int .i64 lo, .int .i64 hi], .string s] w fun e w' => e = .returned (.int .i64 0) ∧ Below w.heap.size w w' := by
  have HK := Lib.hid (fun W => sprefCheck_any n c f lo hi W)
  rw [h] at HK
  have HF := Lib.hid (fun W => refFirst_any c s W hs)
  generalize fst c s.data.toList = x at *
  unfold maxLen at hs
  have t1 : decide ((s.size : Int) < lo) = false := by simp; omega
  have t2 : decide (hi < (s.size : Int)) = false := by simp; omega
  have t3 : decide (0 ≤ x) = false := by simpa using h2
  have t4 : (c == 6) = false := by simpa using h3
  clear h h1 h2 h3
  go_enter Tryd.func35, Tryd.ntmps35
  go_wp2_with fail
  refine (HK.out _).mono ?_
  rintro e w1 ⟨rfl, hb1⟩
  have HB1 := Lib.hid (hbt (below_al _ _) hb1)
  obtain ⟨c0, c1, c2, c3, c4⟩ := obj_cells5 (spec_at hb1)
  clear hb1
  go_wp2_with fail
  refine (HF.out _).mono ?_
  rintro e w2 ⟨rfl, rfl⟩
  go_wp2
  go_ret
  exact ⟨rfl, HB1.out⟩
theorem sprefValue_any (n c f lo hi : Int) (s : ByteArray) (w : World) (hs : s.size ≤ maxLen) :
    Calls Tryd.prog 35 #[.agg #[.int .i64 n, .int .i64 c, .int .i64 f, .int .i64 lo, .int .i64 hi], .string s] w fun e w' => e = .returned (.int .i64 (spv n c f lo hi s)) ∧ Below w.heap.size w w' := by
  by_cases h : spk n c f lo hi = 0
  · by_cases h1 : (s.size : Int) < lo ∨ hi < (s.size : Int)
    · rw [spv_range h h1]; exact rval_range n c f lo hi s w h h1
    by_cases h2 : 0 ≤ fst c s.data.toList
    · rw [spv_class h h1 h2]; exact rval_class n c f lo hi s w hs h h1 h2
    by_cases h3 : c = 6
    · subst h3
      by_cases h4 : (tlvN s).1 = 0
      · rw [spv_list h h1 h2 h4]; exact rval_tlv n f lo hi s w hs h h1 h2 _ (Or.inr ⟨h4, rfl⟩)
      · rw [spv_tag h h1 h2 h4]; exact rval_tlv n f lo hi s w hs h h1 h2 _ (Or.inl ⟨h4, rfl⟩)
    · rw [spv_ok h h1 h2 h3]; exact rval_ok n c f lo hi s w hs h h1 h2 h3
  · rw [spv_arg h]; exact rval_arg n c f lo hi s w h

end Go.Proofs.YtnbllngljgmebaaDoor
