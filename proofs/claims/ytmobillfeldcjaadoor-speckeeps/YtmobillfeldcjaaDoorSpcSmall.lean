/-
  What lengths, list and widerClass answer.
-/
import Derived.Test.YtmobillfeldcjaaDoorSpcMath
import Derived.Test.YtmobillfeldcjaaDoorPfxTop
import Derived.Test.YtmobillfeldcjaaDoorClsFirst
import Derived.Test.YtmobillfeldcjaaDoorTlvGet
import Derived.Test.YtmobillfeldcjaaDoorObjs
import Derived.BigQuiet
import Derived.Deep.RegionWith
namespace Go.Proofs.YtmobillfeldcjaaDoor
open Go.RowKit

theorem obj_cells5 {u : World} {g : Nat} {a b c d e : Value} {t : TypeId} (h : u.heap[g]? = some (.cells #[a, b, c, d, e] t)) :
    u.cell? ⟨g, 0, none⟩ = some a ∧ u.cell? ⟨g, 1, none⟩ = some b ∧ u.cell? ⟨g, 2, none⟩ = some c ∧ u.cell? ⟨g, 3, none⟩ = some d ∧ u.cell? ⟨g, 4, none⟩ = some e :=
  ⟨cell_of_row u g 0 _ t _ h, cell_of_row u g 1 _ t _ h, cell_of_row u g 2 _ t _ h, cell_of_row u g 3 _ t _ h, cell_of_row u g 4 _ t _ h⟩

set_option maxHeartbeats 800000 in
theorem lengths_bad (n c f lo hi : Int) (w : World) (h : ¬ (1 ≤ lo ∧ lo ≤ hi ∧ hi ≤ 999)) :
    Calls Tryd.prog 16 #[.agg #[.int .i64 n, .int .i64 c, .int .i64 f, .int .i64 lo, .int .i64 hi]] w fun e w' => e = .returned (.bool false) ∧ Below w.heap.size w w' := by
  by_cases h1 : lo < 1
  · have t1 : decide (lo < 1) = true := by simpa using h1
    clear h h1
    go_enter Tryd.func16, Tryd.ntmps16
    go_wp2
    go_ret
    exact ⟨rfl, below_al _ _⟩
  have t1 : decide (lo < 1) = false := by simpa using h1
  by_cases h2 : hi < lo
  · have t2 : decide (hi < lo) = true := by simpa using h2
    clear h h1 h2
    go_enter Tryd.func16, Tryd.ntmps16
    go_wp2
    go_ret
    exact ⟨rfl, below_al _ _⟩
  have t2 : decide (hi < lo) = false := by simpa using h2
  have t3 : decide (999 < hi) = true := by simp; omega
  clear h h1 h2
  go_enter Tryd.func16, Tryd.ntmps16
  go_wp2
  go_ret
  exact ⟨rfl, below_al _ _⟩
set_option maxHeartbeats 800000 in
theorem lengths_one (n c lo hi : Int) (w : World) (h : 1 ≤ lo ∧ lo ≤ hi ∧ hi ≤ 999) :
    Calls Tryd.prog 16 #[.agg #[.int .i64 n, .int .i64 c, .int .i64 1, .int .i64 lo, .int .i64 hi]] w fun e w' => e = .returned (.bool (lo == hi)) ∧ Below w.heap.size w w' := by
  have t1 : decide (lo < 1) = false := by simp; omega
  have t2 : decide (hi < lo) = false := by simp; omega
  have t3 : decide (999 < hi) = false := by simp; omega
  clear h
  go_enter Tryd.func16, Tryd.ntmps16
  go_wp2
  go_ret
  exact ⟨rfl, below_al _ _⟩
set_option maxHeartbeats 800000 in
theorem lengths_two (n c lo hi : Int) (w : World) (h : 1 ≤ lo ∧ lo ≤ hi ∧ hi ≤ 999) :
    Calls Tryd.prog 16 #[.agg #[.int .i64 n, .int .i64 c, .int .i64 2, .int .i64 lo, .int .i64 hi]] w fun e w' => e = .returned (.bool (decide (hi ≤ 99))) ∧ Below w.heap.size w w' := by
  have t1 : decide (lo < 1) = false := by simp; omega
  have t2 : decide (hi < lo) = false := by simp; omega
  have t3 : decide (999 < hi) = false := by simp; omega
  have HC := Lib.hid ptop_two
  clear h
  go_enter Tryd.func16, Tryd.ntmps16
  go_wp2_with fail
  go_quiet ((go_at_call 23; exact Calls.quiet_of_same (HC.out _)))
  go_wp2
  go_ret
  exact ⟨rfl, hbt (below_al _ _) (below_drewN _ _)⟩
set_option maxHeartbeats 800000 in
theorem lengths_three (n c lo hi : Int) (w : World) (h : 1 ≤ lo ∧ lo ≤ hi ∧ hi ≤ 999) :
    Calls Tryd.prog 16 #[.agg #[.int .i64 n, .int .i64 c, .int .i64 3, .int .i64 lo, .int .i64 hi]] w fun e w' => e = .returned (.bool true) ∧ Below w.heap.size w w' := by
  have t1 : decide (lo < 1) = false := by simp; omega
  have t2 : decide (hi < lo) = false := by simp; omega
  have t3 : decide (999 < hi) = false := by simp; omega
  have t4 : decide (hi ≤ 999) = true := by simp; omega
  have HC := Lib.hid ptop_three
  clear h
  go_enter Tryd.func16, Tryd.ntmps16
  go_wp2_with fail
  go_quiet ((go_at_call 23; exact Calls.quiet_of_same (HC.out _)))
  go_wp2
  go_ret
  exact ⟨by first | rfl | (rw [← t4]; rfl), hbt (below_al _ _) (below_drewN _ _)⟩
theorem lengths_any (n c f lo hi : Int) (w : World) (hf : f = 1 ∨ f = 2 ∨ f = 3) :
    Calls Tryd.prog 16 #[.agg #[.int .i64 n, .int .i64 c, .int .i64 f, .int .i64 lo, .int .i64 hi]] w fun e w' => e = .returned (.bool (lenB f lo hi)) ∧ Below w.heap.size w w' := by
  by_cases h : 1 ≤ lo ∧ lo ≤ hi ∧ hi ≤ 999
  · rcases hf with rfl | rfl | rfl
    · rw [lenB_one h]; exact lengths_one n c lo hi w h
    · rw [lenB_two h]; exact lengths_two n c lo hi w h
    · rw [lenB_three h]; exact lengths_three n c lo hi w h
  · rw [lenB_bad h]; exact lengths_bad n c f lo hi w h

set_option maxHeartbeats 800000 in
theorem speclist_any (s : ByteArray) (w : World) (hs : s.size ≤ 5000000) : Calls Tryd.prog 18 #[.string s] w fun e w' => e = .returned (.bool (decide ((tlvN s).1 = 0))) ∧ Below w.heap.size w w' := by
  have HG := Lib.hid (fun W => tlvget_any s W hs)
  generalize (tlvN s).2.2.length = len at *
  generalize (tlvN s).2.2 = l at *
  generalize (tlvN s).2.1 = p at *
  generalize (tlvN s).1 = x at *
  have hx : ((x : Int) == 0) = decide (x = 0) := by rw [Bool.eq_iff_iff]; simp
  go_enter Tryd.func18, Tryd.ntmps18
  go_wp2_with fail
  refine (HG.out _).mono ?_
  rintro e w1 ⟨A, cap, rfl, hA, hb1⟩
  have HB1 := Lib.hid hb1
  clear hA hb1
  go_wp2
  go_ret
  exact ⟨by first | (rw [← hx]; rfl) | simp, HB1.out⟩

set_option maxHeartbeats 800000 in
theorem widerClass_any (a b : Int) (w : World) (hw : Kinds w) : Calls Tryd.prog 21 #[.int .i64 a, .int .i64 b] w fun e w' => e = .returned (.bool (widC a b)) ∧ Below w.heap.size w w' := by
  have HF := Lib.hid (fun W hW => wider_any a b W hW)
  have HW := Lib.hid hw
  clear hw
  unfold widC
  by_cases h5 : a = 5
  · rw [if_pos h5]
    subst h5
    clear HF
    go_enter Tryd.func21, Tryd.ntmps21
    go_wp2
    go_ret
    exact ⟨rfl, Below.refl _ _⟩
  rw [if_neg h5]
  have t5 : (a == 5) = false := by simpa using h5
  by_cases h6 : a = 6 ∨ b = 6
  · rw [if_pos h6]
    clear HF
    by_cases ha : a = 6
    · subst ha
      clear h5 h6 t5
      go_enter Tryd.func21, Tryd.ntmps21
      go_wp2
      go_ret
      exact ⟨rfl, Below.refl _ _⟩
    · have hb : b = 6 := by omega
      subst hb
      have t6 : (a == 6) = false := by simpa using ha
      clear h5 h6 ha
      go_enter Tryd.func21, Tryd.ntmps21
      go_wp2
      go_ret
      exact ⟨by first | rfl | simp [t6], Below.refl _ _⟩
  · rw [if_neg h6]
    have ta : (a == 6) = false := by simp; omega
    have tb : (b == 6) = false := by simp; omega
    generalize wid a b = r at *
    clear h5 h6
    go_enter Tryd.func21, Tryd.ntmps21
    go_wp2_with fail
    refine (HF.out _ HW.out).mono ?_
    rintro e w1 ⟨rfl, hb1⟩
    go_wp2
    go_ret
    exact ⟨rfl, hb1⟩

end Go.Proofs.YtmobillfeldcjaaDoor
