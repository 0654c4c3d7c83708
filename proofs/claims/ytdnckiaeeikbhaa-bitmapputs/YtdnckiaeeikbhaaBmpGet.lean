/-
  What bitmap.Get answers, by what read does: for every style, text and place, in every world.
-/
import Derived.Test.YtdnckiaeeikbhaaBmpRead
import Derived.Test.YtdnckiaeeikbhaaBmpEq
import Derived.Test.YtdnckiaeeikbhaaRegHeld
namespace Go.Proofs.Ytdnckiaeeikbhaa
open Go.RowKit

theorem get_style (st : Int) (s : ByteArray) (at_ : Int) (w : World) (hst : st ≠ 1 ∧ st ≠ 2) :
    Calls Try.prog 13 #[.int .i64 st, .string s, .int .i64 at_] w fun e w' => e = .returned (.tuple #[setV 0 0, .int .i64 0, .int .i64 1]) ∧ Below w.heap.size w w' := by
  have HK := Lib.hid (known_no st hst)
  unfold setV
  clear hst
  go_enter Try.func13, Try.ntmps13
  go_wp2_with fail
  refine (HK.out _).mono ?_
  rintro e w1 ⟨rfl, rfl⟩
  go_wp2
  refine bodyPost_ret (results_cell_row2 rfl _ _ w.heap.size _ _ _ _ rfl (heap_al _ _ _ rfl) Try.underlying27 rfl (by kernel_rfl)) rfl ?_
  exact ⟨rfl, below_al _ _⟩
theorem get_place (st : Nat) (s : ByteArray) (at_ : Int) (w : World) (hst : st = 1 ∨ st = 2) (ha : at_ < 0 ∨ (s.size : Int) < at_) :
    Calls Try.prog 13 #[.int .i64 (st : Int), .string s, .int .i64 at_] w fun e w' => e = .returned (.tuple #[setV 0 0, .int .i64 0, .int .i64 1]) ∧ Below w.heap.size w w' := by
  have HK := Lib.hid (known_yes st hst)
  unfold setV
  clear hst
  by_cases h0 : at_ < 0
  · clear ha
    go_enter Try.func13, Try.ntmps13
    go_wp2_with fail
    refine (HK.out _).mono ?_
    rintro e w1 ⟨rfl, rfl⟩
    go_wp2
    refine bodyPost_ret (results_cell_row2 rfl _ _ w.heap.size _ _ _ _ rfl (heap_al _ _ _ rfl) Try.underlying27 rfl (by kernel_rfl)) rfl ?_
    exact ⟨rfl, below_al _ _⟩
  · have h1 : (s.size : Int) < at_ := by omega
    have h2 : decide (at_ < 0) = false := by simp; omega
    clear ha h0
    go_enter Try.func13, Try.ntmps13
    go_wp2_with fail
    refine (HK.out _).mono ?_
    rintro e w1 ⟨rfl, rfl⟩
    go_wp2
    refine bodyPost_ret (results_cell_row2 rfl _ _ w.heap.size _ _ _ _ rfl (heap_al _ _ _ rfl) Try.underlying27 rfl (by kernel_rfl)) rfl ?_
    exact ⟨rfl, below_al _ _⟩

/-- What read answers, as the walks of Get take it. -/
def ReadsTo (st : Nat) (s : ByteArray) (at_ : Nat) (V : Value) (n e : Nat) : Prop :=
  ∀ W, Calls Try.prog 27 #[.int .i64 (st : Int), .string s, .int .i64 (at_ : Int)] W fun r w' => r = .returned (.tuple #[V, .int .i64 (n : Int), .int .i64 (e : Int)]) ∧ Below W.heap.size W w'

set_option maxHeartbeats 800000 in
theorem get_err1 (st : Nat) (s : ByteArray) (at_ n : Nat) (w : World) (hst : st = 1 ∨ st = 2) (ha : at_ ≤ s.size) (hr : ReadsTo st s at_ zeroV 0 n) (hn : n ≠ 0) :
    Calls Try.prog 13 #[.int .i64 (st : Int), .string s, .int .i64 (at_ : Int)] w fun e w' => e = .returned (.tuple #[setV 0 0, .int .i64 0, .int .i64 (n : Int)]) ∧ Below w.heap.size w w' := by
  have HK := Lib.hid (known_yes st hst)
  have HR := Lib.hid hr
  unfold ReadsTo zeroV at HR
  have h2 : decide ((at_ : Int) < 0) = false := by simp
  have h3 : decide (s.size < at_) = false := by simp; omega
  have h4 : ((n : Int) != 0) = true := by simp [hn]
  unfold setV
  clear hst hr hn ha
  go_enter Try.func13, Try.ntmps13
  go_wp2_with fail
  refine (HK.out _).mono ?_
  rintro e w1 ⟨rfl, rfl⟩
  go_wp2_with fail
  refine (HR.out _).mono ?_
  rintro e w1 ⟨rfl, hb1⟩
  have h0 := obj_below (heap_alloc_new w (setO 0 0)) hb1
  obtain ⟨c0, c1, f0, f1⟩ := obj_cells h0
  have hl := obj_lt h0
  have H0 := Lib.hid h0
  have HB := Lib.hid (hbt (below_al _ _) hb1)
  clear h0 hb1
  go_wp2
  refine bodyPost_ret (results_cell_row2 rfl _ _ w.heap.size _ _ _ _ rfl ((heap_alloc_old' _ _ _ (by simp; omega)).trans (obj_set2 H0.out _ _)) Try.underlying27 rfl (by kernel_rfl)) rfl ?_
  exact ⟨rfl, hbt (below_set2 HB.out (by omega) _ _) (below_al _ _)⟩

set_option maxHeartbeats 1600000 in
theorem get_short (st : Nat) (s : ByteArray) (at_ n x : Nat) (a0 a1 a2 a3 a4 a5 a6 a7 : Nat) (w : World) (hst : st = 1 ∨ st = 2) (ha : at_ ≤ s.size) (hr : ReadsTo st s at_ (.agg #[.int .u8 (a0 : Int), .int .u8 (a1 : Int), .int .u8 (a2 : Int), .int .u8 (a3 : Int), .int .u8 (a4 : Int), .int .u8 (a5 : Int), .int .u8 (a6 : Int), .int .u8 (a7 : Int)]) n 0)
    (hx : ∀ W, Calls Try.prog 28 #[.agg #[.int .u8 (a0 : Int), .int .u8 (a1 : Int), .int .u8 (a2 : Int), .int .u8 (a3 : Int), .int .u8 (a4 : Int), .int .u8 (a5 : Int), .int .u8 (a6 : Int), .int .u8 (a7 : Int)]] W fun e w' => e = .returned (.int .u64 (x : Int)) ∧ Below W.heap.size W w') (bx : x < M64) (h1 : hasN x 0 1 = false) :
    Calls Try.prog 13 #[.int .i64 (st : Int), .string s, .int .i64 (at_ : Int)] w fun e w' => e = .returned (.tuple #[setV x 0, .int .i64 (n : Int), .int .i64 0]) ∧ Below w.heap.size w w' := by
  have HK := Lib.hid (known_yes st hst)
  have HR := Lib.hid hr
  unfold ReadsTo at HR
  have HX := Lib.hid hx
  have HBT := Lib.hid (bits_any x 0)
  have HA := Lib.hid (fun W => by have := has_any x 0 1 W bx (by decide); rw [h1] at this; exact this)
  have h2 : decide ((at_ : Int) < 0) = false := by simp
  have h3 : decide (s.size < at_) = false := by simp; omega
  unfold setV at *
  clear hst hr ha hx bx h1
  go_enter Try.func13, Try.ntmps13
  go_wp2_with fail
  refine (HK.out _).mono ?_
  rintro e w1 ⟨rfl, rfl⟩
  go_wp2_with fail
  refine (HR.out _).mono ?_
  rintro e w1 ⟨rfl, hb1⟩
  have h0 := obj_below (heap_alloc_new w (setO 0 0)) hb1
  have HB := Lib.hid (hbt (hbt (below_al _ _) hb1) (below_al _ (.cells #[.int .u8 (a0 : Int), .int .u8 (a1 : Int), .int .u8 (a2 : Int), .int .u8 (a3 : Int), .int .u8 (a4 : Int), .int .u8 (a5 : Int), .int .u8 (a6 : Int), .int .u8 (a7 : Int)] 50)))
  have H0 := Lib.hid ((heap_alloc_old' w1 (.cells #[.int .u8 (a0 : Int), .int .u8 (a1 : Int), .int .u8 (a2 : Int), .int .u8 (a3 : Int), .int .u8 (a4 : Int), .int .u8 (a5 : Int), .int .u8 (a6 : Int), .int .u8 (a7 : Int)] 50) _ (obj_lt h0)).trans h0)
  clear h0 hb1
  go_wp2_with fail
  refine (HX.out _).mono ?_
  rintro e w2 ⟨rfl, hb2⟩
  have H02 := Lib.hid (obj_below H0.out hb2)
  have HB2 := Lib.hid (hbt HB.out hb2)
  clear hb2
  go_wp2_with fail
  refine (HBT.out _).mono ?_
  rintro e w3 ⟨rfl, hb3⟩
  have H03 := Lib.hid ((heap_alloc_old' w3 (setO x 0) _ (obj_lt (obj_below H02.out hb3))).trans (obj_below H02.out hb3))
  have HB3 := Lib.hid (hbt (hbt HB2.out hb3) (below_al _ (setO x 0)))
  have HS3 := Lib.hid (heap_alloc_new w3 (setO x 0))
  clear hb3
  go_wp2_with fail
  refine (HA.out _).mono ?_
  rintro e w4 ⟨rfl, hb4⟩
  have h0 := obj_below H03.out hb4
  obtain ⟨c0, c1, f0, f1⟩ := obj_cells h0
  obtain ⟨c2, c3, _, _⟩ := obj_cells (obj_below HS3.out hb4)
  have H04 := Lib.hid h0
  have HB4 := Lib.hid (hbt HB3.out hb4)
  clear hb4 h0
  go_wp2
  refine bodyPost_ret (results_cell_row2 rfl _ _ w.heap.size _ _ _ _ rfl (obj_set2 H04.out _ _) Try.underlying27 rfl (by kernel_rfl)) rfl ?_
  exact ⟨rfl, below_set2 HB4.out (by omega) _ _⟩

end Go.Proofs.Ytdnckiaeeikbhaa
