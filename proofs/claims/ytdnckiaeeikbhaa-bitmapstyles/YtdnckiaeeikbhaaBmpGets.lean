/-
  What bitmap.Get answers where the first half says that there is a second one: for every style, text and place, in every world.
-/
import Derived.Test.YtdnckiaeeikbhaaBmpGet
namespace Go.Proofs.Ytdnckiaeeikbhaa
open Go.RowKit

set_option maxHeartbeats 3200000 in
theorem get_err2 (st : Nat) (s : ByteArray) (at_ n x m : Nat) (a0 a1 a2 a3 a4 a5 a6 a7 : Nat) (w : World) (hst : st = 1 ∨ st = 2) (ha : at_ ≤ s.size) (hr : ReadsTo st s at_ (.agg #[.int .u8 (a0 : Int), .int .u8 (a1 : Int), .int .u8 (a2 : Int), .int .u8 (a3 : Int), .int .u8 (a4 : Int), .int .u8 (a5 : Int), .int .u8 (a6 : Int), .int .u8 (a7 : Int)]) n 0)
    (hx : ∀ W, Calls Try.prog 28 #[.agg #[.int .u8 (a0 : Int), .int .u8 (a1 : Int), .int .u8 (a2 : Int), .int .u8 (a3 : Int), .int .u8 (a4 : Int), .int .u8 (a5 : Int), .int .u8 (a6 : Int), .int .u8 (a7 : Int)]] W fun e w' => e = .returned (.int .u64 (x : Int)) ∧ Below W.heap.size W w') (bx : x < M64) (h1 : hasN x 0 1 = true) (hr2 : ReadsTo st s n zeroV 0 m) (hm : m ≠ 0) :
    Calls Try.prog 13 #[.int .i64 (st : Int), .string s, .int .i64 (at_ : Int)] w fun e w' => e = .returned (.tuple #[setV 0 0, .int .i64 0, .int .i64 (m : Int)]) ∧ Below w.heap.size w w' := by
  have HK := Lib.hid (known_yes st hst)
  have HR := Lib.hid hr
  unfold ReadsTo at HR
  have HX := Lib.hid hx
  have HBT := Lib.hid (bits_any x 0)
  have HA := Lib.hid (fun W => by have := has_any x 0 1 W bx (by decide); rw [h1] at this; exact this)
  have h2 : decide ((at_ : Int) < 0) = false := by simp
  have h3 : decide (s.size < at_) = false := by simp; omega
  have HR2 := Lib.hid hr2
  unfold ReadsTo at HR2
  unfold zeroV at HR2
  have h4 : ((m : Int) != 0) = true := by simp [hm]
  unfold setV at *
  clear hst hr ha hx bx h1 hr2 hm
  go_enter Try.func13, Try.ntmps13
  go_wp2_with fail
  refine (HK.out _).mono ?_
  rintro e w1 ⟨rfl, rfl⟩
  go_wp2_with fail
  refine (HR.out _).mono ?_
  rintro e w1 ⟨rfl, hb1⟩
  have h0 := obj_below (heap_alloc_new w (setO 0 0)) hb1
  have HB := Lib.hid (hbt (hbt (below_al _ _) hb1) (below_al _ (.cells #[.int .u8 (a0 : Int), .int .u8 (a1 : Int), .int .u8 (a2 : Int), .int .u8 (a3 : Int), .int .u8 (a4 : Int), .int .u8 (a5 : Int), .int .u8 (a6 : Int), .int .u8 (a7 : Int)] 50)))
  have H0 := Lib.hid ((heap_alloc_old' w1 (.cells #[.int .u8 (a0 : Int), .int .u8 (a1 : Int), .int .u8 (a2 : Int), .int .u8 (a3 : Int), .int .u8 (a4 : Int), .int .u8 (a5 : Int), .int .u8 (a6 : Int), .int .u8 (a7 : Int)] 50) _ (obj_lt h0)).trans h0)
  have HC := Lib.hid (heap_alloc_new w1 (.cells #[.int .u8 (a0 : Int), .int .u8 (a1 : Int), .int .u8 (a2 : Int), .int .u8 (a3 : Int), .int .u8 (a4 : Int), .int .u8 (a5 : Int), .int .u8 (a6 : Int), .int .u8 (a7 : Int)] 50))
  have hne : w.heap.size < w1.heap.size := obj_lt h0
  clear h0 hb1
  go_wp2_with fail
  refine (HX.out _).mono ?_
  rintro e w2 ⟨rfl, hb2⟩
  have H02 := Lib.hid (obj_below H0.out hb2)
  have HC2 := Lib.hid (obj_below HC.out hb2)
  have HB2 := Lib.hid (hbt HB.out hb2)
  clear hb2
  generalize w1.heap.size = g9 at *
  go_wp2_with fail
  refine (HBT.out _).mono ?_
  rintro e w3 ⟨rfl, hb3⟩
  have H03 := Lib.hid ((heap_alloc_old' w3 (setO x 0) _ (obj_lt (obj_below H02.out hb3))).trans (obj_below H02.out hb3))
  have HC3 := Lib.hid ((heap_alloc_old' w3 (setO x 0) _ (obj_lt (obj_below HC2.out hb3))).trans (obj_below HC2.out hb3))
  have HB3 := Lib.hid (hbt (hbt HB2.out hb3) (below_al _ (setO x 0)))
  clear hb3
  go_wp2_with fail
  refine (HA.out _).mono ?_
  rintro e w4 ⟨rfl, hb4⟩
  have H04 := Lib.hid (obj_below H03.out hb4)
  have HC4 := Lib.hid (obj_below HC3.out hb4)
  have HB4 := Lib.hid (hbt HB3.out hb4)
  clear hb4
  go_wp2_with fail
  refine (HR2.out _).mono ?_
  rintro e w5 ⟨rfl, hb5⟩
  have h0 := obj_below H04.out hb5
  have H05 := Lib.hid h0
  have HC5 := Lib.hid (obj_below HC4.out hb5)
  have HB5 := Lib.hid (hbt HB4.out hb5)
  obtain ⟨c0, c1, f0, f1⟩ := obj_cells h0
  have hl := obj_lt h0
  clear hb5 h0
  go_wp2
  refine bodyPost_ret (results_cell_row2 rfl _ _ w.heap.size _ _ _ _ rfl ((heap_alloc_old' _ _ _ (by simp; omega)).trans (obj_set2 H05.out _ _)) Try.underlying27 rfl (by kernel_rfl)) rfl ?_
  exact ⟨rfl, hbt (below_set2 HB5.out (by omega) _ _) (below_al _ _)⟩

set_option maxHeartbeats 3200000 in
theorem get_zero (st : Nat) (s : ByteArray) (at_ n x m : Nat) (a0 a1 a2 a3 a4 a5 a6 a7 : Nat) (w : World) (hst : st = 1 ∨ st = 2) (ha : at_ ≤ s.size) (hr : ReadsTo st s at_ (.agg #[.int .u8 (a0 : Int), .int .u8 (a1 : Int), .int .u8 (a2 : Int), .int .u8 (a3 : Int), .int .u8 (a4 : Int), .int .u8 (a5 : Int), .int .u8 (a6 : Int), .int .u8 (a7 : Int)]) n 0)
    (hx : ∀ W, Calls Try.prog 28 #[.agg #[.int .u8 (a0 : Int), .int .u8 (a1 : Int), .int .u8 (a2 : Int), .int .u8 (a3 : Int), .int .u8 (a4 : Int), .int .u8 (a5 : Int), .int .u8 (a6 : Int), .int .u8 (a7 : Int)]] W fun e w' => e = .returned (.int .u64 (x : Int)) ∧ Below W.heap.size W w') (bx : x < M64) (h1 : hasN x 0 1 = true) (hr2 : ReadsTo st s n zeroV m 0) :
    Calls Try.prog 13 #[.int .i64 (st : Int), .string s, .int .i64 (at_ : Int)] w fun e w' => e = .returned (.tuple #[setV 0 0, .int .i64 0, .int .i64 8]) ∧ Below w.heap.size w w' := by
  have HK := Lib.hid (known_yes st hst)
  have HR := Lib.hid hr
  unfold ReadsTo at HR
  have HX := Lib.hid hx
  have HBT := Lib.hid (bits_any x 0)
  have HA := Lib.hid (fun W => by have := has_any x 0 1 W bx (by decide); rw [h1] at this; exact this)
  have h2 : decide ((at_ : Int) < 0) = false := by simp
  have h3 : decide (s.size < at_) = false := by simp; omega
  have HR2 := Lib.hid hr2
  unfold ReadsTo at HR2
  unfold zeroV at HR2
  have heq := half_eq_yes
  unfold setV at *
  clear hst hr ha hx bx h1 hr2 
  go_enter Try.func13, Try.ntmps13
  go_wp2_with fail
  refine (HK.out _).mono ?_
  rintro e w1 ⟨rfl, rfl⟩
  go_wp2_with fail
  refine (HR.out _).mono ?_
  rintro e w1 ⟨rfl, hb1⟩
  have h0 := obj_below (heap_alloc_new w (setO 0 0)) hb1
  have HB := Lib.hid (hbt (hbt (below_al _ _) hb1) (below_al _ (.cells #[.int .u8 (a0 : Int), .int .u8 (a1 : Int), .int .u8 (a2 : Int), .int .u8 (a3 : Int), .int .u8 (a4 : Int), .int .u8 (a5 : Int), .int .u8 (a6 : Int), .int .u8 (a7 : Int)] 50)))
  have H0 := Lib.hid ((heap_alloc_old' w1 (.cells #[.int .u8 (a0 : Int), .int .u8 (a1 : Int), .int .u8 (a2 : Int), .int .u8 (a3 : Int), .int .u8 (a4 : Int), .int .u8 (a5 : Int), .int .u8 (a6 : Int), .int .u8 (a7 : Int)] 50) _ (obj_lt h0)).trans h0)
  have HC := Lib.hid (heap_alloc_new w1 (.cells #[.int .u8 (a0 : Int), .int .u8 (a1 : Int), .int .u8 (a2 : Int), .int .u8 (a3 : Int), .int .u8 (a4 : Int), .int .u8 (a5 : Int), .int .u8 (a6 : Int), .int .u8 (a7 : Int)] 50))
  have hne : w.heap.size < w1.heap.size := obj_lt h0
  clear h0 hb1
  go_wp2_with fail
  refine (HX.out _).mono ?_
  rintro e w2 ⟨rfl, hb2⟩
  have H02 := Lib.hid (obj_below H0.out hb2)
  have HC2 := Lib.hid (obj_below HC.out hb2)
  have HB2 := Lib.hid (hbt HB.out hb2)
  clear hb2
  generalize w1.heap.size = g9 at *
  go_wp2_with fail
  refine (HBT.out _).mono ?_
  rintro e w3 ⟨rfl, hb3⟩
  have H03 := Lib.hid ((heap_alloc_old' w3 (setO x 0) _ (obj_lt (obj_below H02.out hb3))).trans (obj_below H02.out hb3))
  have HC3 := Lib.hid ((heap_alloc_old' w3 (setO x 0) _ (obj_lt (obj_below HC2.out hb3))).trans (obj_below HC2.out hb3))
  have HB3 := Lib.hid (hbt (hbt HB2.out hb3) (below_al _ (setO x 0)))
  clear hb3
  go_wp2_with fail
  refine (HA.out _).mono ?_
  rintro e w4 ⟨rfl, hb4⟩
  have H04 := Lib.hid (obj_below H03.out hb4)
  have HC4 := Lib.hid (obj_below HC3.out hb4)
  have HB4 := Lib.hid (hbt HB3.out hb4)
  clear hb4
  go_wp2_with fail
  refine (HR2.out _).mono ?_
  rintro e w5 ⟨rfl, hb5⟩
  have h0 := obj_below H04.out hb5
  have H05 := Lib.hid h0
  have HC5 := Lib.hid (obj_below HC4.out hb5)
  have HB5 := Lib.hid (hbt HB4.out hb5)
  obtain ⟨c0, c1, f0, f1⟩ := obj_cells h0
  have hl := obj_lt h0
  clear hb5 h0
  go_wp2
  refine bodyPost_ret (results_cell_row2 rfl _ _ w.heap.size _ _ _ _ rfl ((heap_alloc_old' _ _ _ (by simp; omega)).trans (obj_set2 H05.out _ _)) Try.underlying27 rfl (by kernel_rfl)) rfl ?_
  exact ⟨rfl, hbt (below_set2 HB5.out (by omega) _ _) (below_al _ _)⟩

/-- What the last region of Get keeps: both halves, room for the set. -/
def GetS (w : World) (g6 g9 g13 : Nat) (L M : Array Value) (u : World) : Prop := Below w.heap.size w u ∧ u.heap[g9]? = some (.cells L 50) ∧ u.heap[g13]? = some (.cells M 50) ∧ ∃ a b, u.heap[g6]? = some (.cells #[a, b] 27)
theorem GetS.below {w u u' : World} {g6 g9 g13 : Nat} {L M : Array Value} (t : GetS w g6 g9 g13 L M u) (hb : Below u.heap.size u u') : GetS w g6 g9 g13 L M u' := by
  obtain ⟨h1, h2, h3, a, b, h4⟩ := t
  exact ⟨hbt h1 hb, obj_below h2 hb, obj_below h3 hb, a, b, obj_below h4 hb⟩
theorem GetS.drew {w u : World} {g6 g9 g13 : Nat} {L M : Array Value} (t : GetS w g6 g9 g13 L M u) : GetS w g6 g9 g13 L M u.drew := ⟨t.1.drew, t.2.1, t.2.2⟩
theorem GetS.store {w u : World} {g6 g9 g13 : Nat} {L M : Array Value} (t : GetS w g6 g9 g13 L M u) (h9 : g9 ≠ g6) (h13 : g13 ≠ g6) (hw : w.heap.size ≤ g6) (c d : Value) : GetS w g6 g9 g13 L M ((u.setCell ⟨g6, 0, none⟩ c).setCell ⟨g6, 1, none⟩ d) := by
  obtain ⟨h1, h2, h3, a, b, h4⟩ := t
  exact ⟨below_set2 h1 hw c d, obj_set_other h2 h9 c d, obj_set_other h3 h13 c d, c, d, obj_set2 h4 c d⟩
theorem GetS.mk {w u : World} {g6 g9 : Nat} {L M : Array Value} {h l : Nat} (h1 : Below w.heap.size w u) (h2 : u.heap[g9]? = some (.cells L 50)) (h4 : u.heap[g6]? = some (setO h l)) : GetS w g6 g9 u.heap.size L M (u.alloc (.cells M 50)) :=
  ⟨hbt h1 (below_al _ _), (heap_alloc_old' _ _ _ (obj_lt h2)).trans h2, heap_alloc_new _ _, _, _, (heap_alloc_old' _ _ _ (obj_lt h4)).trans h4⟩

set_option maxHeartbeats 3200000 in
theorem get_long (st : Nat) (s : ByteArray) (at_ n x m y : Nat) (a0 a1 a2 a3 a4 a5 a6 a7 : Nat) (w : World) (hst : st = 1 ∨ st = 2) (ha : at_ ≤ s.size) (hr : ReadsTo st s at_ (.agg #[.int .u8 (a0 : Int), .int .u8 (a1 : Int), .int .u8 (a2 : Int), .int .u8 (a3 : Int), .int .u8 (a4 : Int), .int .u8 (a5 : Int), .int .u8 (a6 : Int), .int .u8 (a7 : Int)]) n 0)
    (hx : ∀ W, Calls Try.prog 28 #[.agg #[.int .u8 (a0 : Int), .int .u8 (a1 : Int), .int .u8 (a2 : Int), .int .u8 (a3 : Int), .int .u8 (a4 : Int), .int .u8 (a5 : Int), .int .u8 (a6 : Int), .int .u8 (a7 : Int)]] W fun e w' => e = .returned (.int .u64 (x : Int)) ∧ Below W.heap.size W w') (bx : x < M64) (h1 : hasN x 0 1 = true) (b0 b1 b2 b3 b4 b5 b6 b7 : Nat) (hr2 : ReadsTo st s n (.agg #[.int .u8 (b0 : Int), .int .u8 (b1 : Int), .int .u8 (b2 : Int), .int .u8 (b3 : Int), .int .u8 (b4 : Int), .int .u8 (b5 : Int), .int .u8 (b6 : Int), .int .u8 (b7 : Int)]) m 0) (hz : ¬ (b0 = 0 ∧ b1 = 0 ∧ b2 = 0 ∧ b3 = 0 ∧ b4 = 0 ∧ b5 = 0 ∧ b6 = 0 ∧ b7 = 0))
    (hy : ∀ W, Calls Try.prog 28 #[.agg #[.int .u8 (b0 : Int), .int .u8 (b1 : Int), .int .u8 (b2 : Int), .int .u8 (b3 : Int), .int .u8 (b4 : Int), .int .u8 (b5 : Int), .int .u8 (b6 : Int), .int .u8 (b7 : Int)]] W fun e w' => e = .returned (.int .u64 (y : Int)) ∧ Below W.heap.size W w') (by_ : y < M64) :
    Calls Try.prog 13 #[.int .i64 (st : Int), .string s, .int .i64 (at_ : Int)] w fun e w' => e = .returned (.tuple #[setV (x &&& (fullN - aH 1)) (y &&& (fullN - aL 1)), .int .i64 (m : Int), .int .i64 0]) ∧ Below w.heap.size w w' := by
  have HK := Lib.hid (known_yes st hst)
  have HR := Lib.hid hr
  unfold ReadsTo at HR
  have HX := Lib.hid hx
  have HBT := Lib.hid (bits_any x 0)
  have HA := Lib.hid (fun W => by have := has_any x 0 1 W bx (by decide); rw [h1] at this; exact this)
  have h2 : decide ((at_ : Int) < 0) = false := by simp
  have h3 : decide (s.size < at_) = false := by simp; omega
  have HR2 := Lib.hid hr2
  unfold ReadsTo at HR2
  have heq := half_eq_no _ _ _ _ _ _ _ _ hz
  have HY := Lib.hid hy
  have HBX := Lib.hid (bits_any x y)
  have HWO := Lib.hid (fun W => without_any x y 1 W bx by_)
  generalize x &&& (fullN - aH 1) = x' at *
  generalize y &&& (fullN - aL 1) = y' at *
  unfold setV at *
  clear hst hr ha hx bx h1 hr2 hz hy by_
  go_enter Try.func13, Try.ntmps13
  go_wp2_with fail
  refine (HK.out _).mono ?_
  rintro e w1 ⟨rfl, rfl⟩
  go_wp2_with fail
  refine (HR.out _).mono ?_
  rintro e w1 ⟨rfl, hb1⟩
  have h0 := obj_below (heap_alloc_new w (setO 0 0)) hb1
  have HB := Lib.hid (hbt (hbt (below_al _ _) hb1) (below_al _ (.cells #[.int .u8 (a0 : Int), .int .u8 (a1 : Int), .int .u8 (a2 : Int), .int .u8 (a3 : Int), .int .u8 (a4 : Int), .int .u8 (a5 : Int), .int .u8 (a6 : Int), .int .u8 (a7 : Int)] 50)))
  have H0 := Lib.hid ((heap_alloc_old' w1 (.cells #[.int .u8 (a0 : Int), .int .u8 (a1 : Int), .int .u8 (a2 : Int), .int .u8 (a3 : Int), .int .u8 (a4 : Int), .int .u8 (a5 : Int), .int .u8 (a6 : Int), .int .u8 (a7 : Int)] 50) _ (obj_lt h0)).trans h0)
  have HC := Lib.hid (heap_alloc_new w1 (.cells #[.int .u8 (a0 : Int), .int .u8 (a1 : Int), .int .u8 (a2 : Int), .int .u8 (a3 : Int), .int .u8 (a4 : Int), .int .u8 (a5 : Int), .int .u8 (a6 : Int), .int .u8 (a7 : Int)] 50))
  have hne : w.heap.size < w1.heap.size := obj_lt h0
  clear h0 hb1
  go_wp2_with fail
  refine (HX.out _).mono ?_
  rintro e w2 ⟨rfl, hb2⟩
  have H02 := Lib.hid (obj_below H0.out hb2)
  have HC2 := Lib.hid (obj_below HC.out hb2)
  have HB2 := Lib.hid (hbt HB.out hb2)
  clear hb2
  generalize w1.heap.size = g9 at *
  go_wp2_with fail
  refine (HBT.out _).mono ?_
  rintro e w3 ⟨rfl, hb3⟩
  have H03 := Lib.hid ((heap_alloc_old' w3 (setO x 0) _ (obj_lt (obj_below H02.out hb3))).trans (obj_below H02.out hb3))
  have HC3 := Lib.hid ((heap_alloc_old' w3 (setO x 0) _ (obj_lt (obj_below HC2.out hb3))).trans (obj_below HC2.out hb3))
  have HB3 := Lib.hid (hbt (hbt HB2.out hb3) (below_al _ (setO x 0)))
  clear hb3
  go_wp2_with fail
  refine (HA.out _).mono ?_
  rintro e w4 ⟨rfl, hb4⟩
  have H04 := Lib.hid (obj_below H03.out hb4)
  have HC4 := Lib.hid (obj_below HC3.out hb4)
  have HB4 := Lib.hid (hbt HB3.out hb4)
  clear hb4
  go_wp2_with fail
  refine (HR2.out _).mono ?_
  rintro e w5 ⟨rfl, hb5⟩
  have h0 := obj_below H04.out hb5
  have H05 := Lib.hid h0
  have HC5 := Lib.hid (obj_below HC4.out hb5)
  have HB5 := Lib.hid (hbt HB4.out hb5)
  have HS0 := Lib.hid (GetS.mk (g6 := w.heap.size) (g9 := g9) (L := #[.int .u8 (a0 : Int), .int .u8 (a1 : Int), .int .u8 (a2 : Int), .int .u8 (a3 : Int), .int .u8 (a4 : Int), .int .u8 (a5 : Int), .int .u8 (a6 : Int), .int .u8 (a7 : Int)]) (M := #[.int .u8 (b0 : Int), .int .u8 (b1 : Int), .int .u8 (b2 : Int), .int .u8 (b3 : Int), .int .u8 (b4 : Int), .int .u8 (b5 : Int), .int .u8 (b6 : Int), .int .u8 (b7 : Int)]) HB5.out HC5.out h0)
  have hl := obj_lt h0
  clear hb5 h0
  go_wp2_with fail
  refine wp_region_noPanic ?_
  refine wp_region_held_drew (S := (GetS w w.heap.size g9 w5.heap.size #[.int .u8 (a0 : Int), .int .u8 (a1 : Int), .int .u8 (a2 : Int), .int .u8 (a3 : Int), .int .u8 (a4 : Int), .int .u8 (a5 : Int), .int .u8 (a6 : Int), .int .u8 (a7 : Int)] #[.int .u8 (b0 : Int), .int .u8 (b1 : Int), .int .u8 (b2 : Int), .int .u8 (b3 : Int), .int .u8 (b4 : Int), .int .u8 (b5 : Int), .int .u8 (b6 : Int), .int .u8 (b7 : Int)])) (by kernel_rfl) (HS0.out.drew) (fun hS => ?_)
  refine give_val (i := 0) (v := ?_) rfl (by kernel_rfl) (by kernel_rfl) (by kernel_rfl) (fun _ _ _ h => h) (by rfl) (fun u hu => ?_) hS ?_
  rotate_left
  · ((obtain ⟨_, hu2, hu3, _⟩ := hu; obtain ⟨⟨c0, c1, c2, c3, c4, c5, c6, c7⟩, _⟩ := obj_cells8 hu2; obtain ⟨⟨d0, d1, d2, d3, d4, d5, d6, d7⟩, _⟩ := obj_cells8 hu3; clear hu2 hu3); go_simp; try (with_reducible rfl))
  try simp only [Act.put, List.setIfInBounds_toArray, List.set_cons_zero, List.set_cons_succ]
  refine give_val (i := 2) (v := ?_) rfl (by kernel_rfl) (by kernel_rfl) (by kernel_rfl) (fun _ _ _ h => h) (by rfl) (fun u hu => ?_) hS ?_
  rotate_left
  · ((obtain ⟨_, hu2, hu3, _⟩ := hu; obtain ⟨⟨c0, c1, c2, c3, c4, c5, c6, c7⟩, _⟩ := obj_cells8 hu2; obtain ⟨⟨d0, d1, d2, d3, d4, d5, d6, d7⟩, _⟩ := obj_cells8 hu3; clear hu2 hu3); go_simp; try (with_reducible rfl))
  try simp only [Act.put, List.setIfInBounds_toArray, List.set_cons_zero, List.set_cons_succ]
  refine give_val (i := 6) (v := ?_) rfl (by kernel_rfl) (by kernel_rfl) (by kernel_rfl) (fun _ _ _ h => h) (by rfl) (fun u hu => ?_) hS ?_
  rotate_left
  · ((obtain ⟨_, hu2, hu3, _⟩ := hu; obtain ⟨⟨c0, c1, c2, c3, c4, c5, c6, c7⟩, _⟩ := obj_cells8 hu2; obtain ⟨⟨d0, d1, d2, d3, d4, d5, d6, d7⟩, _⟩ := obj_cells8 hu3; clear hu2 hu3); go_simp; try (with_reducible rfl))
  try simp only [Act.put, List.setIfInBounds_toArray, List.set_cons_zero, List.set_cons_succ]
  refine only_call (i := 1) 28 #[.agg #[.int .u8 (a0 : Int), .int .u8 (a1 : Int), .int .u8 (a2 : Int), .int .u8 (a3 : Int), .int .u8 (a4 : Int), .int .u8 (a5 : Int), .int .u8 (a6 : Int), .int .u8 (a7 : Int)]] rfl (by kernel_rfl) (by rfl) ((HX.out _).mono fun e w' he => ⟨he.1, hS.below he.2⟩) ?_ ?_
  · (go_simp; try (with_reducible rfl))
  clear hS
  intro w1 hS
  try simp only [Act.put, List.setIfInBounds_toArray, List.set_cons_zero, List.set_cons_succ]
  refine only_call (i := 3) 28 #[.agg #[.int .u8 (b0 : Int), .int .u8 (b1 : Int), .int .u8 (b2 : Int), .int .u8 (b3 : Int), .int .u8 (b4 : Int), .int .u8 (b5 : Int), .int .u8 (b6 : Int), .int .u8 (b7 : Int)]] rfl (by kernel_rfl) (by rfl) ((HY.out _).mono fun e w' he => ⟨he.1, hS.below he.2⟩) ?_ ?_
  · (go_simp; try (with_reducible rfl))
  clear hS
  intro w3 hS
  try simp only [Act.put, List.setIfInBounds_toArray, List.set_cons_zero, List.set_cons_succ]
  refine only_call (i := 4) 9 #[.int .u64 (x : Int), .int .u64 (y : Int)] rfl (by kernel_rfl) (by rfl) ((HBX.out _).mono fun e w' he => ⟨he.1, hS.below he.2⟩) ?_ ?_
  · (go_simp; try (with_reducible rfl))
  clear hS
  intro w4 hS
  try simp only [Act.put, List.setIfInBounds_toArray, List.set_cons_zero, List.set_cons_succ]
  refine only_call (i := 5) 29 #[.agg #[.int .u64 (x : Int), .int .u64 (y : Int)], .int .i64 1] rfl (by kernel_rfl) (by rfl) ((HWO.out _).mono fun e w' he => ⟨he.1, hS.below he.2⟩) ?_ ?_
  · (go_simp; try (with_reducible rfl))
  clear hS
  intro w5 hS
  try simp only [Act.put, List.setIfInBounds_toArray, List.set_cons_zero, List.set_cons_succ]
  refine only (i := 7) rfl (by kernel_rfl) (by rfl) (fun K hK => ?_)
  obtain ⟨hS1, hS2, hS3, a, b, hS4⟩ := id hS
  obtain ⟨c0, c1, f0, f1⟩ := obj_cells hS4
  go_simp
  have hr := obj_set2 hS4 (.int .u64 (x' : Int)) (.int .u64 (y' : Int))
  have hS9 := hS.store (by omega) (by omega) (by omega) (.int .u64 (x' : Int)) (.int .u64 (y' : Int))
  refine hK.out _ _ hS9 ?_
  clear hK
  try simp only [Act.put, List.setIfInBounds_toArray, List.set_cons_zero, List.set_cons_succ]
  clear c0 c1 f0 f1 hS1 hS2 hS3 hS4 hS
  have hS := hS9; clear hS9
  refine give_val (i := 8) (v := ?_) rfl (by kernel_rfl) (by kernel_rfl) (by kernel_rfl) (fun _ _ _ h => h) (by rfl) (fun u hu => ?_) hS ?_
  rotate_left
  · ((obtain ⟨_, hu2, hu3, _⟩ := hu; obtain ⟨⟨c0, c1, c2, c3, c4, c5, c6, c7⟩, _⟩ := obj_cells8 hu2; obtain ⟨⟨d0, d1, d2, d3, d4, d5, d6, d7⟩, _⟩ := obj_cells8 hu3; clear hu2 hu3); go_simp; try (with_reducible rfl))
  try simp only [Act.put, List.setIfInBounds_toArray, List.set_cons_zero, List.set_cons_succ]
  refine give_val (i := 9) (v := ?_) rfl (by kernel_rfl) (by kernel_rfl) (by kernel_rfl) (fun _ _ _ h => h) (by rfl) (fun u hu => ?_) hS ?_
  rotate_left
  · ((obtain ⟨_, hu2, hu3, _⟩ := hu; obtain ⟨⟨c0, c1, c2, c3, c4, c5, c6, c7⟩, _⟩ := obj_cells8 hu2; obtain ⟨⟨d0, d1, d2, d3, d4, d5, d6, d7⟩, _⟩ := obj_cells8 hu3; clear hu2 hu3); go_simp; try (with_reducible rfl))
  try simp only [Act.put, List.setIfInBounds_toArray, List.set_cons_zero, List.set_cons_succ]
  refine wpAnyH_done (by kernel_rfl) (NoPanic.normal ?_) _
  have hb := hS.1
  clear hS
  generalize ((w5.setCell _ _).setCell _ _) = w9 at *
  go_wp2
  refine bodyPost_ret (results_cell_row2 rfl _ _ w.heap.size _ _ _ _ rfl hr Try.underlying27 rfl (by kernel_rfl)) rfl ?_
  exact ⟨rfl, hb⟩

end Go.Proofs.Ytdnckiaeeikbhaa
