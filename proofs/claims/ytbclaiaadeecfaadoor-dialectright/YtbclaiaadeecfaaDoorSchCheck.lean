/-
  What Check, the document's Check and its Right answer: for every schema of up to 1000 specs, in every world.
-/
import Derived.Test.YtbclaiaadeecfaaDoorSchOf
import Derived.Test.YtbclaiaadeecfaaDoorSpcCheck
namespace Go.Proofs.YtbclaiaadeecfaaDoor
open Go.RowKit

set_option maxHeartbeats 800000 in
theorem schk_style (st v : Int) (A : Option Addr) (len cap : Nat) (w : World) (h : st ≠ 1 ∧ st ≠ 2) :
    Calls Tryd.prog 12 #[.agg #[.int .i64 st, .int .i64 v, .slice A len cap]] w fun e w' => e = .returned (.tuple #[.int .i64 1, .int .i64 (-1)]) ∧ Below w.heap.size w w' := by
  have t1 : (st != 1) = true := by simpa using h.1
  have t2 : (st != 2) = true := by simpa using h.2
  clear h
  go_enter Tryd.func12, Tryd.ntmps12
  go_wp2
  go_ret2
  exact ⟨rfl, below_al _ _⟩
set_option maxHeartbeats 800000 in
theorem schk_version (st v : Int) (A : Option Addr) (len cap : Nat) (w : World) (hst : st = 1 ∨ st = 2) (h : v < 0 ∨ 9 < v) :
    Calls Tryd.prog 12 #[.agg #[.int .i64 st, .int .i64 v, .slice A len cap]] w fun e w' => e = .returned (.tuple #[.int .i64 7, .int .i64 (-1)]) ∧ Below w.heap.size w w' := by
  by_cases h1 : v < 0
  · have t1 : decide (v < 0) = true := by simpa using h1
    clear h h1
    rcases hst with rfl | rfl <;>
    · go_enter Tryd.func12, Tryd.ntmps12
      go_wp2
      go_ret2
      exact ⟨rfl, below_al _ _⟩
  · have t1 : decide (v < 0) = false := by simpa using h1
    have t2 : decide (9 < v) = true := by simp; omega
    clear h h1
    rcases hst with rfl | rfl <;>
    · go_enter Tryd.func12, Tryd.ntmps12
      go_wp2
      go_ret2
      exact ⟨rfl, below_al _ _⟩
set_option maxHeartbeats 3200000 in
theorem schk_list (st v : Int) (A : Option Addr) (cap : Nat) (l : List Sp) (w : World) (hst : st = 1 ∨ st = 2) (hv : ¬ (v < 0 ∨ 9 < v)) (hI : Spl w A l) (hn : l.length ≤ 1000) :
    Calls Tryd.prog 12 #[.agg #[.int .i64 st, .int .i64 v, .slice A l.length cap]] w fun e w' => e = .returned (.tuple #[.int .i64 (schL 0 0 l).1, .int .i64 (schL 0 0 l).2]) ∧ Below w.heap.size w w' := by
  have t1 : decide (v < 0) = false := by simp; omega
  have t2 : decide (9 < v) = false := by simp; omega
  have HI := Lib.hid hI
  clear hI hv
  generalize hlen : l.length = len at *
  have HLEN := Lib.hid hlen
  clear hlen
  generalize hR : schL 0 0 l = R
  have HR0 := Lib.hid hR
  clear hR
  rcases hst with rfl | rfl <;>
  · go_enter Tryd.func12, Tryd.ntmps12
    go_wp2
    go_loopw [4, 29] (fun y i wr => ∃ (k : Nat) (last : Int), k ≤ len ∧ i = .int .i64 (k : Int) ∧ y = .int .i64 last ∧ schL last k (l.drop k) = R ∧ Below w.heap.size w wr) (fun _ i _ => len - (intOf i).toNat)
    case atStart => exact ⟨0, 0, Nat.zero_le _, rfl, rfl, HR0.out, below_al _ _⟩
    case round =>
      obtain ⟨k, last, hk, rfl, rfl, hrest, hb⟩ := hrel
      have HR := Lib.hid hrest
      have HB := Lib.hid hb
      clear hrest hb
      by_cases hlt : k < len
      · have hkl : k < l.length := by have := HLEN.out; omega
        obtain ⟨a, n, c, f, lo, hi, rfl, hx, c0, c1, c2, c3, c4⟩ := (HI.out.below HB.out).at_ hkl
        have HD := Lib.hid (drop_sp hkl)
        rw [hx] at HD
        have HC := Lib.hid (fun W => spcheck_any n c f lo hi W)
        have hzz : spkS (n, c, f, lo, hi) = spk n c f lo hi := rfl
        generalize spk n c f lo hi = z at *
        have HZ := Lib.hid hzz
        clear hzz hx hkl
        by_cases hz : z = 0
        · subst hz
          by_cases ho : n ≤ last
          · have to : decide (n ≤ last) = true := by simpa using ho
            have HE := Lib.hid (schL_order (last := last) (i := k) (x := (n, c, f, lo, hi)) (r := l.drop (k + 1)) HZ.out ho)
            clear ho
            go_wp2_with fail
            refine (HC.out _).mono ?_
            rintro e w1 ⟨rfl, hb1⟩
            have HB1 := Lib.hid (hbt (hbt HB.out (below_al _ _)) hb1)
            obtain ⟨d0, d1, d2, d3, d4⟩ := obj_cells5 (obj_below (heap_alloc_new wr (.cells #[.int .i64 n, .int .i64 c, .int .i64 f, .int .i64 lo, .int .i64 hi] 28)) hb1)
            clear hb1 c0 c1 c2 c3 c4
            go_wp2
            go_ret2
            exact ⟨by rw [← HR.out, HD.out, HE.out]; rfl, HB1.out⟩
          · have to : decide (n ≤ last) = false := by simpa using ho
            have HE := Lib.hid (schL_ok (last := last) (i := k) (x := (n, c, f, lo, hi)) (r := l.drop (k + 1)) HZ.out ho)
            clear ho
            go_wp2_with fail
            refine (HC.out _).mono ?_
            rintro e w1 ⟨rfl, hb1⟩
            have HB1 := Lib.hid (hbt (hbt HB.out (below_al _ _)) hb1)
            obtain ⟨d0, d1, d2, d3, d4⟩ := obj_cells5 (obj_below (heap_alloc_new wr (.cells #[.int .i64 n, .int .i64 c, .int .i64 f, .int .i64 lo, .int .i64 hi] 28)) hb1)
            clear hb1 c0 c1 c2 c3 c4
            go_wp2
            go_roundw
            case rel => exact ⟨k + 1, n, by omega, by go_num, rfl, by rw [← HR.out, HD.out, HE.out], HB1.out⟩
            case measure => simp [intOf]; omega
        · have tz : (z == 0) = false := by simpa using hz
          have HE := Lib.hid (schL_bad (last := last) (i := k) (x := (n, c, f, lo, hi)) (r := l.drop (k + 1)) (by rw [HZ.out]; exact hz))
          clear hz
          go_wp2_with fail
          refine (HC.out _).mono ?_
          rintro e w1 ⟨rfl, hb1⟩
          have HB1 := Lib.hid (hbt (hbt HB.out (below_al _ _)) hb1)
          clear hb1 c0 c1 c2 c3 c4
          go_wp2
          go_ret2
          exact ⟨by rw [← HR.out, HD.out, HE.out, HZ.out]; rfl, HB1.out⟩
      · have HE := Lib.hid (drop_end (l := l) (k := k) (by have := HLEN.out; omega))
        go_wp2
        go_ret2
        exact ⟨by rw [← HR.out, HE.out]; rfl, HB.out⟩
theorem schk_any (st v : Int) (A : Option Addr) (cap : Nat) (l : List Sp) (w : World) (hI : Spl w A l) (hn : l.length ≤ 1000) :
    Calls Tryd.prog 12 #[.agg #[.int .i64 st, .int .i64 v, .slice A l.length cap]] w fun e w' => e = .returned (.tuple #[.int .i64 (schN st v l).1, .int .i64 (schN st v l).2]) ∧ Below w.heap.size w w' := by
  by_cases h1 : st ≠ 1 ∧ st ≠ 2
  · rw [schN_style h1]; exact schk_style st v A _ cap w h1
  by_cases h2 : v < 0 ∨ 9 < v
  · rw [schN_version h1 h2]; exact schk_version st v A _ cap w (by omega) h2
  rw [schN_list h1 h2]; exact schk_list st v A cap l w (by omega) h2 hI hn


end Go.Proofs.YtbclaiaadeecfaaDoor
